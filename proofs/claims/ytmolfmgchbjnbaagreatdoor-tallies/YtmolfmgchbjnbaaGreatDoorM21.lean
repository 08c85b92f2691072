import Derived.Maps.AppendAt
import Derived.Laws.OwnMore
import Derived.Shelf.Strings.SlTrimAscii
import Derived.Test.YtmolfmgchbjnbaaGreatDoorRows
import Derived.Lib.AppendIntMem
import Derived.Lib.ItoaLen
import Derived.Deep.RegionHeld
import Derived.Test.YtmolfmgchbjnbaaGreatDoorM00
import Derived.Test.YtmolfmgchbjnbaaGreatDoorM01
import Derived.Test.YtmolfmgchbjnbaaGreatDoorM05
import Derived.Test.YtmolfmgchbjnbaaGreatDoorM02
set_option linter.unusedSimpArgs false
set_option linter.unusedVariables false
namespace Go.Proofs.YtmolfmgchbjnbaaGreatDoor
open Go.RowKit
structure Chg (tag : Nat → Nat) (S : List Nat) (W W' : World) : Prop where
 os : W'.os = W.os
 tape : W'.tape = W.tape
 output : W'.output = W.output
 size : W.heap.size ≤ W'.heap.size
 block : ∀ k, k < W.heap.size → tag k ∉ S → W'.heap[k]? = W.heap[k]?
theorem Chg.of_fr {tag : Nat → Nat} {S : List Nat} {W W' : World} (h : Fr [] W W') : Chg tag S W W' := ⟨h.os, h.tape, h.output, h.size, fun k hk _ => h.block k hk (by simp)⟩
theorem Chg.refl (tag : Nat → Nat) (S : List Nat) (W : World) : Chg tag S W W := Chg.of_fr (Fr.refl [] W)
theorem Chg.setCell {tag : Nat → Nat} {S : List Nat} (W : World) {p : Addr} (hp : tag p.block ∈ S) (u : Value) : Chg tag S W (W.setCell p u) :=
 ⟨rfl, rfl, rfl, by simp [World.setCell], fun k hk hn => Below.heap_setCell _ _ _ _ (by rintro rfl; exact hn hp)⟩
theorem Chg.grown {tag : Nat → Nat} {S : List Nat} {W W' : World} {row : Option Nat} (h : W.grownBy W' row) (hr : ∀ k, row = some k → tag k ∈ S) : Chg tag S W W' :=
 ⟨h.os, h.tape, h.output, h.size, fun k hk hn => h.block k hk (fun e => hn (hr k e.symm))⟩
def Tg (tag : Nat → Nat) (v : Value) (t : Nat) : Prop := ∀ g, v.ownBlock = some g → tag g = t
theorem Tg.nil (tag : Nat → Nat) (t : Nat) : Tg tag (.slice none 0 0) t := fun g h => by cases h
theorem Tg.re {W : World} {tag tag' : Nat → Nat} {v : Value} {t : Nat} (h : Tg tag v t) (hl : ∀ g, v.ownBlock = some g → g < W.heap.size) (ht : ∀ k, k < W.heap.size → tag k = t → tag' k = t) : Tg tag' v t := fun g hg => ht g (hl g hg) (h g hg)
def up {α : Type} (f : Nat → α) (i : Nat) (x : α) : Nat → α := fun j => if j = i then x else f j
theorem up_same {α : Type} (f : Nat → α) (i : Nat) (x : α) : up f i x i = x := by simp [up]
theorem up_off {α : Type} (f : Nat → α) {i j : Nat} (x : α) (h : j ≠ i) : up f i x j = f j := by simp [up, h]
theorem up_up {α : Type} (f : Nat → α) (i : Nat) (x y : α) : up (up f i x) i y = up f i y := by
 funext j; by_cases h : j = i <;> simp [up, h]
theorem up_id {α : Type} (f : Nat → α) (i : Nat) : up f i (f i) = f := by
 funext j; by_cases h : j = i
 ·subst h; simp [up]
 ·simp [up, h]
def newTag (tag : Nat → Nat) (n t : Nat) : Nat → Nat := fun k => if k < n then tag k else t
theorem newTag_old {tag : Nat → Nat} {n t k : Nat} (h : k < n) : newTag tag n t k = tag k := by simp [newTag, h]
theorem newTag_new {tag : Nat → Nat} {n t k : Nat} (h : n ≤ k) : newTag tag n t k = t := by simp [newTag]; omega
theorem add_plainA (g j : Nat) : (⟨g, 0, none⟩ : Addr).add j = ⟨g, j, none⟩ := by cases j <;> simp [Addr.add]
theorem own_of_block {W W' : World} {B : Nat} {e : TypeId} {k : Nat} {v : Value} {n : Nat} {xs : List Value} (h : W.ownsRow B e k v n xs) (hb : ∀ g, v.ownBlock = some g → W'.heap[g]? = W.heap[g]?) : W'.ownsRow B e k v n xs := by
 refine ⟨h.1, ?_⟩
 rcases h.2 with h' | ⟨g, cap, cur, rfl, hg, hh, r⟩
 ·exact .inl h'
 ·exact .inr ⟨g, cap, cur, rfl, hg, by rw [hb g rfl]; exact hh, r⟩
theorem own_form {W : World} {B : Nat} {e : TypeId} {k : Nat} {v : Value} {n : Nat} {xs : List Value} (h : W.ownsRow B e k v n xs) : ∃ o cap, v = .slice o n cap := by
 rcases h.2 with ⟨h', rfl⟩ | ⟨g, cap, cur, rfl, hg, hh, r⟩
 ·exact ⟨none, 0, h'⟩
 ·exact ⟨_, _, rfl⟩
theorem own_some {w : World} {B : Nat} {e : TypeId} {z n : Nat} {v : Value} {xs : List Value} (h : w.ownsRow B e z v n xs) (hn : 0 < n) : ∃ g cap, v = .slice (some ⟨g, 0, none⟩) n cap ∧ n ≤ cap ∧ g < w.heap.size := by
 rcases h.2 with ⟨_, h0⟩ | ⟨g, cap, cur, hv, hb, hg, hnc, _⟩
 ·omega
 ·exact ⟨g, cap, hv, hnc, (Array.getElem?_eq_some_iff.1 hg).1⟩
theorem own_cell {w : World} {B : Nat} {e : TypeId} {z g n cap : Nat} {xs : List Value} (h : w.ownsRow B e z (.slice (some ⟨g, 0, none⟩) n cap) n xs) {j : Nat} {u : Value} (hj : xs[j]? = some u) : w.cell? ⟨g, j, none⟩ = some u := by
 have := h.cells (g := g) rfl j u hj
 rwa [add_plainA] at this
theorem own_thaw {w : World} {B : Nat} {e : TypeId} {z g n cap : Nat} {xs : List Value} (h : w.ownsRow B e z (.slice (some ⟨g, 0, none⟩) n cap) n xs) (j : Nat) : w.frozen? ⟨g, j, none⟩ = false := by
 rcases h.2 with ⟨h', _⟩ | ⟨g', cap', cur, h', hb, hg, hnc, hcm, hcs, ht⟩
 ·cases h'
 ·simp only [Value.slice.injEq, Option.some.injEq, Addr.mk.injEq, and_true, true_and] at h'
  obtain ⟨rfl, rfl⟩ := h'
  unfold World.frozen?
  rw [hg]
  simp
theorem own_set {w : World} {B : Nat} {e : TypeId} {z g n cap : Nat} {xs : List Value} (h : w.ownsRow B e z (.slice (some ⟨g, 0, none⟩) n cap) n xs) {j : Nat} (hj : j < n * z) (u : Value) : (w.setCell ⟨g, j, none⟩ u).ownsRow B e z (.slice (some ⟨g, 0, none⟩) n cap) n (xs.set j u) := by
 refine ⟨by rw [List.length_set]; exact h.1, ?_⟩
 rcases h.2 with ⟨h', _⟩ | ⟨g', cap', cur, h', hb, hg, hnc, hcm, hcs, ht⟩
 ·cases h'
 ·simp only [Value.slice.injEq, Option.some.injEq, Addr.mk.injEq, and_true, true_and] at h'
  obtain ⟨rfl, rfl⟩ := h'
  have hjc : j < cur.size := by
   rw [hcs]
   exact Nat.lt_of_lt_of_le hj (Nat.mul_le_mul_right z hnc)
  refine .inr ⟨g, cap, cur.setIfInBounds j u, rfl, hb, ?_, hnc, hcm, by simpa using hcs, ?_⟩
  ·have hl := (Array.getElem?_eq_some_iff.1 hg).1
   have hgg : w.heap[g] = .cells cur e (0, 0) := (Array.getElem?_eq_some_iff.1 hg).2
   unfold World.setCell
   simp [hl, Array.getElem_modify, hgg]
  ·rw [← ht]
   simp [List.take_set]
theorem own_shorter {w : World} {B : Nat} {e : TypeId} {z g n n' cap : Nat} {xs : List Value} (h : w.ownsRow B e z (.slice (some ⟨g, 0, none⟩) n' cap) n' xs) (hn : n ≤ n') : w.ownsRow B e z (.slice (some ⟨g, 0, none⟩) n cap) n (xs.take (n * z)) := by
 have hx := h.1
 rcases h.2 with ⟨h', _⟩ | ⟨g', cap', cur, h', hb, hg, hnc, hcm, hcs, ht⟩
 ·cases h'
 ·simp only [Value.slice.injEq, Option.some.injEq, Addr.mk.injEq, and_true, true_and] at h'
  obtain ⟨rfl, rfl⟩ := h'
  have hm : n * z ≤ n' * z := Nat.mul_le_mul_right z hn
  refine ⟨by rw [List.length_take, hx]; omega, .inr ⟨g, cap, cur, rfl, hb, hg, by omega, hcm, hcs, ?_⟩⟩
  rw [← ht, List.take_take]
  congr 1
  omega
theorem own_one {w : World} {b : Nat} {e : TypeId} {z : Nat} {xs : List Value} (h : w.heap[b]? = some (.cells xs.toArray e (0, 0))) (hz : xs.length = z) : w.ownsRow 0 e z (.slice (some ⟨b, 0, none⟩) 1 1) 1 xs :=
 ⟨by omega, .inr ⟨b, 1, xs.toArray, rfl, Nat.zero_le _, h, Nat.le_refl _, by decide, by simp [hz], by simp [← hz]⟩⟩
structure Rw where
 v : Value
 e : TypeId
 z : Nat
 n : Nat
 xs : List Value
def MapAt (W : World) (b : Nat) (l : List (Value × Value)) : Prop := ∃ es clock, W.heap[b]? = some (.map es clock) ∧ es.toList.map (fun e => (e.key, e.val)) = l
theorem MapAt.lt {W : World} {b : Nat} {l : List (Value × Value)} (h : MapAt W b l) : b < W.heap.size := by
 obtain ⟨es, c, h, -⟩ := h
 exact (Array.getElem?_eq_some_iff.1 h).1
theorem MapAt.of_block {W W' : World} {b : Nat} {l : List (Value × Value)} (h : MapAt W b l) (hb : W'.heap[b]? = W.heap[b]?) : MapAt W' b l := by
 obtain ⟨es, c, h, r⟩ := h
 exact ⟨es, c, hb.trans h, r⟩
structure Sto (W : World) (tag : Nat → Nat) (lv : Nat → Bool) (R : Nat → Rw) (mp : Nat → Option (Nat × List (Value × Value))) : Prop where
 rows : ∀ i, lv i = true → W.ownsRow 0 (R i).e (R i).z (R i).v (R i).n (R i).xs ∧ Tg tag (R i).v i
 maps : ∀ i b l, mp i = some (b, l) → MapAt W b l ∧ tag b = i
 far : ∀ i, lv i = true → mp i = none
 num : ∀ i, lv i = true ∨ mp i ≠ none → 10 ≤ i
structure Kp (tag tag' : Nat → Nat) (W W' : World) : Prop where
 os : W'.os = W.os
 tape : W'.tape = W.tape
 output : W'.output = W.output
 size : W.heap.size ≤ W'.heap.size
 ret : ∀ k, k < W.heap.size → tag' k = tag k
 blk : ∀ k, k < W.heap.size → tag k < 10 → W'.heap[k]? = W.heap[k]?
theorem Kp.refl (tag : Nat → Nat) (W : World) : Kp tag tag W W := ⟨rfl, rfl, rfl, Nat.le_refl _, fun _ _ => rfl, fun _ _ _ => rfl⟩
theorem Kp.trans {t1 t2 t3 : Nat → Nat} {a b c : World} (h : Kp t1 t2 a b) (k : Kp t2 t3 b c) : Kp t1 t3 a c :=
 ⟨k.os.trans h.os, k.tape.trans h.tape, k.output.trans h.output, Nat.le_trans h.size k.size, fun i hi => (k.ret i (Nat.lt_of_lt_of_le hi h.size)).trans (h.ret i hi), fun i hi ht => (k.blk i (Nat.lt_of_lt_of_le hi h.size) (by rw [h.ret i hi]; exact ht)).trans (h.blk i hi ht)⟩
theorem Kp.of_fr {tag tag' : Nat → Nat} {a b : World} (h : Fr [] a b) (hr : ∀ k, k < a.heap.size → tag' k = tag k) : Kp tag tag' a b := ⟨h.os, h.tape, h.output, h.size, hr, fun k hk _ => h.block k hk (by simp)⟩
theorem Kp.chg {tag tag' : Nat → Nat} {W W' : World} {S : List Nat} (h : Chg tag S W W') (hr : ∀ k, k < W.heap.size → tag' k = tag k) (hS : ∀ x ∈ S, 10 ≤ x) : Kp tag tag' W W' :=
 ⟨h.os, h.tape, h.output, h.size, hr, fun k hk ht => h.block k hk (fun hx => by have := hS _ hx; omega)⟩
theorem Kp.cell {tag tag' : Nat → Nat} {W W' : World} (h : Kp tag tag' W W') {p : Addr} (hp : p.block < W.heap.size) (hn : tag p.block < 10) : W'.cell? p = W.cell? p := World.cell?_of_block (w := W) (h.blk p.block hp hn)
section
variable {W W' : World} {tag tag' : Nat → Nat} {lv : Nat → Bool} {R : Nat → Rw} {mp : Nat → Option (Nat × List (Value × Value))} {S : List Nat}
theorem Sto.chg (h : Sto W tag lv R mp) (hc : Chg tag S W W') (hr : ∀ k, k < W.heap.size → tag' k = tag k) (hS : ∀ i, 10 ≤ i → i ∉ S) : Sto W' tag' lv R mp := by
 refine ⟨fun i hi => ?_, fun i b l hm => ?_, h.far, h.num⟩
 ·obtain ⟨r, t⟩ := h.rows i hi
  have hn := h.num i (.inl hi)
  exact ⟨own_of_block r fun g hg => hc.block g (r.lt g hg).2 (by rw [t g hg]; exact hS i hn), t.re (fun g hg => (r.lt g hg).2) (fun k hk e => by rw [hr k hk]; exact e)⟩
 ·obtain ⟨m, t⟩ := h.maps i b l hm
  have hn := h.num i (.inr (by rw [hm]; simp))
  exact ⟨m.of_block (hc.block b m.lt (by rw [t]; exact hS i hn)), by rw [hr b m.lt]; exact t⟩
theorem Sto.kp (h : Sto W tag lv R mp) (hf : Fr [] W W') (hr : ∀ k, k < W.heap.size → tag' k = tag k) : Sto W' tag' lv R mp := h.chg (S := []) (Chg.of_fr hf) hr (by simp)
theorem Sto.frm (h : Sto W tag lv R mp) (hf : Fr [] W W') (t : Nat) : Sto W' (newTag tag W.heap.size t) lv R mp := h.kp hf fun k hk => newTag_old hk
theorem Sto.but (h : Sto W tag lv R mp) {i : Nat} (hc : Chg tag [i] W W') (hr : ∀ k, k < W.heap.size → tag' k = tag k) : ∀ q, q ≠ i → (lv q = true → W'.ownsRow 0 (R q).e (R q).z (R q).v (R q).n (R q).xs ∧ Tg tag' (R q).v q) ∧ ∀ b l, mp q = some (b, l) → MapAt W' b l ∧ tag' b = q := by
 intro q hq
 refine ⟨fun hl => ?_, fun b l hm => ?_⟩
 ·obtain ⟨r, t⟩ := h.rows q hl
  exact ⟨own_of_block r fun g hg => hc.block g (r.lt g hg).2 (by rw [t g hg]; simpa using hq), t.re (fun g hg => (r.lt g hg).2) (fun k hk e => by rw [hr k hk]; exact e)⟩
 ·obtain ⟨m, t⟩ := h.maps q b l hm
  exact ⟨m.of_block (hc.block b m.lt (by rw [t]; simpa using hq)), by rw [hr b m.lt]; exact t⟩
theorem Sto.turn (h : Sto W tag lv R mp) {i : Nat} (hm : mp i = none) (hi : 10 ≤ i) (hc : Chg tag [i] W W') (hr : ∀ k, k < W.heap.size → tag' k = tag k) {r : Rw} (hown : W'.ownsRow 0 r.e r.z r.v r.n r.xs) (ht : Tg tag' r.v i) : Sto W' tag' (up lv i true) (up R i r) mp := by
 refine ⟨fun q hq => ?_, fun q b l hq => ?_, fun q hq => ?_, fun q hq => ?_⟩
 ·by_cases e : q = i
  ·subst e; rw [up_same]; exact ⟨hown, ht⟩
  ·rw [up_off _ _ e] at hq ⊢
   exact (h.but hc hr q e).1 hq
 ·by_cases e : q = i
  ·subst e; rw [hm] at hq; cases hq
  ·exact (h.but hc hr q e).2 b l hq
 ·by_cases e : q = i
  ·subst e; exact hm
  ·rw [up_off _ _ e] at hq; exact h.far q hq
 ·by_cases e : q = i
  ·subst e; exact hi
  ·rw [up_off _ _ e] at hq; exact h.num q hq
theorem up_true {i : Nat} (hl : lv i = true) : up lv i true = lv := by rw [← hl]; exact up_id lv i
theorem Sto.put (h : Sto W tag lv R mp) {i g n cap z : Nat} {e : TypeId} {xs : List Value} (hl : lv i = true) (hR : R i = ⟨.slice (some ⟨g, 0, none⟩) n cap, e, z, n, xs⟩) {j : Nat} (hj : j < n * z) (u : Value) :
  Sto (W.setCell ⟨g, j, none⟩ u) tag lv (up R i ⟨.slice (some ⟨g, 0, none⟩) n cap, e, z, n, xs.set j u⟩) mp ∧ Kp tag tag W (W.setCell ⟨g, j, none⟩ u) := by
 obtain ⟨r, t⟩ := h.rows i hl
 rw [hR] at r t
 have hg : tag g = i := t g rfl
 have hc : Chg tag [i] W (W.setCell ⟨g, j, none⟩ u) := Chg.setCell W (by simp [hg]) u
 have hn := h.num i (.inl hl)
 have := h.turn (h.far i hl) hn hc (fun _ _ => rfl) (r := ⟨.slice (some ⟨g, 0, none⟩) n cap, e, z, n, xs.set j u⟩) (own_set r hj u) t
 rw [up_true hl] at this
 exact ⟨this, Kp.chg hc (fun _ _ => rfl) (by simpa using hn)⟩
theorem Sto.grow (h : Sto W tag lv R mp) {i : Nat} (hl : lv i = true) {e : TypeId} {z n : Nat} {v : Value} {xs : List Value} (hown : W'.ownsRow 0 e z v n xs) (hg : W.grownBy W' (R i).v.ownBlock) (hwh : v.ownBlock = (R i).v.ownBlock ∨ v.ownBlock = some W.heap.size) :
  Sto W' (newTag tag W.heap.size i) lv (up R i ⟨v, e, z, n, xs⟩) mp ∧ Kp tag (newTag tag W.heap.size i) W W' := by
 obtain ⟨r, t⟩ := h.rows i hl
 have hn := h.num i (.inl hl)
 have hc : Chg tag [i] W W' := Chg.grown hg (fun k hk => by rw [t k hk]; simp)
 have hr : ∀ k, k < W.heap.size → newTag tag W.heap.size i k = tag k := fun k hk => newTag_old hk
 have := h.turn (h.far i hl) hn hc hr (r := ⟨v, e, z, n, xs⟩) hown (fun g hg2 => by
  rcases hwh with h1 | h1
  ·rw [h1] at hg2
   rw [hr g (r.lt g hg2).2]
   exact t g hg2
  ·rw [h1] at hg2
   obtain rfl : W.heap.size = g := by simpa using hg2
   exact newTag_new (Nat.le_refl _))
 rw [up_true hl] at this
 exact ⟨this, Kp.chg hc hr (by simpa using hn)⟩
theorem Sto.cut (h : Sto W tag lv R mp) {i g n cap z n' : Nat} {e : TypeId} {xs : List Value} (hl : lv i = true) (hR : R i = ⟨.slice (some ⟨g, 0, none⟩) n cap, e, z, n, xs⟩) (hn : n' ≤ n) :
  Sto W tag lv (up R i ⟨.slice (some ⟨g, 0, none⟩) n' cap, e, z, n', xs.take (n' * z)⟩) mp := by
 obtain ⟨r, t⟩ := h.rows i hl
 rw [hR] at r t
 have := h.turn (h.far i hl) (h.num i (.inl hl)) (Chg.refl tag [i] W) (fun _ _ => rfl) (r := ⟨.slice (some ⟨g, 0, none⟩) n' cap, e, z, n', xs.take (n' * z)⟩) (own_shorter r hn) (fun g' hg' => t g' (by simpa [Value.ownBlock] using hg'))
 rwa [up_true hl] at this
theorem Sto.new (h : Sto W tag lv R mp) {i : Nat} (hm : mp i = none) (hi : 10 ≤ i) {r : Rw} (hf : Fr [] W W') (hown : W'.ownsRow 0 r.e r.z r.v r.n r.xs) (hwh : ∀ g, r.v.ownBlock = some g → W.heap.size ≤ g) :
  Sto W' (newTag tag W.heap.size i) (up lv i true) (up R i r) mp ∧ Kp tag (newTag tag W.heap.size i) W W' :=
 ⟨h.turn hm hi (Chg.of_fr hf) (fun k hk => newTag_old hk) hown (fun g hg => newTag_new (hwh g hg)), Kp.of_fr hf fun k hk => newTag_old hk⟩
theorem Sto.same (h : Sto W tag lv R mp) {R' : Nat → Rw} (hR : ∀ i, lv i = true → R' i = R i) : Sto W tag lv R' mp :=
 ⟨fun i hi => by rw [hR i hi]; exact h.rows i hi, h.maps, h.far, h.num⟩
theorem Sto.map (h : Sto W tag lv R mp) {i b : Nat} {l : List (Value × Value)} (hl : lv i = false) (hi : 10 ≤ i) (hc : Chg tag [i] W W') (hr : ∀ k, k < W.heap.size → tag' k = tag k) (hm : MapAt W' b l) (ht : tag' b = i) : Sto W' tag' lv R (up mp i (some (b, l))) := by
 refine ⟨fun q hq => ?_, fun q b' l' hq => ?_, fun q hq => ?_, fun q hq => ?_⟩
 ·by_cases e : q = i
  ·subst e; rw [hl] at hq; cases hq
  ·exact (h.but hc hr q e).1 hq
 ·by_cases e : q = i
  ·subst e
   rw [up_same] at hq
   cases hq
   exact ⟨hm, ht⟩
  ·rw [up_off _ _ e] at hq
   exact (h.but hc hr q e).2 b' l' hq
 ·by_cases e : q = i
  ·subst e; rw [hl] at hq; cases hq
  ·rw [up_off _ _ e]; exact h.far q hq
 ·by_cases e : q = i
  ·subst e; exact hi
  ·rw [up_off _ _ e] at hq; exact h.num q hq
end
end Go.Proofs.YtmolfmgchbjnbaaGreatDoor
namespace Go.Proofs.YtmolfmgchbjnbaaGreatDoor
open Go.RowKit
open Wire Flow Mach
theorem blank_set (c : UInt8) : ([32, 9, 10] : List UInt8).contains c = blankB c := by
 simp only [blankB, List.contains, List.elem, Bool.or_assoc]
 cases h1 : c == 32 <;> cases h2 : c == 9 <;> cases h3 : c == 10 <;> simp_all
theorem trimLeft_skip (l : List UInt8) : Lib.trimLeftS l [32, 9, 10] = skipL l := by
 unfold Lib.trimLeftS
 induction l with
 | nil => rfl
 | cons c l ih =>
  rw [List.dropWhile_cons, blank_set, skipL]
  by_cases h : blankB c = true
  ·rw [if_pos h, if_pos h]; exact ih
  ·rw [if_neg h, if_neg h]
theorem dropWhile_nil (p : UInt8 → Bool) (l : List UInt8) : (l.dropWhile p).isEmpty = l.all p := by
  induction l with
  | nil => rfl
  | cons c l ih =>
    rw [List.dropWhile_cons, List.all_cons]
    by_cases h : p c = true
    · rw [if_pos h, h, Bool.true_and]; exact ih
    · have h' : p c = false := by simpa using h
      rw [if_neg h, h']; rfl
theorem dropWhile_all (p : UInt8 → Bool) (l : List UInt8) : (l.dropWhile p).all p = l.all p := by
 induction l with
 | nil => rfl
 | cons c l ih =>
  rw [List.dropWhile_cons]
  by_cases h : p c = true
  ·rw [if_pos h, ih, List.all_cons, h, Bool.true_and]
  ·rw [if_neg h]
theorem trim_all (l : List UInt8) : (Lib.trimS l [32, 9, 10]).isEmpty = l.all blankB := by
 have hb : (fun c => ([32, 9, 10] : List UInt8).contains c) = blankB := by funext c; exact blank_set c
 unfold Lib.trimS Lib.trimLeftS Lib.trimRightS
 rw [hb, dropWhile_nil, List.all_reverse, dropWhile_all, List.all_reverse]
theorem tail_bl {x : ByteArray} {c : UInt8} {l : List UInt8} (h : x.data.toList = c :: l) : x.extract 1 x.size = ⟨l.toArray⟩ := by
 have hx : x = ⟨(c :: l).toArray⟩ := by
  cases x; simp at h ⊢; rw [← h]
 subst hx
 simp [ByteArray.extract, ByteArray.size, ByteArray.copySlice]
theorem bl_head {x : ByteArray} (h : 0 < x.size) : bl x = x[0] :: bl (x.extract 1 x.size) := by
 cases e : x.data.toList with
 | nil =>
  have : (bl x).length = x.size := bl_length x
  unfold bl at this
  rw [e] at this
  simp at this
  omega
 | cons c l =>
  rw [tail_bl e]
  have hc : x[0] = c := by
   have h1 : x[0] = x.data[0]'h := rfl
   have h2 : x.data.toList[0]? = some c := by rw [e]; rfl
   have h3 : x.data[0]? = some (x.data[0]'h) := Array.getElem?_eq_getElem h
   rw [← Array.getElem?_toList, h2] at h3
   rw [h1]
   exact (Option.some.inj h3).symm
  show x.data.toList = _
  rw [e, hc, bl_mk]
theorem bl_nil {x : ByteArray} (h : x.size = 0) : bl x = [] := List.length_eq_zero_iff.1 (by rw [bl_length]; exact h)
theorem size_pos {x : ByteArray} (h : x ≠ ⟨#[]⟩) : 0 < x.size := by
 rcases Nat.eq_zero_or_pos x.size with h0 | h0
 ·exact absurd (by rw [← mk_bl x, bl_nil h0]) h
 ·exact h0
theorem toList_ne {x : ByteArray} (h : 0 < x.size) : ¬ x.toList = [] := by
 rw [ByteArray.toList_eq]
 have := bl_head h
 unfold bl at this
 rw [this]
 simp
theorem toList_is {x : ByteArray} (h : 0 < x.size) : x.toList.isEmpty = false := by
 cases e : x.toList with
 | nil => exact absurd e (toList_ne h)
 | cons => rfl
end Go.Proofs.YtmolfmgchbjnbaaGreatDoor
namespace Go.Proofs.YtmolfmgchbjnbaaGreatDoor
open Go.RowKit
open Wire Flow Mach
theorem digL_bounds {n : Int} {k : Nat} {l : List UInt8} (h0 : 0 ≤ n) (h1 : n ≤ 1000000001) : 0 ≤ (digL n k l).1 ∧ (digL n k l).1 ≤ 1000000001 := by
 induction l generalizing n k with
 | nil => exact ⟨h0, h1⟩
 | cons c l ih =>
  unfold digL
  split
  ·rename_i hc
   have hd : 48 ≤ c.toNat ∧ c.toNat ≤ 57 := by simpa [digB] using hc
   refine ih ?_ ?_ <;> unfold more <;> split <;> omega
  ·exact ⟨h0, h1⟩
theorem readL_bounds (l : List UInt8) : -1000000001 ≤ (readL l).1 ∧ (readL l).1 ≤ 1000000001 := by
 have := digL_bounds (n := 0) (k := 0) (l := (signL (skipL l)).2) (by decide) (by decide)
 unfold readL
 dsimp only
 split <;> omega
def ScanP (s : ByteArray) (W : World) (e : Ending) (W' : World) : Prop :=
 e = .returned (.tuple #[.int .i64 (readL (bl s)).1, .string ⟨(readL (bl s)).2.2.toArray⟩, .bool (decide (0 < (readL (bl s)).2.1))]) ∧ Fr [] W W'
theorem pre_nil (c : UInt8) : Lib.hasPrefix ([] : List UInt8) [c] = false := rfl
theorem pre_cons (a c : UInt8) (l : List UInt8) : Lib.hasPrefix (a :: l) [c] = (c == a) := by simp [Lib.hasPrefix, List.isPrefixOf]
set_option maxRecDepth 100000 in
set_option maxHeartbeats 4000000 in
theorem scan_any (s : ByteArray) (hs : s.size ≤ 1048576) (W : World) : Calls Tryz.prog 280 #[.string s] W (ScanP s W) := by
  have HT : Hid _ := fun (W : World) => Any.strings_TrimLeft_laid Tryz.lays161 (by kernel_rfl) s ⟨#[32, 9, 10]⟩ W (by decide) (ascii_of_all (by decide))
  have HP : Hid _ := fun (x p : ByteArray) (W : World) => Tryz.strings_HasPrefix x p W
  go_enter Tryz.func280, Tryz.ntmps280
  go_wp2_with fail
  refine (HT.out _).mono ?_
  rintro e W1 ⟨rfl, hB⟩
  have F1 : Fr [] W W1 := Fr.of_below hB
  clear hB HT
  have e0 : Lib.trimLeftS s.data.toList ((⟨#[32, 9, 10]⟩ : ByteArray).data.toList) = skipL (bl s) := trimLeft_skip _
  rw [e0]
  clear e0
  obtain ⟨X, hX⟩ : ∃ X, skipL (bl s) = X := ⟨_, rfl⟩
  rw [hX]
  have hC : ∃ (neg : Bool) (l0 : List UInt8), signL X = (neg, l0) ∧ ((Lib.hasPrefix X [45] = false ∧ Lib.hasPrefix X [43] = false ∧ neg = false ∧ l0 = X) ∨ (∃ c, X = c :: l0 ∧ Lib.hasPrefix X [45] = neg ∧ Lib.hasPrefix X [43] = !neg)) := by
    cases X with
    | nil => exact ⟨false, [], rfl, .inl ⟨rfl, rfl, rfl, rfl⟩⟩
    | cons c l =>
      by_cases h1 : c = 43
      · subst h1; exact ⟨false, l, rfl, .inr ⟨_, rfl, by rw [pre_cons]; decide, by rw [pre_cons]; decide⟩⟩
      · by_cases h2 : c = 45
        · subst h2; exact ⟨true, l, rfl, .inr ⟨_, rfl, by rw [pre_cons]; decide, by rw [pre_cons]; decide⟩⟩
        · exact ⟨false, c :: l, by simp [signL, h1, h2], .inl ⟨by rw [pre_cons]; simpa using fun e => h2 e.symm, by rw [pre_cons]; simpa using fun e => h1 e.symm, rfl, rfl⟩⟩
  obtain ⟨neg, l0, hS, hC⟩ := hC
  have HS : Hid (readL (bl s) = ((if neg = true then -(digL 0 0 l0).1 else (digL 0 0 l0).1), (digL 0 0 l0).2)) := by
    show readL (bl s) = _
    unfold readL; rw [hX, hS]
  clear hS hX hs
  have hA : ∀ x : List UInt8, (⟨x.toArray⟩ : ByteArray).data.toList = x := fun x => by simp
  have hX1 : Lib.hasPrefix (⟨X.toArray⟩ : ByteArray).data.toList ((⟨#[45]⟩ : ByteArray).data.toList) = Lib.hasPrefix X [45] := by rw [hA]
  have hX2 : Lib.hasPrefix (⟨X.toArray⟩ : ByteArray).data.toList ((⟨#[43]⟩ : ByteArray).data.toList) = Lib.hasPrefix X [43] := by rw [hA]
  have HP1 : Hid _ := fun (W : World) => hX1 ▸ HP.out ⟨X.toArray⟩ ⟨#[45]⟩ W
  have HP2 : Hid _ := fun (W : World) => hX2 ▸ HP.out ⟨X.toArray⟩ ⟨#[43]⟩ W
  clear hX1 hX2 HP
  clear hA
  have hT : ∀ (c : UInt8) (l : List UInt8), (⟨(c :: l).toArray⟩ : ByteArray).extract 1 (l.length + 1) = ⟨l.toArray⟩ := fun c l => by
    have := tail_bl (x := ⟨(c :: l).toArray⟩) (c := c) (l := l) (by simp)
    simpa [ByteArray.size] using this
  rcases hC with ⟨p1, p2, rfl, rfl⟩ | ⟨c, rfl, p1, p2⟩
  rotate_left
  cases neg
  all_goals
    rw [p1] at HP1
    rw [p2] at HP2
    clear p1 p2
    try have hT' := hT c l0
    go_wp2_with (first | (refine (HP1.out _).mono ?_; rintro e w' ⟨rfl, rfl⟩) | (refine (HP2.out _).mono ?_; rintro e w' ⟨rfl, rfl⟩))
    clear HP1 HP2 hT
    try clear hT'
    go_loop [0, 2, 4] (fun a n f => ∃ (x : ByteArray) (m : Int) (k : Nat), a = .string x ∧ n = .int .i64 m ∧ f = .bool (decide (0 < k)) ∧ 0 ≤ m ∧ m ≤ 1000000001 ∧ Hid (digL m k (bl x) = digL 0 0 l0)) (fun a n f => match a with | .string x => x.size | _ => 0)
    case atStart => exact ⟨_, 0, 0, rfl, rfl, rfl, by omega, by omega, (by rw [bl_mk] : digL 0 0 (bl ⟨l0.toArray⟩) = digL 0 0 l0)⟩
    case round =>
      obtain ⟨x, m, k, rfl, rfl, rfl, h0, h1, hd⟩ := hrel
      by_cases hx : x = ⟨#[]⟩
      · subst hx
        have hend := HS.out
        rw [← hd.out] at hend
        clear hd HS
        go_wp2
        go_ret3
        refine ⟨?_, F1⟩
        rw [hend]
        rfl
      · have hx0 := size_pos hx
        have hx1 := toList_ne hx0
        have hx2 := toList_is hx0
        have hd8 := x[0].toNat_lt
        by_cases hg : digB x[0] = true
        · have hdd : 48 ≤ x[0].toNat ∧ x[0].toNat ≤ 57 := by simpa [digB] using hg
          have g1 : (48 : Int) ≤ x[0].toNat := by omega
          have g2 : (x[0].toNat : Int) ≤ 57 := by omega
          have hm : Hid (more m x[0] = min (10 * m + ((x[0].toNat : Int) - 48)) 1000000001) := by
            show more m x[0] = _
            unfold more
            split <;> omega
          have hn : 0 ≤ min (10 * m + ((x[0].toNat : Int) - 48)) 1000000001 := by omega
          go_wp2
          refine ⟨⟨_, _, k + 1, rfl, rfl, by simp, hn, by omega, ?_⟩, by simp [ByteArray.size_extract]; omega⟩
          have := hd.out
          rw [bl_head hx0, digL, if_pos hg, hm.out] at this
          exact this
        · have hg' : digB x[0] = false := by simpa using hg
          have hend := HS.out
          rw [← hd.out, bl_head hx0, digL, if_neg hg, ← bl_head hx0] at hend
          clear hd HS
          by_cases g1 : (48 : Int) ≤ x[0].toNat
          · have g2 : ¬ (x[0].toNat : Int) ≤ 57 := by
              intro h
              exact hg (by simp [digB]; omega)
            go_wp2
            go_ret3
            refine ⟨?_, F1⟩
            rw [hend, mk_bl]
            rfl
          · go_wp2
            go_ret3
            refine ⟨?_, F1⟩
            rw [hend, mk_bl]
            rfl
end Go.Proofs.YtmolfmgchbjnbaaGreatDoor
namespace Go.Proofs.YtmolfmgchbjnbaaGreatDoor
open Go.RowKit
open Wire Flow Mach
abbrev vlV (k n : Int) (s : ByteArray) : Value := .agg #[.int .u8 k, .int .i64 n, .string s]
def vN (v : Val) : Int := if v.kind = 1 then v.n else if v.kind = 0 ∨ v.kind = 2 then 0 else numT v.s
def vS (v : Val) : ByteArray := if v.kind = 0 ∨ v.kind = 1 then ⟨#[]⟩ else v.s
def vV (v : Val) : Value := vlV v.kind (vN v) (vS v)
def powNm : String := Rows.echoRow.named.getD 4 ""
def PowTab (w : World) : Prop := Lib.TabIs Tryz.prog w powNm .u64 Lib.pow10Tab
theorem fr_grow (w : World) (k : Nat) (os : Array Obj) : Fr [] w (Go.Sort.grow (w.drewN k) os) :=
 ⟨rfl, rfl, rfl, by simp [Go.Sort.grow, World.drewN], fun i hi _ => by simp only [Go.Sort.grow, World.drewN]; exact Array.getElem?_append_left hi⟩
def itoaB (n : Int) : ByteArray := ⟨(Lib.itoa n).toArray⟩
theorem itoa_any (n : Int) (w : World) (h0 : -9223372036854775808 ≤ n) (h1 : n ≤ 9223372036854775807) (ht : PowTab w) :
  Calls Tryz.prog 12 #[.int .i64 n] w fun e w' => e = .returned (.string (itoaB n)) ∧ Fr [] w w' :=
 (Any.strconv_Itoa Tryz.laysM171 n h0 h1 w ht).mono fun e w' ⟨he, k, os, hw⟩ => ⟨he, by rw [hw]; exact fr_grow w k os⟩
theorem PowTab.fr {w w' : World} (h : PowTab w) (hf : Fr [] w w') : PowTab w' := Lib.tabBelow_of_tabIs h w' (hf.below (Nat.le_refl _) (by simp))
set_option maxRecDepth 100000 in
theorem clamp_any (n : Int) (W : World) : Calls Tryz.prog 281 #[.int .i64 n] W fun e W' => e = .returned (.int .i64 (clampN n)) ∧ W' = W := by
 have h : max (-1000000000) (min n 1000000000) = clampN n := by unfold clampN; split <;> (try split) <;> omega
 rw [← h]
 clear h
 go_enter Tryz.func281, Tryz.ntmps281
 go_wp2
 go_ret
 exact ⟨rfl, rfl⟩
set_option maxRecDepth 100000 in
theorem numberV_any (n : Int) (W : World) : Calls Tryz.prog 274 #[.int .i64 n] W fun e W' => e = .returned (vlV 1 n ⟨#[]⟩) ∧ Fr [] W W' := by
 go_enter Tryz.func274, Tryz.ntmps274
 go_wp2
 refine bodyPost_ret (v := vlV 1 n ⟨#[]⟩) (by simp [results, Tryz.results274, go_sem]) rfl ?_
 exact ⟨rfl, (Fr.refl [] W).alloc _⟩
set_option maxRecDepth 100000 in
theorem textV_any (s : ByteArray) (W : World) : Calls Tryz.prog 275 #[.string s] W fun e W' => e = .returned (vlV 2 0 s) ∧ Fr [] W W' := by
 go_enter Tryz.func275, Tryz.ntmps275
 go_wp2
 refine bodyPost_ret (v := vlV 2 0 s) (by simp [results, Tryz.results275, go_sem]) rfl ?_
 exact ⟨rfl, (Fr.refl [] W).alloc _⟩
theorem cells3 {w : World} {b : Nat} {x y z : Value} {t : TypeId} (h : w.heap[b]? = some (.cells #[x, y, z] t)) : (w.cell? ⟨b, 0, none⟩ = some x ∧ w.cell? ⟨b, 1, none⟩ = some y ∧ w.cell? ⟨b, 2, none⟩ = some z) ∧ w.frozen? ⟨b, 0, none⟩ = false ∧ w.frozen? ⟨b, 1, none⟩ = false ∧ w.frozen? ⟨b, 2, none⟩ = false := by
 refine ⟨⟨?_, ?_, ?_⟩, ?_, ?_, ?_⟩ <;> first | (unfold World.cell?; rw [h]; rfl) | (unfold World.frozen?; rw [h]; simp)
theorem cell_setA {w : World} {p : Addr} {v u : Value} (h : w.cell? p = some v) : (w.setCell p u).cell? p = some u := World.cell?_setCell_same' _ _ _ (by rw [h]; rfl)
theorem set3 {w : World} {b : Nat} {x y z x' y' z' : Value} (h : w.cell? ⟨b, 0, none⟩ = some x ∧ w.cell? ⟨b, 1, none⟩ = some y ∧ w.cell? ⟨b, 2, none⟩ = some z) : ∃ w', ((w.setCell ⟨b, 0, none⟩ x').setCell ⟨b, 1, none⟩ y').setCell ⟨b, 2, none⟩ z' = w' ∧ w'.cell? ⟨b, 0, none⟩ = some x' ∧ w'.cell? ⟨b, 1, none⟩ = some y' ∧ w'.cell? ⟨b, 2, none⟩ = some z' ∧ Fr [b] w w' := by
 obtain ⟨h0, h1, h2⟩ := h
 refine ⟨_, rfl, ?_, ?_, ?_, (((Fr.refl [b] w).setCell (.inl (by simp)) _).setCell (.inl (by simp)) _).setCell (.inl (by simp)) _⟩
 ·rw [setCell_off (by decide), setCell_off (by decide)]; exact cell_setA h0
 ·rw [setCell_off (by decide)]; exact cell_setA (by rw [setCell_off (by decide)]; exact h1)
 ·exact cell_setA (by rw [setCell_off (by decide), setCell_off (by decide)]; exact h2)
set_option maxRecDepth 100000 in
set_option maxHeartbeats 2000000 in
theorem truth_any (b : Bool) (W : World) : Calls Tryz.prog 278 #[.bool b] W fun e W' => e = .returned (vlV 1 (truth b) ⟨#[]⟩) ∧ Fr [] W W' := by
 have HN : Hid _ := fun (n : Int) (W : World) => numberV_any n W
 obtain ⟨W1, hW1⟩ : ∃ W1, W.alloc (.cells #[.int .u8 0, .int .i64 0, .string ⟨#[]⟩] 221) = W1 := ⟨_, rfl⟩
 have F1 : Fr [] W W1 := by rw [← hW1]; exact (Fr.refl [] W).alloc _
 have k1 := World.alloc_heap_new W (.cells #[.int .u8 0, .int .i64 0, .string ⟨#[]⟩] 221)
 rw [hW1] at k1
 have l1 := (Array.getElem?_eq_some_iff.1 k1).1
 cases b
 ·go_enter Tryz.func278, Tryz.ntmps278
  go_wp2_with fail
  refine (HN.out _ _).mono ?_
  rintro e W2 ⟨rfl, F2⟩
  obtain ⟨hy, z0, z1, z2⟩ := cells3 ((F2.block _ l1 (by simp)).trans k1)
  have F3 := F1.trans F2
  obtain ⟨W3, hW3, r0, r1, r2, F4⟩ := set3 (x' := .int .u8 1) (y' := .int .i64 0) (z' := .string ⟨#[]⟩) hy
  obtain ⟨y0, y1, y2⟩ := hy
  clear k1 F1 F2 l1 HN hW1
  go_wp2
  refine bodyPost_ret (v := vlV 1 _ ⟨#[]⟩) (by simp [results, Tryz.results278, go_sem, r0, r1, r2]; rfl) rfl ?_
  exact ⟨rfl, F3.trans' F4 (by simp)⟩
 ·go_enter Tryz.func278, Tryz.ntmps278
  go_wp2_with fail
  refine (HN.out _ _).mono ?_
  rintro e W2 ⟨rfl, F2⟩
  obtain ⟨hy, z0, z1, z2⟩ := cells3 ((F2.block _ l1 (by simp)).trans k1)
  have F3 := F1.trans F2
  obtain ⟨W3, hW3, r0, r1, r2, F4⟩ := set3 (x' := .int .u8 1) (y' := .int .i64 1) (z' := .string ⟨#[]⟩) hy
  obtain ⟨y0, y1, y2⟩ := hy
  clear k1 F1 F2 l1 HN hW1
  go_wp2
  refine bodyPost_ret (v := vlV 1 _ ⟨#[]⟩) (by simp [results, Tryz.results278, go_sem, r0, r1, r2]; rfl) rfl ?_
  exact ⟨rfl, F3.trans' F4 (by simp)⟩
theorem box_cells (W : World) (k n : Int) (s : ByteArray) : ∃ W1, W.alloc (.cells #[.int .u8 k, .int .i64 n, .string s] 221) = W1 ∧ Fr [] W W1 ∧ W1.cell? ⟨W.heap.size, 0, none⟩ = some (.int .u8 k) ∧ W1.cell? ⟨W.heap.size, 1, none⟩ = some (.int .i64 n) ∧ W1.cell? ⟨W.heap.size, 2, none⟩ = some (.string s) ∧ W.heap.size < W1.heap.size := by
 have k1 := World.alloc_heap_new W (.cells #[.int .u8 k, .int .i64 n, .string s] 221)
 refine ⟨_, rfl, (Fr.refl [] W).alloc _, ?_, ?_, ?_, by simp⟩ <;> (unfold World.cell?; rw [k1]; rfl)
set_option maxRecDepth 100000 in
set_option maxHeartbeats 2000000 in
theorem vnum_any (k n : Int) (s : ByteArray) (hs : s.size ≤ 1048576) (W : World) : Calls Tryz.prog 213 #[vlV k n s] W fun e W' => e = .returned (.int .i64 (if k = 2 then numT s else n)) ∧ Fr [] W W' := by
  obtain ⟨W1, hW1, F1, c0, c1, c2, -⟩ := box_cells W k n s
  have HS : Hid _ := fun (W : World) => scan_any s hs W
  have HC : Hid _ := fun (n : Int) (W : World) => clamp_any n W
  by_cases hk : k = 2
  · subst hk
    have HF : Hid _ := F1
    clear F1
    go_enter Tryz.func213, Tryz.ntmps213
    go_wp2_with fail
    refine (HS.out _).mono ?_
    rintro e W2 ⟨rfl, F2⟩
    replace HF : Hid _ := HF.out.trans F2
    clear F2 c0 c1 c2
    go_wp2_with (refine (HC.out _ _).mono ?_; rintro e w' ⟨rfl, rfl⟩)
    go_ret
    exact ⟨rfl, HF.out⟩
  · have g : (k != 2) = true := by simpa using hk
    rw [if_neg hk]
    go_enter Tryz.func213, Tryz.ntmps213
    go_wp2_with fail
    go_ret
    exact ⟨rfl, F1⟩
set_option maxRecDepth 100000 in
set_option maxHeartbeats 2000000 in
theorem vtext_any (k n : Int) (s : ByteArray) (h0 : -9223372036854775808 ≤ n) (h1 : n ≤ 9223372036854775807) (W : World) (hp : PowTab W) : Calls Tryz.prog 214 #[vlV k n s] W fun e W' => e = .returned (.string (if k = 1 then itoaB n else s)) ∧ Fr [] W W' := by
  obtain ⟨W1, hW1, F1, c0, c1, c2, -⟩ := box_cells W k n s
  have HI : Hid _ := fun (_ : Unit) => itoa_any n W1 h0 h1 (hp.fr F1)
  have HF : Hid _ := F1
  clear F1 hp
  by_cases hk : k = 1
  · subst hk
    go_enter Tryz.func214, Tryz.ntmps214
    go_wp2_with fail
    refine (HI.out ()).mono ?_
    rintro e W2 ⟨rfl, F2⟩
    go_wp2_with fail
    go_ret
    exact ⟨rfl, HF.out.trans F2⟩
  · have g : (k == 1) = false := by simpa using hk
    rw [if_neg hk]
    go_enter Tryz.func214, Tryz.ntmps214
    go_wp2_with fail
    go_ret
    exact ⟨rfl, HF.out⟩
def holdC (k n : Int) (s : ByteArray) : Bool := if k = 2 then !s.toList.isEmpty else n != 0
theorem isEmpty_size (s : ByteArray) : (!s.toList.isEmpty) = decide (s.size ≠ 0) := by
  rcases Nat.eq_zero_or_pos s.size with h | h
  · rw [ByteArray.toList_eq, show s.data.toList = [] from bl_nil h]; simp [h]
  · have : s.size ≠ 0 := by omega
    rw [toList_is h, decide_eq_true this]; rfl
theorem holdC_v (v : Val) : holdC v.kind (vN v) (vS v) = holdsV v := by
 unfold holdC holdsV
 by_cases h : v.kind = 2
 ·rw [if_pos (by omega), if_pos h, isEmpty_size]
  simp [vS, h]
 ·rw [if_neg (by omega), if_neg h]
  unfold vN numV
  by_cases h0 : v.kind = 0
  ·simp [h0]
  ·by_cases h1 : v.kind = 1
   ·simp only [h1]
    by_cases h3 : v.n = 0 <;> simp [h3]
   ·simp [h0, h1, h]
    by_cases h3 : numT v.s = 0 <;> simp [h3]
set_option maxRecDepth 100000 in
set_option maxHeartbeats 2000000 in
theorem vholds_any (k n : Int) (s : ByteArray) (W : World) : Calls Tryz.prog 215 #[vlV k n s] W fun e W' => e = .returned (.bool (holdC k n s)) ∧ Fr [] W W' := by
  obtain ⟨W1, hW1, F1, c0, c1, c2, -⟩ := box_cells W k n s
  by_cases hk : k = 2
  · subst hk
    go_enter Tryz.func215, Tryz.ntmps215
    go_wp2_with fail
    go_ret
    exact ⟨rfl, F1⟩
  · have g : (k == 2) = false := by simpa using hk
    rw [show holdC k n s = (n != 0) by unfold holdC; rw [if_neg hk]]
    go_enter Tryz.func215, Tryz.ntmps215
    go_wp2_with fail
    go_ret
    exact ⟨rfl, F1⟩
theorem vN_sm {v : Val} (h : SmV v) : -1000000000 ≤ vN v ∧ vN v ≤ 1000000000 := by
 obtain ⟨h1, h2, h3⟩ := h
 unfold vN
 split
 ·exact ⟨h1, h2⟩
 ·split
  ·decide
  ·exact clamp_sm _
theorem vS_sm {v : Val} (h : SmV v) : (vS v).size ≤ 100 := by
 unfold vS
 split
 ·decide
 ·exact h.3
theorem num_v {v : Val} (h : SmV v) (W : World) : Calls Tryz.prog 213 #[vV v] W fun e W' => e = .returned (.int .i64 (numV v)) ∧ Fr [] W W' := by
 refine (vnum_any _ _ _ (by have := vS_sm h; omega) W).mono fun e W' ⟨he, hf⟩ => ⟨?_, hf⟩
 rw [he]
 congr 2
 unfold vN vS numV
 by_cases h0 : v.kind = 0
 ·simp [h0]
 ·by_cases h1 : v.kind = 1
  ·simp [h1]
  ·by_cases h2 : v.kind = 2
   ·simp [h2]
   ·simp [h0, h1, h2]
    try omega
theorem text_v {E : Env} (hE : E.itoa = itoaB) {v : Val} (h : SmV v) (W : World) (hp : PowTab W) : Calls Tryz.prog 214 #[vV v] W fun e W' => e = .returned (.string (textV E v)) ∧ Fr [] W W' := by
 have hn := vN_sm h
 refine (vtext_any _ _ _ (by omega) (by omega) W hp).mono fun e W' ⟨he, hf⟩ => ⟨?_, hf⟩
 rw [he]
 congr 2
 unfold vN vS textV
 rw [hE]
 by_cases h0 : v.kind = 0
 ·simp [h0]; rfl
 ·by_cases h1 : v.kind = 1
  ·simp [h1]
  ·simp [h0, h1]
   try omega
theorem holds_v (v : Val) (W : World) : Calls Tryz.prog 215 #[vV v] W fun e W' => e = .returned (.bool (holdsV v)) ∧ Fr [] W W' := by
 rw [← holdC_v]
 exact vholds_any _ _ _ W
end Go.Proofs.YtmolfmgchbjnbaaGreatDoor
namespace Go.Proofs.YtmolfmgchbjnbaaGreatDoor
open Go.RowKit
open Wire Flow Mach
theorem cmpL_lib (a b : List UInt8) : Lib.compareBytes a b = cmpL a b := by
 induction a generalizing b with
 | nil => cases b <;> rfl
 | cons x a ih =>
  cases b with
  | nil => rfl
  | cons y b =>
   unfold Lib.compareBytes cmpL
   rw [ih]
   rfl
theorem cmpI_lib (x y : Int) : Lib.compareInt x y = cmpI x y := rfl
set_option maxRecDepth 100000 in
set_option maxHeartbeats 4000000 in
theorem compareV_any (k n : Int) (s : ByteArray) (k' n' : Int) (s' x x' : ByteArray) (W : World) (ht : ∀ w, Fr [] W w → Calls Tryz.prog 214 #[vlV k n s] w fun e W' => e = .returned (.string x) ∧ Fr [] w W') (ht' : ∀ w, Fr [] W w → Calls Tryz.prog 214 #[vlV k' n' s'] w fun e W' => e = .returned (.string x') ∧ Fr [] w W') :
  Calls Tryz.prog 216 #[vlV k n s, vlV k' n' s'] W fun e W' => e = .returned (.int .i64 (if k = 2 ∨ k' = 2 then Lib.compareBytes x.data.toList x'.data.toList else Lib.compareInt n n')) ∧ Fr [] W W' := by
 have hm : Tryz.prog.follows Departure.mixedOrders = true := by kernel_rfl
 obtain ⟨W1, hW1, F1, c0, c1, c2, l1⟩ := box_cells W k n s
 obtain ⟨W2, hW2, F2, d0, d1, d2, l2⟩ := box_cells W1 k' n' s'
 have HT : Hid _ := ht
 have HT' : Hid _ := ht'
 have HC : Hid _ := fun (a b : ByteArray) (w : World) => Tryz.strings_Compare a b w
 have HI : Hid _ := fun (a b : Int) (w : World) => Tryz.cmp_Compare_int a b w
 have CC : ∀ w, Fr [] W2 w → w.cell? ⟨W.heap.size, 0, none⟩ = some (.int .u8 k) ∧ w.cell? ⟨W.heap.size, 1, none⟩ = some (.int .i64 n) ∧ w.cell? ⟨W.heap.size, 2, none⟩ = some (.string s) ∧
   w.cell? ⟨W1.heap.size, 0, none⟩ = some (.int .u8 k') ∧ w.cell? ⟨W1.heap.size, 1, none⟩ = some (.int .i64 n') ∧ w.cell? ⟨W1.heap.size, 2, none⟩ = some (.string s') := fun w hw => by
  have f := F2.trans hw
  refine ⟨?_, ?_, ?_, ?_, ?_, ?_⟩
  ·exact (f.cell (p := ⟨W.heap.size, 0, none⟩) l1 (by simp)).trans c0
  ·exact (f.cell (p := ⟨W.heap.size, 1, none⟩) l1 (by simp)).trans c1
  ·exact (f.cell (p := ⟨W.heap.size, 2, none⟩) l1 (by simp)).trans c2
  ·exact (hw.cell (p := ⟨W1.heap.size, 0, none⟩) l2 (by simp)).trans d0
  ·exact (hw.cell (p := ⟨W1.heap.size, 1, none⟩) l2 (by simp)).trans d1
  ·exact (hw.cell (p := ⟨W1.heap.size, 2, none⟩) l2 (by simp)).trans d2
 obtain ⟨a0, a1, a2, b0, b1, b2⟩ := CC W2 (Fr.refl _ _)
 have F02 := F1.trans F2
 have HZ : Hid _ := And.intro CC F02
 clear CC F1 F2 F02 l1 l2 c0 c1 c2 d0 d1 d2 ht ht'
 by_cases hk : k = 2 ∨ k' = 2
 ·rw [if_pos hk]
  have hb : ((k == 2) = true) ∨ ((k == 2) = false ∧ (k' == 2) = true) := by
   rcases Int.decEq k 2 with h | h
   ·exact .inr ⟨by simpa using h, by simpa using hk.resolve_left h⟩
   ·exact .inl (by simpa using h)
  clear hk
  rcases hb with g1 | ⟨g1, g2⟩
  all_goals
   go_enter Tryz.func216, Tryz.ntmps216
   go_wp2_with fail
   refine wp_region_heldD (fun w => Fr [] W2 w) hm ?_
   have hS : Fr [] W2 W2.drew := (Fr.refl _ _).drew
   refine wpAnyH_take (i := 0) (v := ?_) rfl (by kernel_rfl) (by kernel_rfl) (by kernel_rfl) (fun _ _ _ h => h) (.inl ⟨rfl, fun w1 hS1 => ?_⟩) hS ?_
   rotate_left
   ·obtain ⟨q0, q1, q2, -, -, -⟩ := HZ.out.1 w1 hS1
    go_simp
    rfl
   simp only [Act.put, List.setIfInBounds_toArray, List.set_cons_zero, List.set_cons_succ, List.getElem_toArray, List.getElem_cons_succ, List.getElem_cons_zero]
   refine wpAnyH_take (i := 2) (v := ?_) rfl (by kernel_rfl) (by kernel_rfl) (by kernel_rfl) (fun _ _ _ h => h) (.inl ⟨rfl, fun w1 hS1 => ?_⟩) hS ?_
   rotate_left
   ·obtain ⟨-, -, -, q0, q1, q2⟩ := HZ.out.1 w1 hS1
    go_simp
    rfl
   simp only [Act.put, List.setIfInBounds_toArray, List.set_cons_zero, List.set_cons_succ, List.getElem_toArray, List.getElem_cons_succ, List.getElem_cons_zero]
   refine wpAnyH_ready (rs := [1]) (by kernel_rfl) (by simp) ?_
   refine AllReadyH.cons rfl (fun K hK => ?_) AllReadyH.nil
   go_simp
   refine (HT.out _ (HZ.out.2.trans hS)).mono ?_
   rintro e w2 ⟨rfl, f2⟩
   refine hK _ _ (hS.trans f2) ?_
   clear hK K
   intro _
   have hS2 := hS.trans f2
   refine wpAnyH_ready (rs := [3]) (by kernel_rfl) (by simp) ?_
   refine AllReadyH.cons rfl (fun K hK => ?_) AllReadyH.nil
   go_simp
   refine (HT'.out _ (HZ.out.2.trans hS2)).mono ?_
   rintro e w3 ⟨rfl, f3⟩
   refine hK _ _ (hS2.trans f3) ?_
   clear hK K
   intro _
   refine wpAnyH_ready (rs := [4]) (by kernel_rfl) (by simp) ?_
   refine AllReadyH.cons rfl (fun K hK => ?_) AllReadyH.nil
   go_simp
   refine (HC.out _ _ _).mono ?_
   rintro e w4 ⟨rfl, rfl⟩
   refine hK _ _ (hS2.trans f3) ?_
   clear hK K
   intro _
   refine wpAnyH_ready (rs := [5]) (by kernel_rfl) (by simp) ?_
   refine AllReadyH.cons rfl (fun K hK => ?_) AllReadyH.nil
   go_simp
   refine hK _ _ (hS2.trans f3) ?_
   clear hK K
   intro _
   refine wpAnyH_done (by kernel_rfl) ?_ _
   go_wp2_with fail
   go_ret
   refine ⟨?_, HZ.out.2.trans (hS2.trans f3)⟩
   rfl
 ·rw [if_neg hk]
  have g1 : (k == 2) = false := by simpa using fun h => hk (.inl h)
  have g2 : (k' == 2) = false := by simpa using fun h => hk (.inr h)
  clear hk
  go_enter Tryz.func216, Tryz.ntmps216
  go_wp2_with (refine (HI.out _ _ _).mono ?_; rintro e w' ⟨rfl, rfl⟩)
  go_ret
  exact ⟨rfl, HZ.out.2⟩
theorem compare_v {E : Env} (hE : E.itoa = itoaB) {u v : Val} (hu : SmV u) (hv : SmV v) (W : World) (hp : PowTab W) : Calls Tryz.prog 216 #[vV u, vV v] W fun e W' => e = .returned (.int .i64 (cmpV E u v)) ∧ Fr [] W W' := by
 refine (compareV_any _ _ _ _ _ _ (textV E u) (textV E v) W (fun w hw => text_v hE hu w (hp.fr hw)) (fun w hw => text_v hE hv w (hp.fr hw))).mono fun e W' ⟨he, hf⟩ => ⟨?_, hf⟩
 rw [he]
 congr 2
 unfold cmpV
 by_cases hk : u.kind = 2 ∨ v.kind = 2
 ·rw [if_pos hk, if_pos (by omega)]
  exact cmpL_lib _ _
 ·rw [if_neg hk, if_neg (by omega), cmpI_lib]
  congr 1 <;> unfold numV vN <;> simp only [not_or] at hk <;> split <;> (try split) <;> simp_all
end Go.Proofs.YtmolfmgchbjnbaaGreatDoor
