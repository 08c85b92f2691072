/-
  The module that is being read, in its box, and the closures that fill it.
-/
import Derived.Test.YticaoekmlaipnaaDoorM20
set_option linter.unusedSimpArgs false
set_option linter.unusedVariables false
namespace Go.Proofs.YticaoekmlaipnaaDoor
open Go.RowKit
open Wire

/-- The box: what is known of each field. -/
structure BoxI (B : Nat) (r rb mb : Nat) (o0 o1 : Option (List ByteArray)) (o2 o3 : Option Nat) (o4 : Option (List Wire.Fn)) (W : World) : Prop where
  tab : Tab W
  rc : W.cell? ⟨rb, 0, none⟩ = some (.pointer (some ⟨r, 0, none⟩))
  m0 : ∃ v L, W.cell? ⟨mb, 0, none⟩ = some v ∧ StrsFar B W v L ∧ ∀ X, o0 = some X → L = X
  m1 : ∃ v L, W.cell? ⟨mb, 1, none⟩ = some v ∧ StrsFar B W v L ∧ ∀ X, o1 = some X → L = X
  m2 : ∃ n : Nat, W.cell? ⟨mb, 2, none⟩ = some (.int .i64 n) ∧ ∀ X, o2 = some X → n = X
  m3 : ∃ n : Nat, W.cell? ⟨mb, 3, none⟩ = some (.int .i64 n) ∧ ∀ X, o3 = some X → n = X
  m4 : ∃ v L, W.cell? ⟨mb, 4, none⟩ = some v ∧ FnsFar B W v L ∧ ∀ X, o4 = some X → L = X
  fz : ∀ i, W.frozen? ⟨mb, i, none⟩ = false
  n0 : r ≠ 0
  n1 : mb ≠ 0
  n2 : r ≠ mb
  n3 : r ≠ rb
  n4 : mb ≠ rb
  lr : r < B
  lm : mb < B
  lB : B ≤ W.heap.size

variable {B r rb mb : Nat} {o0 o1 : Option (List ByteArray)} {o2 o3 : Option Nat} {o4 : Option (List Wire.Fn)} {W W' : World}

theorem BoxI.ltm (h : BoxI B r rb mb o0 o1 o2 o3 o4 W) : mb < W.heap.size := Nat.lt_of_lt_of_le h.lm h.lB
theorem BoxI.ltr (h : BoxI B r rb mb o0 o1 o2 o3 o4 W) : rb < W.heap.size := lt_of_cell (a := ⟨rb, 0, none⟩) h.rc

theorem BoxI.fr (h : BoxI B r rb mb o0 o1 o2 o3 o4 W) (hf : Fr [r] W W') : BoxI B r rb mb o0 o1 o2 o3 o4 W' := by
  have hS : ∀ x, x ∈ [r] → x < B := fun x hx => by have := h.lr; simp at hx; omega
  have cm : ∀ i, W'.cell? ⟨mb, i, none⟩ = W.cell? ⟨mb, i, none⟩ := fun i => hf.cell (p := ⟨mb, i, none⟩) h.ltm (by simpa using fun e => h.n2 e.symm)
  obtain ⟨v0, L0, a0, b0, c0⟩ := h.m0
  obtain ⟨v1, L1, a1, b1, c1⟩ := h.m1
  obtain ⟨n2, a2, c2⟩ := h.m2
  obtain ⟨n3, a3, c3⟩ := h.m3
  obtain ⟨v4, L4, a4, b4, c4⟩ := h.m4
  refine ⟨h.tab.fr hf (by simpa using fun e => h.n0 e.symm), (hf.cell (p := ⟨rb, 0, none⟩) h.ltr (by simpa using fun e => h.n3 e.symm)).trans h.rc, ⟨v0, L0, (cm 0).trans a0, b0.fr hf hS, c0⟩, ⟨v1, L1, (cm 1).trans a1, b1.fr hf hS, c1⟩,
    ⟨n2, (cm 2).trans a2, c2⟩, ⟨n3, (cm 3).trans a3, c3⟩, ⟨v4, L4, (cm 4).trans a4, b4.fr hf hS, c4⟩, fun i => (hf.frozen (p := ⟨mb, i, none⟩) h.ltm (by simpa using fun e => h.n2 e.symm)).trans (h.fz i), h.n0, h.n1, h.n2, h.n3, h.n4, h.lr, h.lm, Nat.le_trans h.lB hf.size⟩

theorem fr_set (W : World) (mb i : Nat) (v : Value) : Fr [mb] W (W.setCell ⟨mb, i, none⟩ v) := (Fr.refl [mb] W).setCell (p := ⟨mb, i, none⟩) (.inl (by simp)) _

theorem BoxI.set (h : BoxI B r rb mb o0 o1 o2 o3 o4 W) (i : Nat) (v : Value) (q0 q1 : Option (List ByteArray)) (q2 q3 : Option Nat) (q4 : Option (List Wire.Fn))
    (h0 : ∃ v' L, (W.setCell ⟨mb, i, none⟩ v).cell? ⟨mb, 0, none⟩ = some v' ∧ StrsFar B W v' L ∧ ∀ X, q0 = some X → L = X)
    (h1 : ∃ v' L, (W.setCell ⟨mb, i, none⟩ v).cell? ⟨mb, 1, none⟩ = some v' ∧ StrsFar B W v' L ∧ ∀ X, q1 = some X → L = X)
    (h2 : ∃ n : Nat, (W.setCell ⟨mb, i, none⟩ v).cell? ⟨mb, 2, none⟩ = some (.int .i64 n) ∧ ∀ X, q2 = some X → n = X)
    (h3 : ∃ n : Nat, (W.setCell ⟨mb, i, none⟩ v).cell? ⟨mb, 3, none⟩ = some (.int .i64 n) ∧ ∀ X, q3 = some X → n = X)
    (h4 : ∃ v' L, (W.setCell ⟨mb, i, none⟩ v).cell? ⟨mb, 4, none⟩ = some v' ∧ FnsFar B W v' L ∧ ∀ X, q4 = some X → L = X) : BoxI B r rb mb q0 q1 q2 q3 q4 (W.setCell ⟨mb, i, none⟩ v) := by
  have hf := fr_set W mb i v
  have hS : ∀ x, x ∈ [mb] → x < B := fun x hx => by have := h.lm; simp at hx; omega
  obtain ⟨v0, L0, a0, b0, c0⟩ := h0
  obtain ⟨v1, L1, a1, b1, c1⟩ := h1
  obtain ⟨v4, L4, a4, b4, c4⟩ := h4
  exact ⟨h.tab.fr hf (by simpa using fun e => h.n1 e.symm), (hf.cell (p := ⟨rb, 0, none⟩) h.ltr (by simpa using fun e => h.n4 e.symm)).trans h.rc, ⟨v0, L0, a0, b0.fr hf hS, c0⟩, ⟨v1, L1, a1, b1.fr hf hS, c1⟩, h2, h3, ⟨v4, L4, a4, b4.fr hf hS, c4⟩,
    fun j => by rw [World.frozen?_setCell]; exact h.fz j, h.n0, h.n1, h.n2, h.n3, h.n4, h.lr, h.lm, Nat.le_trans h.lB hf.size⟩

theorem StrsFar.base {B B' : Nat} {W : World} {v : Value} {L : List ByteArray} (h : StrsFar B W v L) (hb : B' ≤ B) : StrsFar B' W v L := by
  obtain ⟨a0, cap, g, off, h1, h2, h3, h4⟩ := h
  exact ⟨a0, cap, g, off, h1, h2, fun h => ⟨(h3 h).1, (h3 h).2.1, Nat.le_trans hb (h3 h).2.2⟩, h4⟩
theorem FnsFar.base {B B' : Nat} {W : World} {v : Value} {L : List Wire.Fn} (h : FnsFar B W v L) (hb : B' ≤ B) : FnsFar B' W v L := by
  obtain ⟨a0, cap, g, off, h1, h2, h3, h4⟩ := h
  exact ⟨a0, cap, g, off, h1, h2, fun h => ⟨(h3 h).1, (h3 h).2.1, Nat.le_trans hb (h3 h).2.2⟩, h4⟩

theorem set_same (h : BoxI B r rb mb o0 o1 o2 o3 o4 W) (i : Nat) (hi : i < 5) (v : Value) : (W.setCell ⟨mb, i, none⟩ v).cell? ⟨mb, i, none⟩ = some v := by
  obtain ⟨v0, L0, a0, -⟩ := h.m0
  obtain ⟨v1, L1, a1, -⟩ := h.m1
  obtain ⟨n2, a2, -⟩ := h.m2
  obtain ⟨n3, a3, -⟩ := h.m3
  obtain ⟨v4, L4, a4, -⟩ := h.m4
  obtain rfl | rfl | rfl | rfl | rfl : i = 0 ∨ i = 1 ∨ i = 2 ∨ i = 3 ∨ i = 4 := by omega
  · exact cell_set a0
  · exact cell_set a1
  · exact cell_set a2
  · exact cell_set a3
  · exact cell_set a4

theorem BoxI.set0 (h : BoxI B r rb mb o0 o1 o2 o3 o4 W) (v : Value) (L : List ByteArray) (q : Option (List ByteArray)) (hv : StrsFar B W v L) (hq : ∀ X, q = some X → L = X) : BoxI B r rb mb q o1 o2 o3 o4 (W.setCell ⟨mb, 0, none⟩ v) := by
  obtain ⟨v1, L1, a1, b1⟩ := h.m1
  obtain ⟨n2, a2, c2⟩ := h.m2
  obtain ⟨n3, a3, c3⟩ := h.m3
  obtain ⟨v4, L4, a4, b4⟩ := h.m4
  exact h.set 0 v q o1 o2 o3 o4 ⟨v, L, set_same h 0 (by omega) v, hv, hq⟩ ⟨v1, L1, (setCell_off (by decide)).trans a1, b1⟩ ⟨n2, (setCell_off (by decide)).trans a2, c2⟩ ⟨n3, (setCell_off (by decide)).trans a3, c3⟩ ⟨v4, L4, (setCell_off (by decide)).trans a4, b4⟩
theorem BoxI.set1 (h : BoxI B r rb mb o0 o1 o2 o3 o4 W) (v : Value) (L : List ByteArray) (q : Option (List ByteArray)) (hv : StrsFar B W v L) (hq : ∀ X, q = some X → L = X) : BoxI B r rb mb o0 q o2 o3 o4 (W.setCell ⟨mb, 1, none⟩ v) := by
  obtain ⟨v0, L0, a0, b0⟩ := h.m0
  obtain ⟨n2, a2, c2⟩ := h.m2
  obtain ⟨n3, a3, c3⟩ := h.m3
  obtain ⟨v4, L4, a4, b4⟩ := h.m4
  exact h.set 1 v o0 q o2 o3 o4 ⟨v0, L0, (setCell_off (by decide)).trans a0, b0⟩ ⟨v, L, set_same h 1 (by omega) v, hv, hq⟩ ⟨n2, (setCell_off (by decide)).trans a2, c2⟩ ⟨n3, (setCell_off (by decide)).trans a3, c3⟩ ⟨v4, L4, (setCell_off (by decide)).trans a4, b4⟩
theorem BoxI.set2 (h : BoxI B r rb mb o0 o1 o2 o3 o4 W) (n : Nat) (q : Option Nat) (hq : ∀ X, q = some X → n = X) : BoxI B r rb mb o0 o1 q o3 o4 (W.setCell ⟨mb, 2, none⟩ (.int .i64 n)) := by
  obtain ⟨v0, L0, a0, b0⟩ := h.m0
  obtain ⟨v1, L1, a1, b1⟩ := h.m1
  obtain ⟨n3, a3, c3⟩ := h.m3
  obtain ⟨v4, L4, a4, b4⟩ := h.m4
  exact h.set 2 _ o0 o1 q o3 o4 ⟨v0, L0, (setCell_off (by decide)).trans a0, b0⟩ ⟨v1, L1, (setCell_off (by decide)).trans a1, b1⟩ ⟨n, set_same h 2 (by omega) _, hq⟩ ⟨n3, (setCell_off (by decide)).trans a3, c3⟩ ⟨v4, L4, (setCell_off (by decide)).trans a4, b4⟩
theorem BoxI.set3 (h : BoxI B r rb mb o0 o1 o2 o3 o4 W) (n : Nat) (q : Option Nat) (hq : ∀ X, q = some X → n = X) : BoxI B r rb mb o0 o1 o2 q o4 (W.setCell ⟨mb, 3, none⟩ (.int .i64 n)) := by
  obtain ⟨v0, L0, a0, b0⟩ := h.m0
  obtain ⟨v1, L1, a1, b1⟩ := h.m1
  obtain ⟨n2, a2, c2⟩ := h.m2
  obtain ⟨v4, L4, a4, b4⟩ := h.m4
  exact h.set 3 _ o0 o1 o2 q o4 ⟨v0, L0, (setCell_off (by decide)).trans a0, b0⟩ ⟨v1, L1, (setCell_off (by decide)).trans a1, b1⟩ ⟨n2, (setCell_off (by decide)).trans a2, c2⟩ ⟨n, set_same h 3 (by omega) _, hq⟩ ⟨v4, L4, (setCell_off (by decide)).trans a4, b4⟩
theorem BoxI.set4 (h : BoxI B r rb mb o0 o1 o2 o3 o4 W) (v : Value) (L : List Wire.Fn) (q : Option (List Wire.Fn)) (hv : FnsFar B W v L) (hq : ∀ X, q = some X → L = X) : BoxI B r rb mb o0 o1 o2 o3 q (W.setCell ⟨mb, 4, none⟩ v) := by
  obtain ⟨v0, L0, a0, b0⟩ := h.m0
  obtain ⟨v1, L1, a1, b1⟩ := h.m1
  obtain ⟨n2, a2, c2⟩ := h.m2
  obtain ⟨n3, a3, c3⟩ := h.m3
  exact h.set 4 v o0 o1 o2 o3 q ⟨v0, L0, (setCell_off (by decide)).trans a0, b0⟩ ⟨v1, L1, (setCell_off (by decide)).trans a1, b1⟩ ⟨n2, (setCell_off (by decide)).trans a2, c2⟩ ⟨n3, (setCell_off (by decide)).trans a3, c3⟩ ⟨v, L, set_same h 4 (by omega) v, hv, hq⟩

theorem oneR_text (most : Nat) : oneR (fun _ => true) most = bytesR most := by
  funext base c
  unfold oneR
  cases bytesR most base c with
  | inl f => rfl
  | inr p => simp [bnd]

set_option maxRecDepth 100000 in
set_option maxHeartbeats 1000000 in
theorem closure62 {b : ByteArray} (hs : b.size ≤ 40000) (W : World) (s : Sta) (h : RdS W r b s) (hB : BoxI B r rb mb o0 o1 o2 o3 o4 W) :
    Calls Tryd.prog 62 #[.pointer (some ⟨rb, 0, none⟩), .pointer (some ⟨mb, 0, none⟩)] W fun ee W' => ee = .returned (.tuple #[]) ∧ RdS W' r b (nextR (listR (fun _ => true) 100) (bl b) s) ∧
      (∃ o, BoxI B r rb mb o o1 o2 o3 o4 W' ∧ ((∃ p, nextR (listR (fun _ => true) 100) (bl b) s = .inr p) → o = some (outR (listR (fun _ => true) 100) (bl b) [] s))) ∧ Fr [r, mb] W W' := by
  have hone : ∀ (W : World) (s : Sta), RdS W r b s → Tab W → Calls Tryd.prog 64 #[.pointer (some ⟨r, 0, none⟩)] W fun ee w' => (∃ o, ee = .returned (.string o) ∧ ((∃ p, nextR (oneR (fun _ => true) 100) (bl b) s = .inr p) → o = outR (oneR (fun _ => true) 100) (bl b) ⟨#[]⟩ s)) ∧ RdS w' r b (nextR (oneR (fun _ => true) 100) (bl b) s) ∧ Fr [r] W w' := fun W s hW _ => by
    rw [oneR_text]
    refine (text_any hW hs).mono ?_
    rintro ee w' ⟨rfl, K, F⟩
    exact ⟨⟨_, rfl, fun _ => rfl⟩, K, F⟩
  have ht := texts64_any (fun _ => true) 100 h hs hB.tab hB.n0 hone
  have rc := hB.rc
  have hlB := hB.lB
  generalize outR (listR (fun _ => true) 100) (bl b) [] s = RL at *
  generalize nextR (listR (fun _ => true) 100) (bl b) s = RS at *
  clear hone h
  go_enter Tryd.func62, Tryd.ntmps62
  go_wp2_with fail
  refine ht.mono ?_
  rintro ee w1 ⟨⟨v, L, rfl, hv, hL⟩, K1, F1⟩
  have hB1 := hB.fr F1
  have fz := hB1.fz
  obtain ⟨v0, L0, z0, -⟩ := hB1.m0
  have hB2 := hB1.set0 v L (some L) (hv.base hlB) (fun X hX => by cases hX; rfl)
  have F2 : Fr [r, mb] W (w1.setCell ⟨mb, 0, none⟩ v) := (F1.mono (by simp)).setCell (p := ⟨mb, 0, none⟩) (.inl (by simp)) _
  have K2 := K1.fr (fr_set w1 mb 0 v) (by simpa using hB.n2)
  have HL : Hid _ := hL
  obtain ⟨a0, cap, g, off, rfl, -⟩ := hv
  clear ht hL rc
  go_wp2
  go_end0
  refine ⟨rfl, K2, ⟨_, hB2, fun hp => ?_⟩, F2⟩
  rw [HL.out hp]
set_option maxRecDepth 100000 in
set_option maxHeartbeats 1000000 in
theorem closure65 {b : ByteArray} (hs : b.size ≤ 40000) (W : World) (s : Sta) (h : RdS W r b s) (hB : BoxI B r rb mb o0 o1 o2 o3 o4 W) :
    Calls Tryd.prog 65 #[.pointer (some ⟨rb, 0, none⟩), .pointer (some ⟨mb, 0, none⟩)] W fun ee W' => ee = .returned (.tuple #[]) ∧ RdS W' r b (nextR (listR ipF 50) (bl b) s) ∧
      (∃ o, BoxI B r rb mb o0 o o2 o3 o4 W' ∧ ((∃ p, nextR (listR ipF 50) (bl b) s = .inr p) → o = some (outR (listR ipF 50) (bl b) [] s))) ∧ Fr [r, mb] W W' := by
  have ht := texts66_any ipF 50 h hs hB.tab hB.n0 (fun W s hW hT => pattern_any hW hs hT hB.n0)
  have rc := hB.rc
  have hlB := hB.lB
  generalize outR (listR ipF 50) (bl b) [] s = RL at *
  generalize nextR (listR ipF 50) (bl b) s = RS at *
  clear h
  go_enter Tryd.func65, Tryd.ntmps65
  go_wp2_with fail
  refine ht.mono ?_
  rintro ee w1 ⟨⟨v, L, rfl, hv, hL⟩, K1, F1⟩
  have hB1 := hB.fr F1
  have fz := hB1.fz
  obtain ⟨v0, L0, z0, -⟩ := hB1.m1
  have hB2 := hB1.set1 v L (some L) (hv.base hlB) (fun X hX => by cases hX; rfl)
  have F2 : Fr [r, mb] W (w1.setCell ⟨mb, 1, none⟩ v) := (F1.mono (by simp)).setCell (p := ⟨mb, 1, none⟩) (.inl (by simp)) _
  have K2 := K1.fr (fr_set w1 mb 1 v) (by simpa using hB.n2)
  have HL : Hid _ := hL
  obtain ⟨a0, cap, g, off, rfl, -⟩ := hv
  clear ht hL rc
  go_wp2
  go_end0
  refine ⟨rfl, K2, ⟨_, hB2, fun hp => ?_⟩, F2⟩
  rw [HL.out hp]

set_option maxRecDepth 100000 in
set_option maxHeartbeats 1000000 in
theorem closure67 {b : ByteArray} (hs : b.size ≤ 40000) (W : World) (s : Sta) (h : RdS W r b s) (hB : BoxI B r rb mb o0 o1 o2 o3 o4 W) :
    Calls Tryd.prog 67 #[.pointer (some ⟨rb, 0, none⟩), .pointer (some ⟨mb, 0, none⟩)] W fun ee W' => ee = .returned (.tuple #[]) ∧ RdS W' r b (nextR (numberR 0 1000) (bl b) s) ∧
      (∃ o, BoxI B r rb mb o0 o1 o o3 o4 W' ∧ ((∃ p, nextR (numberR 0 1000) (bl b) s = .inr p) → o = some (outR (numberR 0 1000) (bl b) 0 s))) ∧ Fr [r, mb] W W' := by
  have ht := limited_any (lo := 0) (hi := 1000) rfl rfl h hs (by omega) (by omega)
  change Calls Tryd.prog 68 #[.pointer (some ⟨r, 0, none⟩), .int .i64 0, .int .i64 1000] W _ at ht
  have rc := hB.rc
  generalize outR (numberR 0 1000) (bl b) 0 s = n at *
  generalize nextR (numberR 0 1000) (bl b) s = RS at *
  clear h
  go_enter Tryd.func67, Tryd.ntmps67
  go_wp2_with fail
  refine ht.mono ?_
  rintro ee w1 ⟨rfl, K1, F1⟩
  have hB1 := hB.fr F1
  have fz := hB1.fz
  obtain ⟨n0, z0, -⟩ := hB1.m2
  have hB2 := hB1.set2 n (some n) (fun X hX => by cases hX; rfl)
  have F2 : Fr [r, mb] W (w1.setCell ⟨mb, 2, none⟩ (.int .i64 n)) := (F1.mono (by simp)).setCell (p := ⟨mb, 2, none⟩) (.inl (by simp)) _
  have K2 := K1.fr (fr_set w1 mb 2 (.int .i64 n)) (by simpa using hB.n2)
  clear ht rc
  go_wp2
  go_end0
  exact ⟨rfl, K2, ⟨_, hB2, fun hp => rfl⟩, F2⟩

set_option maxRecDepth 100000 in
set_option maxHeartbeats 1000000 in
theorem closure69 {b : ByteArray} (hs : b.size ≤ 40000) (W : World) (s : Sta) (h : RdS W r b s) (hB : BoxI B r rb mb o0 o1 o2 o3 o4 W) :
    Calls Tryd.prog 69 #[.pointer (some ⟨rb, 0, none⟩), .pointer (some ⟨mb, 0, none⟩)] W fun ee W' => ee = .returned (.tuple #[]) ∧ RdS W' r b (nextR (numberR 0 1000) (bl b) s) ∧
      (∃ o, BoxI B r rb mb o0 o1 o2 o o4 W' ∧ ((∃ p, nextR (numberR 0 1000) (bl b) s = .inr p) → o = some (outR (numberR 0 1000) (bl b) 0 s))) ∧ Fr [r, mb] W W' := by
  have ht := limited_any (lo := 0) (hi := 1000) rfl rfl h hs (by omega) (by omega)
  change Calls Tryd.prog 68 #[.pointer (some ⟨r, 0, none⟩), .int .i64 0, .int .i64 1000] W _ at ht
  have rc := hB.rc
  generalize outR (numberR 0 1000) (bl b) 0 s = n at *
  generalize nextR (numberR 0 1000) (bl b) s = RS at *
  clear h
  go_enter Tryd.func69, Tryd.ntmps69
  go_wp2_with fail
  refine ht.mono ?_
  rintro ee w1 ⟨rfl, K1, F1⟩
  have hB1 := hB.fr F1
  have fz := hB1.fz
  obtain ⟨n0, z0, -⟩ := hB1.m3
  have hB2 := hB1.set3 n (some n) (fun X hX => by cases hX; rfl)
  have F2 : Fr [r, mb] W (w1.setCell ⟨mb, 3, none⟩ (.int .i64 n)) := (F1.mono (by simp)).setCell (p := ⟨mb, 3, none⟩) (.inl (by simp)) _
  have K2 := K1.fr (fr_set w1 mb 3 (.int .i64 n)) (by simpa using hB.n2)
  clear ht rc
  go_wp2
  go_end0
  exact ⟨rfl, K2, ⟨_, hB2, fun hp => rfl⟩, F2⟩

set_option maxRecDepth 100000 in
set_option maxHeartbeats 1000000 in
theorem closure70 {b : ByteArray} (hs : b.size ≤ 40000) (W : World) (s : Sta) (h : RdS W r b s) (hB : BoxI B r rb mb o0 o1 o2 o3 o4 W) :
    Calls Tryd.prog 70 #[.pointer (some ⟨rb, 0, none⟩), .pointer (some ⟨mb, 0, none⟩)] W fun ee W' => ee = .returned (.tuple #[]) ∧ RdS W' r b (nextR fnListR (bl b) s) ∧
      (∃ o, BoxI B r rb mb o0 o1 o2 o3 o W' ∧ ((∃ p, nextR fnListR (bl b) s = .inr p) → o = some (outR fnListR (bl b) [] s))) ∧ Fr [r, mb] W W' := by
  have ht := funcs_any h hs
  have rc := hB.rc
  have hlB := hB.lB
  generalize outR fnListR (bl b) [] s = RL at *
  generalize nextR fnListR (bl b) s = RS at *
  clear h
  go_enter Tryd.func70, Tryd.ntmps70
  go_wp2_with fail
  refine ht.mono ?_
  rintro ee w1 ⟨⟨v, L, rfl, hv, hL⟩, K1, F1⟩
  have hB1 := hB.fr F1
  have fz := hB1.fz
  obtain ⟨v0, L0, z0, -⟩ := hB1.m4
  have hB2 := hB1.set4 v L (some L) (hv.base hlB) (fun X hX => by cases hX; rfl)
  have F2 : Fr [r, mb] W (w1.setCell ⟨mb, 4, none⟩ v) := (F1.mono (by simp)).setCell (p := ⟨mb, 4, none⟩) (.inl (by simp)) _
  have K2 := K1.fr (fr_set w1 mb 4 v) (by simpa using hB.n2)
  have HL : Hid _ := hL
  obtain ⟨a0, cap, g, off, rfl, -⟩ := hv
  clear ht hL rc
  go_wp2
  go_end0
  refine ⟨rfl, K2, ⟨_, hB2, fun hp => ?_⟩, F2⟩
  rw [HL.out hp]
end Go.Proofs.YticaoekmlaipnaaDoor

namespace Go.Proofs.YticaoekmlaipnaaDoor
open Go.RowKit
open Wire

/-- Behind the sections the sum must stand. -/
def sumR (l : List UInt8) (m : Mo) : Rd Mo := fun base c => if c = sum3 (l.take (base - c.length)) then .inr (m, c) else .inl (8, base - c.length)

def restR (ip : ByteArray → Bool) (l : List UInt8) : Rd Mo := fun base c0 =>
  bnd (sectR 1 base (listR (fun _ => true) 100) c0) fun a => (fun (xa : List ByteArray) => (fun base c1 =>
  bnd (sectR 2 base (listR ip 50) c1) fun p => (fun (xb : List ByteArray) => (fun base c2 =>
  bnd (sectR 3 base (numberR 0 1000) c2) fun c => (fun (xc : Nat) => (fun base c3 =>
  bnd (sectR 4 base (numberR 0 1000) c3) fun d => (fun (xd : Nat) => (fun base c4 =>
  bnd (sectR 5 base fnListR c4) fun e => (fun (xe : List Wire.Fn) => sumR l ⟨xa, xb, (xc : Int), (xd : Int), xe⟩) e.1 base e.2 : Rd Mo)) d.1 base d.2 : Rd Mo)) c.1 base c.2 : Rd Mo)) p.1 base p.2 : Rd Mo)) a.1 base a.2

theorem unpackR_rest (ip : ByteArray → Bool) (l l0 : List UInt8) (h : headR l = .inr l0) : unpackR ip l = bnd (restR ip l l.length l0) fun p => .inr p.1 := by
  unfold unpackR restR
  rw [h]
  simp only [bnd]
  cases sectR 1 l.length (listR (fun _ => true) 100) l0 with
  | inl f => rfl
  | inr a =>
    simp only
    cases sectR 2 l.length (listR ip 50) a.2 with
    | inl f => rfl
    | inr p =>
      simp only
      cases sectR 3 l.length (numberR 0 1000) p.2 with
      | inl f => rfl
      | inr c =>
        simp only
        cases sectR 4 l.length (numberR 0 1000) c.2 with
        | inl f => rfl
        | inr d =>
          simp only
          cases sectR 5 l.length fnListR d.2 with
          | inl f => rfl
          | inr e =>
            simp only [sumR]
            split <;> rfl

/-- The head, byte by byte. -/
theorem head_next (b : ByteArray) {s1 s2 s3 : Sta} (k1 : nextR (needR 71 5) (bl b) (.inr (0, b.size)) = s1) (k2 : nextR (needR 76 5) (bl b) s1 = s2) (k3 : nextR (needR 1 5) (bl b) s2 = s3) :
    (∃ f, headR (bl b) = .inl f ∧ s3 = .inl f) ∨ ∃ l0, headR (bl b) = .inr l0 ∧ s3 = .inr (b.size - l0.length, b.size) ∧ seg (bl b) (b.size - l0.length) b.size = l0 ∧ l0.length ≤ b.size := by
  have hL := bl_length b
  have h0 : seg (bl b) 0 b.size = bl b := by unfold seg; rw [← hL, List.take_length]; rfl
  have sf := fun (p r : List UInt8) (e : bl b = p ++ r) => seg_suffix (l := bl b) (a := 0) (e := b.size) (p := p) (r := r) (by rw [h0]; exact e) (Nat.zero_le _) (by omega)
  cases hb : bl b with
  | nil =>
    have n1 : needR 71 5 b.size (seg (bl b) 0 b.size) = .inl (5, b.size) := by rw [h0, hb]; rfl
    have hz : b.size = 0 := by rw [← hL, hb]; rfl
    rw [nextR_inl n1] at k1
    subst k1
    have e2 : s2 = .inl (5, b.size) := k2.symm
    subst e2
    have e3 : s3 = .inl (5, b.size) := k3.symm
    exact .inl ⟨(5, 0), rfl, by rw [e3, hz]⟩
  | cons x t =>
    have hxl : b.size = t.length + 1 := by rw [← hL, hb]; rfl
    by_cases hx : x = 71
    · have n1 : needR 71 5 b.size (seg (bl b) 0 b.size) = .inr ((), t) := by rw [h0, hb]; simp only [needR, if_pos hx]
      rw [nextR_inr n1] at k1
      obtain ⟨g1, g2, g3⟩ := sf [x] t hb
      subst k1
      cases ht : t with
      | nil =>
        have n2 : needR 76 5 b.size (seg (bl b) (b.size - t.length) b.size) = .inl (5, b.size) := by rw [g1, ht]; rfl
        rw [nextR_inl n2] at k2
        subst k2
        have e3 : s3 = .inl (5, b.size) := k3.symm
        refine .inl ⟨(5, 1), by simp [headR, hx], ?_⟩
        rw [e3, hxl, ht]
        rfl
      | cons y u =>
        have htl : t.length = u.length + 1 := by rw [ht]; rfl
        by_cases hy : y = 76
        · have n2 : needR 76 5 b.size (seg (bl b) (b.size - t.length) b.size) = .inr ((), u) := by rw [g1, ht]; simp only [needR, if_pos hy]
          rw [nextR_inr n2] at k2
          obtain ⟨g4, g5, g6⟩ := sf [x, y] u (by rw [hb, ht]; rfl)
          subst k2
          cases hu : u with
          | nil =>
            have n3 : needR 1 5 b.size (seg (bl b) (b.size - u.length) b.size) = .inl (5, b.size) := by rw [g4, hu]; rfl
            rw [nextR_inl n3] at k3
            refine .inl ⟨(5, 2), by simp [headR, hx, hy], ?_⟩
            rw [← k3, hxl, htl, hu]
            rfl
          | cons z v =>
            have hul : u.length = v.length + 1 := by rw [hu]; rfl
            by_cases hz : z = 1
            · have n3 : needR 1 5 b.size (seg (bl b) (b.size - u.length) b.size) = .inr ((), v) := by rw [g4, hu]; simp only [needR, if_pos hz]
              rw [nextR_inr n3] at k3
              obtain ⟨g7, g8, g9⟩ := sf [x, y, z] v (by rw [hb, ht, hu]; rfl)
              refine .inr ⟨v, by simp [headR, hx, hy, hz], k3.symm, ?_, g9⟩
              rw [hb, ht, hu] at g7
              exact g7
            · have n3 : needR 1 5 b.size (seg (bl b) (b.size - u.length) b.size) = .inl (5, b.size - u.length) := by rw [g4, hu]; simp only [needR, if_neg hz]
              rw [nextR_inl n3] at k3
              refine .inl ⟨(5, 2), by simp [headR, hx, hy, hz], ?_⟩
              rw [← k3]
              congr 2 <;> omega
        · have n2 : needR 76 5 b.size (seg (bl b) (b.size - t.length) b.size) = .inl (5, b.size - t.length) := by rw [g1, ht]; simp only [needR, if_neg hy]
          rw [nextR_inl n2] at k2
          subst k2
          have e3 : s3 = .inl (5, b.size - t.length) := k3.symm
          refine .inl ⟨(5, 1), by simp [headR, hx, hy], ?_⟩
          rw [e3]
          congr 2 <;> omega
    · have n1 : needR 71 5 b.size (seg (bl b) 0 b.size) = .inl (5, b.size - (seg (bl b) 0 b.size).length) := by rw [h0, hb]; simp only [needR, if_neg hx]
      rw [nextR_inl n1] at k1
      subst k1
      have e2 : s2 = .inl (5, b.size - (seg (bl b) 0 b.size).length) := k2.symm
      subst e2
      have e3 : s3 = .inl (5, b.size - (seg (bl b) 0 b.size).length) := k3.symm
      refine .inl ⟨(5, 0), by simp [headR, hx], ?_⟩
      rw [e3, h0, hL, Nat.sub_self]

theorem sum_next (b : ByteArray) (m d : Mo) {s : Sta} (hok : okSta (bl b) s) (hend : ∀ p, s = .inr p → p.2 = b.size) :
    (b.extract (stA b.size s) b.size = mkB (sum3 (bl (b.extract 0 (stA b.size s)))) → nextR (sumR (bl b) m) (bl b) s = s) ∧
    (b.extract (stA b.size s) b.size ≠ mkB (sum3 (bl (b.extract 0 (stA b.size s)))) → nextR (sumR (bl b) m) (bl b) s = failS 8 (stA b.size s) s) ∧
    ((∃ p, nextR (sumR (bl b) m) (bl b) s = .inr p) → outR (sumR (bl b) m) (bl b) d s = m) := by
  have hL := bl_length b
  rcases s with f | ⟨a, e⟩
  · exact ⟨fun _ => rfl, fun _ => rfl, fun ⟨p, hp⟩ => by cases hp⟩
  · obtain ⟨o1, o2⟩ := hok
    have he : e = b.size := hend _ rfl
    subst he
    have e1 : bl (b.extract 0 a) = (bl b).take (b.size - (seg (bl b) a b.size).length) := by
      rw [bl_extract, seg_length o2, show b.size - (b.size - a) = a by omega]
      rfl
    show (b.extract a b.size = mkB (sum3 (bl (b.extract 0 a))) → _) ∧ (b.extract a b.size ≠ mkB (sum3 (bl (b.extract 0 a))) → _) ∧ _
    rw [e1]
    by_cases hc : seg (bl b) a b.size = sum3 ((bl b).take (b.size - (seg (bl b) a b.size).length))
    · have hs : sumR (bl b) m b.size (seg (bl b) a b.size) = .inr (m, seg (bl b) a b.size) := by simp only [sumR]; rw [if_pos hc]
      have hx : b.extract a b.size = mkB (sum3 ((bl b).take (b.size - (seg (bl b) a b.size).length))) := by apply bl_inj; rw [bl_extract, bl_mkB]; exact hc
      rw [nextR_inr hs, outR_inr hs]
      refine ⟨fun _ => ?_, fun h => absurd hx h, fun _ => rfl⟩
      rw [seg_length o2, show b.size - (b.size - a) = a by omega]
    · have hs : sumR (bl b) m b.size (seg (bl b) a b.size) = .inl (8, b.size - (seg (bl b) a b.size).length) := by simp only [sumR]; rw [if_neg hc]
      rw [nextR_inl hs, outR_inl hs]
      refine ⟨fun h => absurd (by have := congrArg bl h; rw [bl_extract, bl_mkB] at this; exact this) hc, fun _ => ?_, fun ⟨p, hp⟩ => by cases hp⟩
      rw [seg_length o2, show b.size - (b.size - a) = a by omega]
      rfl

/-- A section leaves a reader at the end of the bytes. -/
theorem sect_end {α : Type} (k : Nat) (f : Rd α) (b : ByteArray) {s : Sta} (hend : ∀ p, s = .inr p → p.2 = b.size) : ∀ p, nextR (fun base l => sectR k base f l) (bl b) s = .inr p → p.2 = b.size := by
  intro p hp
  rcases s with g | ⟨a, e⟩
  · cases hp
  · have he : e = b.size := hend _ rfl
    subst he
    cases hs : sectR k b.size f (seg (bl b) a b.size) with
    | inl g => rw [nextR_inl (op := fun base l => sectR k base f l) hs] at hp; cases hp
    | inr q => rw [nextR_inr (op := fun base l => sectR k base f l) (x := q.1) (r := q.2) hs] at hp; cases hp; rfl

/-- The sections and the sum, step by step. -/
theorem rest_next (ip : ByteArray → Bool) (b : ByteArray) (d : Mo) {s s1 s2 s3 s4 s5 : Sta} {x1 x2 : List ByteArray} {x3 x4 : Nat} {x5 : List Wire.Fn} (hok : okSta (bl b) s)
    (k1 : nextR (fun base l => sectR 1 base (listR (fun _ => true) 100) l) (bl b) s = s1) (h1 : outR (fun base l => sectR 1 base (listR (fun _ => true) 100) l) (bl b) [] s = x1)
    (k2 : nextR (fun base l => sectR 2 base (listR ip 50) l) (bl b) s1 = s2) (h2 : outR (fun base l => sectR 2 base (listR ip 50) l) (bl b) [] s1 = x2)
    (k3 : nextR (fun base l => sectR 3 base (numberR 0 1000) l) (bl b) s2 = s3) (h3 : outR (fun base l => sectR 3 base (numberR 0 1000) l) (bl b) 0 s2 = x3)
    (k4 : nextR (fun base l => sectR 4 base (numberR 0 1000) l) (bl b) s3 = s4) (h4 : outR (fun base l => sectR 4 base (numberR 0 1000) l) (bl b) 0 s3 = x4)
    (k5 : nextR (fun base l => sectR 5 base fnListR l) (bl b) s4 = s5) (h5 : outR (fun base l => sectR 5 base fnListR l) (bl b) [] s4 = x5) :
    okSta (bl b) s5 ∧ nextR (restR ip (bl b)) (bl b) s = nextR (sumR (bl b) ⟨x1, x2, (x3 : Int), (x4 : Int), x5⟩) (bl b) s5 ∧ outR (restR ip (bl b)) (bl b) d s = outR (sumR (bl b) ⟨x1, x2, (x3 : Int), (x4 : Int), x5⟩) (bl b) d s5 := by
  have t1 := sectR_tidy 1 (by omega) (listR_tidy (fun _ => true) 100)
  have t2 := sectR_tidy 2 (by omega) (listR_tidy ip 50)
  have t3 := sectR_tidy 3 (by omega) (numberR_tidy 0 1000)
  have t4 := sectR_tidy 4 (by omega) (numberR_tidy 0 1000)
  have t5 := sectR_tidy 5 (by omega) fnListR_tidy
  have ok1 : okSta (bl b) s1 := k1 ▸ t1.next hok
  have ok2 : okSta (bl b) s2 := k2 ▸ t2.next ok1
  have ok3 : okSta (bl b) s3 := k3 ▸ t3.next ok2
  have ok4 : okSta (bl b) s4 := k4 ▸ t4.next ok3
  have ok5 : okSta (bl b) s5 := k5 ▸ t5.next ok4
  unfold restR
  obtain ⟨a1, b1⟩ := comp_next (op1 := fun base l => sectR 1 base (listR (fun _ => true) 100) l) (fun (xa : List ByteArray) => (fun base c1 =>
    bnd (sectR 2 base (listR ip 50) c1) fun p => (fun (xb : List ByteArray) => (fun base c2 =>
    bnd (sectR 3 base (numberR 0 1000) c2) fun c => (fun (xc : Nat) => (fun base c3 =>
    bnd (sectR 4 base (numberR 0 1000) c3) fun d => (fun (xd : Nat) => (fun base c4 =>
    bnd (sectR 5 base fnListR c4) fun e => (fun (xe : List Wire.Fn) => sumR (bl b) ⟨xa, xb, (xc : Int), (xd : Int), xe⟩) e.1 base e.2 : Rd Mo)) d.1 base d.2 : Rd Mo)) c.1 base c.2 : Rd Mo)) p.1 base p.2 : Rd Mo)) t1 [] d hok
  rw [h1, k1] at a1 b1
  obtain ⟨a2, b2⟩ := comp_next (op1 := fun base l => sectR 2 base (listR ip 50) l) (fun (xb : List ByteArray) => (fun base c2 =>
    bnd (sectR 3 base (numberR 0 1000) c2) fun c => (fun (xc : Nat) => (fun base c3 =>
    bnd (sectR 4 base (numberR 0 1000) c3) fun d => (fun (xd : Nat) => (fun base c4 =>
    bnd (sectR 5 base fnListR c4) fun e => (fun (xe : List Wire.Fn) => sumR (bl b) ⟨x1, xb, (xc : Int), (xd : Int), xe⟩) e.1 base e.2 : Rd Mo)) d.1 base d.2 : Rd Mo)) c.1 base c.2 : Rd Mo)) t2 [] d ok1
  rw [h2, k2] at a2 b2
  obtain ⟨a3, b3⟩ := comp_next (op1 := fun base l => sectR 3 base (numberR 0 1000) l) (fun (xc : Nat) => (fun base c3 =>
    bnd (sectR 4 base (numberR 0 1000) c3) fun d => (fun (xd : Nat) => (fun base c4 =>
    bnd (sectR 5 base fnListR c4) fun e => (fun (xe : List Wire.Fn) => sumR (bl b) ⟨x1, x2, (xc : Int), (xd : Int), xe⟩) e.1 base e.2 : Rd Mo)) d.1 base d.2 : Rd Mo)) t3 0 d ok2
  rw [h3, k3] at a3 b3
  obtain ⟨a4, b4⟩ := comp_next (op1 := fun base l => sectR 4 base (numberR 0 1000) l) (fun (xd : Nat) => (fun base c4 =>
    bnd (sectR 5 base fnListR c4) fun e => (fun (xe : List Wire.Fn) => sumR (bl b) ⟨x1, x2, (x3 : Int), (xd : Int), xe⟩) e.1 base e.2 : Rd Mo)) t4 0 d ok3
  rw [h4, k4] at a4 b4
  obtain ⟨a5, b5⟩ := comp_next (op1 := fun base l => sectR 5 base fnListR l) (fun (xe : List Wire.Fn) => sumR (bl b) ⟨x1, x2, (x3 : Int), (x4 : Int), xe⟩) t5 [] d ok4
  rw [h5, k5] at a5 b5
  exact ⟨ok5, a1.trans (a2.trans (a3.trans (a4.trans a5))), b1.trans (b2.trans (b3.trans (b4.trans b5)))⟩

theorem good_back {α : Type} {op : Rd α} {l : List UInt8} {s : Sta} (h : ∃ p, nextR op l s = .inr p) : ∃ p, s = .inr p := by
  rcases s with f | p
  · obtain ⟨p, hp⟩ := h; cases hp
  · exact ⟨p, rfl⟩

theorem rest_unpack (ip : ByteArray → Bool) (b : ByteArray) (d : Mo) {s3 : Sta}
    (hh : (∃ f, headR (bl b) = .inl f ∧ s3 = .inl f) ∨ ∃ l0, headR (bl b) = .inr l0 ∧ s3 = .inr (b.size - l0.length, b.size) ∧ seg (bl b) (b.size - l0.length) b.size = l0 ∧ l0.length ≤ b.size) :
    (∃ f, unpackR ip (bl b) = .inl f ∧ nextR (restR ip (bl b)) (bl b) s3 = .inl f) ∨ ∃ p, unpackR ip (bl b) = .inr (outR (restR ip (bl b)) (bl b) d s3) ∧ nextR (restR ip (bl b)) (bl b) s3 = .inr p := by
  have hL := bl_length b
  rcases hh with ⟨f, h1, rfl⟩ | ⟨l0, h1, rfl, h3, h4⟩
  · exact .inl ⟨f, by unfold unpackR; rw [h1]; rfl, rfl⟩
  · rw [unpackR_rest ip (bl b) l0 h1, hL]
    cases hr : restR ip (bl b) b.size l0 with
    | inl f =>
      refine .inl ⟨f, rfl, ?_⟩
      exact nextR_inl (by rw [h3]; exact hr)
    | inr p =>
      obtain ⟨m, c⟩ := p
      have hr2 : restR ip (bl b) b.size (seg (bl b) (b.size - l0.length) b.size) = .inr (m, c) := by rw [h3]; exact hr
      exact .inr ⟨_, by rw [outR_inr hr2]; rfl, nextR_inr hr2⟩

end Go.Proofs.YticaoekmlaipnaaDoor

