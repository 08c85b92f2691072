/-
  What lies in memory: the pattern's cells, the reader's cells, and what a call leaves as it was.
-/
import Derived.RangeFuncWrites
import Derived.WalkSmall
import Derived.Deep.Draws
import Derived.Shelf.Spec.TrailingZeros
import Derived.PlainAid
set_option linter.unusedSimpArgs false
set_option linter.unusedVariables false
namespace Go.Proofs.YticaoekmlaipnaaDoor
open Go.RowKit

/-- The table of math/bits lies in its variable. -/
def Tab (w : World) : Prop := TabAt 0 Lib.deBruijn64tab w

/-- But for the blocks of S all that was there is as it was. -/
structure Fr (S : List Nat) (w w' : World) : Prop where
  os : w'.os = w.os
  tape : w'.tape = w.tape
  output : w'.output = w.output
  size : w.heap.size ≤ w'.heap.size
  block : ∀ k, k < w.heap.size → k ∉ S → w'.heap[k]? = w.heap[k]?

theorem Fr.refl (S : List Nat) (w : World) : Fr S w w := ⟨rfl, rfl, rfl, Nat.le_refl _, fun _ _ _ => rfl⟩
theorem Fr.trans {S : List Nat} {a b c : World} (h : Fr S a b) (k : Fr S b c) : Fr S a c :=
  ⟨k.os.trans h.os, k.tape.trans h.tape, k.output.trans h.output, Nat.le_trans h.size k.size, fun i hi hn => (k.block i (Nat.lt_of_lt_of_le hi h.size) hn).trans (h.block i hi hn)⟩
theorem Fr.mono {S S' : List Nat} {a b : World} (h : Fr S a b) (hs : ∀ x, x ∈ S → x ∈ S') : Fr S' a b :=
  ⟨h.os, h.tape, h.output, h.size, fun i hi hn => h.block i hi (fun hx => hn (hs i hx))⟩
/-- What turns a block that the caller's world has not yet is no turn for the caller. -/
theorem Fr.trans' {S S' : List Nat} {a b c : World} (h : Fr S a b) (k : Fr S' b c) (hs : ∀ x, x ∈ S' → x ∈ S ∨ a.heap.size ≤ x) : Fr S a c :=
  ⟨k.os.trans h.os, k.tape.trans h.tape, k.output.trans h.output, Nat.le_trans h.size k.size, fun i hi hn =>
    (k.block i (Nat.lt_of_lt_of_le hi h.size) (fun hx => (hs i hx).elim hn (fun h' => by omega))).trans (h.block i hi hn)⟩
theorem Fr.drew {S : List Nat} {a w : World} (h : Fr S a w) : Fr S a w.drew := ⟨h.os, h.tape, h.output, h.size, h.block⟩
theorem Fr.drewN {S : List Nat} {a w : World} (h : Fr S a w) (n : Nat) : Fr S a (w.drewN n) := ⟨h.os, h.tape, h.output, h.size, h.block⟩
theorem Fr.alloc {S : List Nat} {a w : World} (h : Fr S a w) (o : Obj) : Fr S a (w.alloc o) :=
  h.trans ⟨rfl, rfl, rfl, by simp, fun k hk _ => Below.heap_alloc _ _ _ hk⟩
theorem Fr.setCell {S : List Nat} {a w : World} (h : Fr S a w) {p : Addr} (hp : p.block ∈ S ∨ a.heap.size ≤ p.block) (u : Value) : Fr S a (w.setCell p u) :=
  ⟨h.os, h.tape, h.output, by simpa [World.setCell] using h.size, fun k hk hn => (Below.heap_setCell _ _ _ _ (by rintro rfl; exact hp.elim hn (fun h' => by omega))).trans (h.block k hk hn)⟩
theorem Fr.cell {S : List Nat} {w w' : World} (h : Fr S w w') {p : Addr} (hp : p.block < w.heap.size) (hn : p.block ∉ S) : w'.cell? p = w.cell? p := World.cell?_of_block (w := w) (h.block p.block hp hn)
theorem Fr.frozen {S : List Nat} {w w' : World} (h : Fr S w w') {p : Addr} (hp : p.block < w.heap.size) (hn : p.block ∉ S) : w'.frozen? p = w.frozen? p := World.frozen?_of_block (w := w) (h.block p.block hp hn)
theorem Fr.of_below {w w' : World} (h : Below w.heap.size w w') : Fr [] w w' := ⟨h.os, h.tape, h.output, h.size, fun k hk _ => h.block k hk⟩
theorem Fr.below {S : List Nat} {w w' : World} (h : Fr S w w') {B : Nat} (hB : B ≤ w.heap.size) (hs : ∀ x, x ∈ S → B ≤ x) : Below B w w' :=
  ⟨h.os, h.tape, h.output, h.size, fun k hk => h.block k (by omega) (fun hx => by have := hs k hx; omega)⟩

theorem setCell_off {w : World} {b i j : Nat} {v : Value} (h : i ≠ j) : (w.setCell ⟨b, i, none⟩ v).cell? ⟨b, j, none⟩ = w.cell? ⟨b, j, none⟩ := World.cell?_setCell_other _ _ _ _ (by simp [h])
theorem setCell_far {w : World} {b c i j : Nat} {v : Value} (h : b ≠ c) : (w.setCell ⟨b, i, none⟩ v).cell? ⟨c, j, none⟩ = w.cell? ⟨c, j, none⟩ := World.cell?_setCell_other _ _ _ _ (by simp [h])

theorem lt_of_cell {w : World} {a : Addr} {v : Value} (h : w.cell? a = some v) : a.block < w.heap.size := by
  apply Nat.lt_of_not_le
  intro hle
  unfold World.cell? at h
  rw [Array.getElem?_eq_none hle] at h
  simp at h

theorem cell_new (W : World) (v : Value) (t : TypeId) : (W.alloc (.cells #[v] t)).cell? ⟨W.heap.size, 0, none⟩ = some v := by
  have h := World.alloc_heap_new W (.cells #[v] t)
  unfold World.cell?; rw [h]; rfl

theorem frozen_new (W : World) (v : Value) (t : TypeId) : (W.alloc (.cells #[v] t)).frozen? ⟨W.heap.size, 0, none⟩ = false := by
  have h := World.alloc_heap_new W (.cells #[v] t)
  unfold World.frozen?; rw [h]; rfl

/-- A block in which a cell lies is not the one that an iterator's step turns. -/
theorem block_kept {W W' : World} {row : Option Nat} {a : Addr} {v : Value} (h : W.cell? a = some v) (hg : W.grownBy W' row)
    (hr : ∀ r, row = some r → ∃ o : Obj, W.heap[r]? = some o ∧ o.isCells = false) : W'.heap[a.block]? = W.heap[a.block]? := by
  refine hg.block a.block (lt_of_cell h) ?_
  intro e
  obtain ⟨o, ho, hc⟩ := hr a.block e.symm
  unfold World.cell? at h
  rw [ho] at h
  cases o <;> simp_all [Obj.isCells]

theorem Tab.lt {w : World} (h : Tab w) : 0 < w.heap.size := lt_of_cell (a := ⟨0, 0, none⟩) (h 0 (by decide))
theorem Tab.of_block {w w' : World} (h : Tab w) (hb : w'.heap[0]? = w.heap[0]?) : Tab w' := fun j hj => (World.cell?_of_block (w := w) (a := ⟨0, j, none⟩) hb).trans (h j hj)
theorem Tab.fr {S : List Nat} {w w' : World} (h : Tab w) (hf : Fr S w w') (h0 : 0 ∉ S) : Tab w' := h.of_block (hf.block 0 h.lt h0)

/-- The cells of a pattern. -/
structure PatAt (w : World) (pb : Nat) (wh : Nat → Value) (tk : Nat → Nat) (fo : Nat → Nat → Nat) : Prop where
  hw : ∀ i, i < 12 → w.cell? ⟨pb, i, none⟩ = some (wh i)
  ht : ∀ b, b < 256 → w.cell? ⟨pb, 12 + b, none⟩ = some (.int .u64 (tk b))
  hf : ∀ s a, s < 4 → a < 50 → w.cell? ⟨pb, 268 + s * 50 + a, none⟩ = some (.int .u64 (fo s a))
  fz : ∀ i, i < 468 → w.frozen? ⟨pb, i, none⟩ = false

theorem PatAt.lt {w : World} {pb : Nat} {wh : Nat → Value} {tk : Nat → Nat} {fo : Nat → Nat → Nat} (h : PatAt w pb wh tk fo) : pb < w.heap.size := lt_of_cell (a := ⟨pb, 12, none⟩) (h.ht 0 (by decide))
theorem PatAt.of_block {w w' : World} {pb : Nat} {wh : Nat → Value} {tk : Nat → Nat} {fo : Nat → Nat → Nat} (h : PatAt w pb wh tk fo) (hb : w'.heap[pb]? = w.heap[pb]?) : PatAt w' pb wh tk fo :=
  ⟨fun i hi => (World.cell?_of_block (w := w) (a := ⟨pb, i, none⟩) hb).trans (h.hw i hi), fun b hb' => (World.cell?_of_block (w := w) (a := ⟨pb, 12 + b, none⟩) hb).trans (h.ht b hb'),
   fun s a hs ha => (World.cell?_of_block (w := w) (a := ⟨pb, 268 + s * 50 + a, none⟩) hb).trans (h.hf s a hs ha), fun i hi => (World.frozen?_of_block (w := w) (a := ⟨pb, i, none⟩) hb).trans (h.fz i hi)⟩
theorem PatAt.fr {S : List Nat} {w w' : World} {pb : Nat} {wh : Nat → Value} {tk : Nat → Nat} {fo : Nat → Nat → Nat} (h : PatAt w pb wh tk fo) (hf : Fr S w w') (h0 : pb ∉ S) : PatAt w' pb wh tk fo := h.of_block (hf.block pb h.lt h0)
theorem PatAt.congr {w : World} {pb : Nat} {wh : Nat → Value} {tk tk' : Nat → Nat} {fo fo' : Nat → Nat → Nat} (h : PatAt w pb wh tk fo) (ht : ∀ b, b < 256 → tk b = tk' b) (hf : ∀ s a, s < 4 → a < 50 → fo s a = fo' s a) : PatAt w pb wh tk' fo' :=
  ⟨h.hw, fun b hb => by rw [← ht b hb]; exact h.ht b hb, fun s a hs ha => by rw [← hf s a hs ha]; exact h.hf s a hs ha, h.fz⟩

/-- A store into the cell of one atom at one spot. -/
theorem PatAt.setFollow {w : World} {pb : Nat} {wh : Nat → Value} {tk : Nat → Nat} {fo : Nat → Nat → Nat} (h : PatAt w pb wh tk fo) (s a : Nat) (hs : s < 4) (ha : a < 50) (v : Nat) :
    PatAt (w.setCell ⟨pb, 268 + s * 50 + a, none⟩ (.int .u64 v)) pb wh tk (fun s' a' => if s' = s ∧ a' = a then v else fo s' a') := by
  refine ⟨fun i hi => ?_, fun b hb => ?_, fun s' a' hs' ha' => ?_, fun i hi => ?_⟩
  · exact (setCell_off (by omega)).trans (h.hw i hi)
  · exact (setCell_off (by omega)).trans (h.ht b hb)
  · by_cases e : s' = s ∧ a' = a
    · obtain ⟨rfl, rfl⟩ := e
      rw [if_pos ⟨rfl, rfl⟩]
      exact World.cell?_setCell_same' _ _ _ (by rw [h.hf s' a' hs ha]; rfl)
    · rw [if_neg e]; exact (setCell_off (by omega)).trans (h.hf s' a' hs' ha')
  · rw [World.frozen?_setCell]; exact h.fz i hi

end Go.Proofs.YticaoekmlaipnaaDoor

namespace Go.Proofs.YticaoekmlaipnaaDoor
namespace Wire

/-- A number in bytes; the first number is a bound on how many. -/
def digsF : Nat → Nat → List UInt8
  | 0, _ => []
  | f + 1, n => if n < 128 then [UInt8.ofNat n] else UInt8.ofNat (128 + n % 128) :: digsF f (n / 128)

def digs (n : Nat) : List UInt8 := digsF 10 n

theorem digsF_fuel (f g n : Nat) (hf : n < 128 ^ f) (hg : n < 128 ^ g) (h0 : 0 < f) (h1 : 0 < g) : digsF f n = digsF g n := by
  induction f generalizing g n with
  | zero => omega
  | succ f ih =>
    cases g with
    | zero => omega
    | succ g =>
      simp only [digsF]
      by_cases h : n < 128
      · simp only [if_pos h]
      · simp only [if_neg h]
        congr 1
        have a : n / 128 < 128 ^ f := by rw [Nat.pow_succ] at hf; omega
        have b : n / 128 < 128 ^ g := by rw [Nat.pow_succ] at hg; omega
        refine ih g _ a b ?_ ?_
        · cases f with
          | zero => simp at a; omega
          | succ f => omega
        · cases g with
          | zero => simp at b; omega
          | succ g => omega

theorem digs_lt {n : Nat} (h : n < 128) : digs n = [UInt8.ofNat n] := by simp only [digs, digsF, if_pos h]

theorem digs_ge {n : Nat} (h : 128 ≤ n) (hb : n < 128 ^ 9) : digs n = UInt8.ofNat (128 + n % 128) :: digs (n / 128) := by
  unfold digs
  rw [digsF, if_neg (by omega)]
  congr 1
  have e : (128 : Nat) ^ 9 = 9223372036854775808 := by decide
  exact digsF_fuel 9 10 _ (by omega) (by have : (128 : Nat) ^ 10 = 1180591620717411303424 := by decide
                                         omega) (by omega) (by omega)

/-- A number in bytes, read off: at most so many bytes; is it the first of them? The number, and what is left. -/
def numF : Nat → Bool → List UInt8 → Option (Nat × List UInt8)
  | 0, _, _ => none
  | _ + 1, _, [] => none
  | f + 1, first, c :: r =>
    if c.toNat < 128 then (if c.toNat = 0 ∧ first = false then none else some (c.toNat, r))
    else (numF f false r).map fun p => (c.toNat - 128 + 128 * p.1, p.2)

def num (l : List UInt8) : Option (Nat × List UInt8) := numF 5 true l

theorem numF_digsF (f : Nat) (first : Bool) (n : Nat) (r : List UInt8) (h0 : 0 < f) (h : n < 128 ^ f) (hz : first = false → n ≠ 0) : numF f first (digsF f n ++ r) = some (n, r) := by
  induction f generalizing first n with
  | zero => omega
  | succ f ih =>
    rw [digsF]
    by_cases hn : n < 128
    · rw [if_pos hn]
      have e : (UInt8.ofNat n).toNat = n := by simp [UInt8.toNat_ofNat]; omega
      simp only [List.cons_append, List.nil_append, numF, e, if_pos hn]
      rw [if_neg]
      rintro ⟨a, b⟩
      exact hz b a
    · rw [if_neg hn]
      have e : (UInt8.ofNat (128 + n % 128)).toNat = 128 + n % 128 := by simp [UInt8.toNat_ofNat]; omega
      have a : n / 128 < 128 ^ f := by rw [Nat.pow_succ] at h; omega
      have a0 : 0 < f := by
        cases f with
        | zero => simp at a; omega
        | succ f => omega
      simp only [List.cons_append, numF, e]
      rw [if_neg (by omega), ih false (n / 128) a0 a (by omega)]
      simp only [Option.map_some]
      congr 2
      omega

theorem numF_some (f : Nat) (first : Bool) (l : List UInt8) (n : Nat) (r : List UInt8) (h : numF f first l = some (n, r)) :
    l = digsF f n ++ r ∧ n < 128 ^ f ∧ (first = false → n ≠ 0) ∧ 0 < f := by
  induction f generalizing first l n r with
  | zero => simp [numF] at h
  | succ f ih =>
    cases l with
    | nil => simp [numF] at h
    | cons c t =>
      rw [numF] at h
      by_cases hc : c.toNat < 128
      · rw [if_pos hc] at h
        by_cases hz : c.toNat = 0 ∧ first = false
        · rw [if_pos hz] at h; simp at h
        · rw [if_neg hz] at h
          simp only [Option.some.injEq, Prod.mk.injEq] at h
          obtain ⟨rfl, rfl⟩ := h
          refine ⟨?_, ?_, ?_, by omega⟩
          · rw [digsF, if_pos hc]
            simp
          · have : 0 < 128 ^ f := Nat.pow_pos (by omega)
            rw [Nat.pow_succ]; omega
          · intro hf h0; exact hz ⟨h0, hf⟩
      · rw [if_neg hc] at h
        cases hr : numF f false t with
        | none => rw [hr] at h; simp at h
        | some p =>
          obtain ⟨m, s⟩ := p
          rw [hr] at h
          simp only [Option.map_some, Option.some.injEq, Prod.mk.injEq] at h
          obtain ⟨rfl, rfl⟩ := h
          obtain ⟨a, b, d, e⟩ := ih false t m s hr
          have hm := d rfl
          have hc2 : c.toNat < 256 := c.toNat_lt
          refine ⟨?_, ?_, ?_, by omega⟩
          · rw [digsF, if_neg (by omega)]
            have e1 : (c.toNat - 128 + 128 * m) % 128 = c.toNat - 128 := by omega
            have e2 : (c.toNat - 128 + 128 * m) / 128 = m := by omega
            rw [e1, e2, show 128 + (c.toNat - 128) = c.toNat by omega, a]
            simp
          · rw [Nat.pow_succ]; omega
          · intro _; omega

theorem pow5 : (128 : Nat) ^ 5 = 34359738368 := by decide
theorem pow9 : (128 : Nat) ^ 9 = 9223372036854775808 := by decide
theorem pow10 : (128 : Nat) ^ 10 = 1180591620717411303424 := by decide

theorem num_digs {n : Nat} (h : n < 34359738368) (r : List UInt8) : num (digs n ++ r) = some (n, r) := by
  have h5 := pow5
  have h10 := pow10
  unfold num digs
  rw [digsF_fuel 10 5 n (by omega) (by omega) (by omega) (by omega)]
  exact numF_digsF 5 true n r (by omega) (by omega) (by simp)

theorem num_some {l : List UInt8} {n : Nat} {r : List UInt8} (h : num l = some (n, r)) : l = digs n ++ r ∧ n < 34359738368 := by
  have h5 := pow5
  have h10 := pow10
  obtain ⟨a, b, -, -⟩ := numF_some 5 true l n r h
  refine ⟨?_, by omega⟩
  unfold digs
  rw [digsF_fuel 10 5 n (by omega) (by omega) (by omega) (by omega)]
  exact a

/-- A number and what is behind it are told by the bytes. -/
theorem digs_unique {n m : Nat} {r s : List UInt8} (hn : n < 34359738368) (hm : m < 34359738368) (h : digs n ++ r = digs m ++ s) : n = m ∧ r = s := by
  have a := num_digs hn r
  rw [h, num_digs hm s] at a
  simp only [Option.some.injEq, Prod.mk.injEq] at a
  exact ⟨a.1.symm, a.2.symm⟩

/-- The sum. -/
def sumStep (s : Nat) (c : UInt8) : Nat := (257 * s + c.toNat + 1) % 1000003
def sumFrom (s : Nat) (l : List UInt8) : Nat := l.foldl sumStep s
def sumN (l : List UInt8) : Nat := sumFrom 1 l
def sum3 (l : List UInt8) : List UInt8 := [UInt8.ofNat (sumN l % 256), UInt8.ofNat (sumN l / 256 % 256), UInt8.ofNat (sumN l / 65536)]

theorem sumStep_lt (s : Nat) (c : UInt8) : sumStep s c < 1000003 := Nat.mod_lt _ (by omega)

theorem sumFrom_lt (s : Nat) (h : s < 1000003) (l : List UInt8) : sumFrom s l < 1000003 := by
  induction l generalizing s with
  | nil => exact h
  | cons c t ih => exact ih _ (sumStep_lt s c)

theorem sumN_lt (l : List UInt8) : sumN l < 1000003 := sumFrom_lt 1 (by omega) l

theorem sumStep_inj {s t : Nat} {c : UInt8} (hs : s < 1000003) (ht : t < 1000003) (h : sumStep s c = sumStep t c) : s = t := by
  unfold sumStep at h
  omega

theorem sumStep_byte {s : Nat} {c d : UInt8} (h : sumStep s c = sumStep s d) : c = d := by
  unfold sumStep at h
  have hc : c.toNat < 256 := c.toNat_lt
  have hd : d.toNat < 256 := d.toNat_lt
  apply UInt8.toNat_inj.1
  omega

theorem sumFrom_inj {s t : Nat} (hs : s < 1000003) (ht : t < 1000003) (l : List UInt8) (h : sumFrom s l = sumFrom t l) : s = t := by
  induction l generalizing s t with
  | nil => exact h
  | cons c r ih => exact sumStep_inj hs ht (ih (sumStep_lt _ _) (sumStep_lt _ _) h)

/-- One byte is another: so is the sum. -/
theorem sumN_byte {a b : List UInt8} {c d : UInt8} (h : sumN (a ++ c :: b) = sumN (a ++ d :: b)) : c = d := by
  unfold sumN sumFrom at h
  rw [List.foldl_append, List.foldl_append, List.foldl_cons, List.foldl_cons] at h
  exact sumStep_byte (sumFrom_inj (sumStep_lt _ _) (sumStep_lt _ _) b h)

theorem sum3_inj {a b : List UInt8} (h : sum3 a = sum3 b) : sumN a = sumN b := by
  have ha := sumN_lt a
  have hb := sumN_lt b
  unfold sum3 at h
  generalize sumN a = x at *
  generalize sumN b = y at *
  simp only [List.cons.injEq, and_true] at h
  obtain ⟨h1, h2, h3⟩ := h
  have e1 := congrArg UInt8.toNat h1
  have e2 := congrArg UInt8.toNat h2
  have e3 := congrArg UInt8.toNat h3
  simp only [UInt8.toNat_ofNat', Nat.reducePow] at e1 e2 e3
  omega

theorem sum3_length (l : List UInt8) : (sum3 l).length = 3 := rfl

end Wire
end Go.Proofs.YticaoekmlaipnaaDoor

namespace Go.Proofs.YticaoekmlaipnaaDoor
namespace Wire

/-- A function of a module. -/
structure Fn where
  params : Int
  locs : Int
  code : ByteArray

/-- A module. -/
structure Mo where
  texts : List ByteArray
  pats : List ByteArray
  globs : Int
  arrs : Int
  fns : List Fn

/-- A text's bytes. -/
def bl (s : ByteArray) : List UInt8 := s.data.toList

theorem bl_length (s : ByteArray) : (bl s).length = s.size := by
  show s.data.toList.length = s.data.size
  exact Array.length_toList

theorem bl_mk (l : List UInt8) : bl ⟨l.toArray⟩ = l := by simp [bl]

theorem mk_bl (s : ByteArray) : (⟨(bl s).toArray⟩ : ByteArray) = s := by simp [bl]

theorem mk_size (l : List UInt8) : (⟨l.toArray⟩ : ByteArray).size = l.length := by simp [ByteArray.size]

theorem bl_inj {s t : ByteArray} (h : bl s = bl t) : s = t := by rw [← mk_bl s, ← mk_bl t, h]

/-! What is written. -/

def textB (s : ByteArray) : List UInt8 := digs s.size ++ bl s
def textsB (l : List ByteArray) : List UInt8 := l.flatMap textB
def listing (l : List ByteArray) : List UInt8 := digs l.length ++ textsB l
def fnB (f : Fn) : List UInt8 := digs f.params.toNat ++ (digs f.locs.toNat ++ textB f.code)
def fnsB (l : List Fn) : List UInt8 := l.flatMap fnB
def fnsL (l : List Fn) : List UInt8 := digs l.length ++ fnsB l
def sect (k : Nat) (c : List UInt8) : List UInt8 := UInt8.ofNat k :: (digs c.length ++ c)
def body (m : Mo) : List UInt8 :=
  71 :: 76 :: 1 :: (sect 1 (listing m.texts) ++ (sect 2 (listing m.pats) ++ (sect 3 (digs m.globs.toNat) ++ (sect 4 (digs m.arrs.toNat) ++ sect 5 (fnsL m.fns)))))
def written (m : Mo) : List UInt8 := body m ++ sum3 (body m)

/-- Is a function within its limits, as the i-th? -/
def lawful (f : Fn) (i : Nat) : Bool :=
  decide (0 ≤ f.params) && decide (f.params ≤ 8) && decide (f.params ≤ f.locs) && decide (f.locs ≤ 16) && decide (f.code.size ≤ 20000) && (decide (2 < i) || decide (f.params = 0))

def lawfulAll : List Fn → Nat → Bool
  | [], _ => true
  | f :: r, i => lawful f i && lawfulAll r (i + 1)

/-- Is a module within its limits? -/
def within (ip : ByteArray → Bool) (m : Mo) : Bool :=
  decide (m.texts.length ≤ 1000) && decide (m.pats.length ≤ 1000) && decide (3 ≤ m.fns.length) && decide (m.fns.length ≤ 1000) &&
  decide (0 ≤ m.globs) && decide (m.globs ≤ 1000) && decide (0 ≤ m.arrs) && decide (m.arrs ≤ 1000) &&
  m.texts.all (fun s => decide (s.size ≤ 100)) && m.pats.all (fun s => decide (s.size ≤ 50) && ip s) && lawfulAll m.fns 0

/-! What is read: an error and its place, or what there is. -/

def bnd {α β : Type} (x : (Nat × Nat) ⊕ α) (f : α → (Nat × Nat) ⊕ β) : (Nat × Nat) ⊕ β :=
  match x with
  | .inl e => .inl e
  | .inr a => f a

/-- A number from least to most; base less what is left is where one stands. -/
def numberR (least most base : Nat) (c : List UInt8) : (Nat × Nat) ⊕ (Nat × List UInt8) :=
  match num c with
  | none => .inl (6, base - c.length)
  | some (n, r) => if n < least ∨ most < n then .inl (4, base - c.length) else .inr (n, r)

/-- A length, and so many bytes. -/
def bytesR (most base : Nat) (c : List UInt8) : (Nat × Nat) ⊕ (ByteArray × List UInt8) :=
  bnd (numberR 0 most base c) fun p => if p.2.length < p.1 then .inl (7, base - c.length) else .inr (⟨(p.2.take p.1).toArray⟩, p.2.drop p.1)

/-- So many texts. -/
def textsR (ip : ByteArray → Bool) (most base : Nat) : Nat → List UInt8 → (Nat × Nat) ⊕ (List ByteArray × List UInt8)
  | 0, c => .inr ([], c)
  | k + 1, c => bnd (bytesR most base c) fun p =>
      if ip p.1 = true then bnd (textsR ip most base k p.2) fun q => .inr (p.1 :: q.1, q.2)
      else .inl (2, base - p.2.length - p.1.size)

/-- A function, the i-th. -/
def fnR (i base : Nat) (c : List UInt8) : (Nat × Nat) ⊕ (Fn × List UInt8) :=
  bnd (numberR 0 (if i < 3 then 0 else 8) base c) fun p =>
  bnd (numberR p.1 16 base p.2) fun q =>
  bnd (bytesR 20000 base q.2) fun s => .inr (⟨(p.1 : Int), (q.1 : Int), s.1⟩, s.2)

/-- So many functions, from the i-th on. -/
def fnsR (base : Nat) : Nat → Nat → List UInt8 → (Nat × Nat) ⊕ (List Fn × List UInt8)
  | 0, _, c => .inr ([], c)
  | k + 1, i, c => bnd (fnR i base c) fun p => bnd (fnsR base k (i + 1) p.2) fun q => .inr (p.1 :: q.1, q.2)

/-- A section begins: its content, and what is behind it. -/
def openR (k base : Nat) (l : List UInt8) : (Nat × Nat) ⊕ (List UInt8 × List UInt8) :=
  match l with
  | [] => .inl (7, base)
  | c :: t => if c.toNat ≠ k then .inl (7, base - l.length) else
    match num t with
    | none => .inl (6, base - t.length)
    | some (n, u) => if u.length < n then .inl (7, base - t.length) else .inr (u.take n, u.drop n)

/-- A section ends: nothing of its content is left. -/
def shutR {α : Type} (base : Nat) (p : α × List UInt8) : (Nat × Nat) ⊕ α :=
  if p.2 = [] then .inr p.1 else .inl (7, base - p.2.length)

/-- A section, its content read by f (which is told where the content's end is). -/
def sectR {α : Type} (k base : Nat) (f : Nat → List UInt8 → (Nat × Nat) ⊕ (α × List UInt8)) (l : List UInt8) : (Nat × Nat) ⊕ (α × List UInt8) :=
  bnd (openR k base l) fun p => bnd (f (base - p.2.length) p.1) fun q => bnd (shutR (base - p.2.length) q) fun a => .inr (a, p.2)

/-- The head. -/
def headR (l : List UInt8) : (Nat × Nat) ⊕ List UInt8 :=
  match l with
  | [] => .inl (5, 0)
  | a :: t => if a ≠ 71 then .inl (5, 0) else
    match t with
    | [] => .inl (5, 1)
    | b :: u => if b ≠ 76 then .inl (5, 1) else
      match u with
      | [] => .inl (5, 2)
      | c :: v => if c ≠ 1 then .inl (5, 2) else .inr v

def listR (ip : ByteArray → Bool) (most base : Nat) (c : List UInt8) : (Nat × Nat) ⊕ (List ByteArray × List UInt8) :=
  bnd (numberR 0 1000 base c) fun p => textsR ip most base p.1 p.2

def fnListR (base : Nat) (c : List UInt8) : (Nat × Nat) ⊕ (List Fn × List UInt8) :=
  bnd (numberR 3 1000 base c) fun p => fnsR base p.1 0 p.2

/-- All of it, at most 40000 bytes. -/
def unpackR (ip : ByteArray → Bool) (l : List UInt8) : (Nat × Nat) ⊕ Mo :=
  bnd (headR l) fun l0 =>
  bnd (sectR 1 l.length (listR (fun _ => true) 100) l0) fun a =>
  bnd (sectR 2 l.length (listR ip 50) a.2) fun b =>
  bnd (sectR 3 l.length (numberR 0 1000) b.2) fun c =>
  bnd (sectR 4 l.length (numberR 0 1000) c.2) fun d =>
  bnd (sectR 5 l.length fnListR d.2) fun e =>
  if e.2 = sum3 (l.take (l.length - e.2.length)) then .inr ⟨a.1, b.1, (c.1 : Int), (d.1 : Int), e.1⟩ else .inl (8, l.length - e.2.length)

def unpack (ip : ByteArray → Bool) (l : List UInt8) : (Nat × Nat) ⊕ Mo :=
  if 40000 < l.length then .inl (1, 0) else unpackR ip l

/-! What is read was written. -/

theorem bnd_inr {α β : Type} {x : (Nat × Nat) ⊕ α} {f : α → (Nat × Nat) ⊕ β} {b : β} (h : bnd x f = .inr b) : ∃ a, x = .inr a ∧ f a = .inr b := by
  cases x with
  | inl e => simp [bnd] at h
  | inr a => exact ⟨a, rfl, h⟩

theorem numberR_inr {least most base : Nat} {c : List UInt8} {n : Nat} {r : List UInt8} (h : numberR least most base c = .inr (n, r)) :
    c = digs n ++ r ∧ least ≤ n ∧ n ≤ most := by
  unfold numberR at h
  split at h
  · cases h
  · rename_i n' r' hn
    split at h
    · cases h
    · simp only [Sum.inr.injEq, Prod.mk.injEq] at h
      obtain ⟨rfl, rfl⟩ := h
      exact ⟨(num_some hn).1, by omega, by omega⟩

theorem bytesR_inr {most base : Nat} {c : List UInt8} {s : ByteArray} {r : List UInt8} (h : bytesR most base c = .inr (s, r)) :
    c = textB s ++ r ∧ s.size ≤ most := by
  obtain ⟨⟨n, u⟩, h1, h2⟩ := bnd_inr h
  obtain ⟨e, -, hm⟩ := numberR_inr h1
  simp only at h2
  split at h2
  · cases h2
  · rename_i hl
    simp only [Sum.inr.injEq, Prod.mk.injEq] at h2
    obtain ⟨rfl, rfl⟩ := h2
    have hs : (⟨(u.take n).toArray⟩ : ByteArray).size = n := by rw [mk_size, List.length_take]; omega
    refine ⟨?_, by omega⟩
    unfold textB
    rw [hs, bl_mk, List.append_assoc, List.take_append_drop]
    exact e

theorem textsR_inr {ip : ByteArray → Bool} {most base : Nat} (k : Nat) {c : List UInt8} {l : List ByteArray} {r : List UInt8} (h : textsR ip most base k c = .inr (l, r)) :
    c = textsB l ++ r ∧ l.length = k ∧ ∀ s ∈ l, s.size ≤ most ∧ ip s = true := by
  induction k generalizing c l r with
  | zero =>
    simp only [textsR, Sum.inr.injEq, Prod.mk.injEq] at h
    obtain ⟨rfl, rfl⟩ := h
    exact ⟨rfl, rfl, by simp⟩
  | succ k ih =>
    rw [textsR] at h
    obtain ⟨⟨s, u⟩, h1, h2⟩ := bnd_inr h
    obtain ⟨e, hm⟩ := bytesR_inr h1
    simp only at h2
    split at h2
    · rename_i hi
      obtain ⟨⟨q, v⟩, h3, h4⟩ := bnd_inr h2
      simp only [Sum.inr.injEq, Prod.mk.injEq] at h4
      obtain ⟨rfl, rfl⟩ := h4
      obtain ⟨e2, hl, hall⟩ := ih h3
      refine ⟨?_, by simp [hl], ?_⟩
      · rw [e, e2]
        simp [textsB]
      · intro x hx
        cases List.mem_cons.1 hx with
        | inl hx => subst hx; exact ⟨hm, hi⟩
        | inr hx => exact hall x hx
    · cases h2

theorem fnR_inr {i base : Nat} {c : List UInt8} {f : Fn} {r : List UInt8} (h : fnR i base c = .inr (f, r)) : c = fnB f ++ r ∧ lawful f i = true := by
  obtain ⟨⟨p, c1⟩, h1, h2⟩ := bnd_inr h
  obtain ⟨⟨q, c2⟩, h3, h4⟩ := bnd_inr h2
  obtain ⟨⟨s, c3⟩, h5, h6⟩ := bnd_inr h4
  simp only [Sum.inr.injEq, Prod.mk.injEq] at h6
  obtain ⟨rfl, rfl⟩ := h6
  obtain ⟨e1, -, b1⟩ := numberR_inr h1
  obtain ⟨e2, a2, b2⟩ := numberR_inr h3
  obtain ⟨e3, b3⟩ := bytesR_inr h5
  simp only at e2 a2 e3
  refine ⟨?_, ?_⟩
  · rw [e1, e2, e3]
    simp [fnB]
  · unfold lawful
    simp only [Bool.and_eq_true, Bool.or_eq_true, decide_eq_true_eq]
    by_cases hi : i < 3
    · rw [if_pos hi] at b1
      exact ⟨⟨⟨⟨⟨by omega, by omega⟩, by omega⟩, by omega⟩, by omega⟩, Or.inr (by omega)⟩
    · rw [if_neg hi] at b1
      exact ⟨⟨⟨⟨⟨by omega, by omega⟩, by omega⟩, by omega⟩, by omega⟩, Or.inl (by omega)⟩

theorem fnsR_inr {base : Nat} (k i : Nat) {c : List UInt8} {l : List Fn} {r : List UInt8} (h : fnsR base k i c = .inr (l, r)) :
    c = fnsB l ++ r ∧ l.length = k ∧ lawfulAll l i = true := by
  induction k generalizing i c l r with
  | zero =>
    simp only [fnsR, Sum.inr.injEq, Prod.mk.injEq] at h
    obtain ⟨rfl, rfl⟩ := h
    exact ⟨rfl, rfl, rfl⟩
  | succ k ih =>
    rw [fnsR] at h
    obtain ⟨⟨s, u⟩, h1, h2⟩ := bnd_inr h
    obtain ⟨e, hm⟩ := fnR_inr h1
    obtain ⟨⟨q, v⟩, h3, h4⟩ := bnd_inr h2
    simp only [Sum.inr.injEq, Prod.mk.injEq] at h4
    obtain ⟨rfl, rfl⟩ := h4
    obtain ⟨e2, hl, hall⟩ := ih _ h3
    simp only at e2
    refine ⟨?_, by simp [hl], ?_⟩
    · rw [e, e2]
      simp [fnsB]
    · simp [lawfulAll, hm, hall]

theorem sectR_inr {α : Type} {k base : Nat} {f : Nat → List UInt8 → (Nat × Nat) ⊕ (α × List UInt8)} {l : List UInt8} {a : α} {r : List UInt8} (hk : k < 256) (h : sectR k base f l = .inr (a, r)) :
    ∃ c, l = sect k c ++ r ∧ f (base - r.length) c = .inr (a, []) := by
  obtain ⟨⟨c, u⟩, h1, h2⟩ := bnd_inr h
  obtain ⟨⟨q, v⟩, h3, h4⟩ := bnd_inr h2
  obtain ⟨x, h5, h6⟩ := bnd_inr h4
  simp only [Sum.inr.injEq, Prod.mk.injEq] at h6
  obtain ⟨rfl, rfl⟩ := h6
  unfold shutR at h5
  split at h5
  · rename_i hv
    simp only [Sum.inr.injEq] at h5 hv
    subst h5 hv
    refine ⟨c, ?_, h3⟩
    unfold openR at h1
    split at h1
    · cases h1
    · rename_i c0 t
      split at h1
      · cases h1
      · rename_i hc0
        split at h1
        · cases h1
        · rename_i n w hn
          split at h1
          · cases h1
          · rename_i hw
            simp only [Sum.inr.injEq, Prod.mk.injEq] at h1
            obtain ⟨rfl, rfl⟩ := h1
            have hc : c0.toNat = k := by simpa using hc0
            have : UInt8.ofNat k = c0 := by rw [← hc]; simp
            unfold sect
            rw [this, List.cons_append, List.append_assoc, List.take_append_drop]
            have e := (num_some hn).1
            have hl : (w.take n).length = n := by rw [List.length_take]; omega
            rw [hl, ← e]
  · cases h5

theorem headR_inr {l r : List UInt8} (h : headR l = .inr r) : l = 71 :: 76 :: 1 :: r := by
  unfold headR at h
  split at h
  · cases h
  · split at h
    · cases h
    · split at h
      · cases h
      · split at h
        · cases h
        · split at h
          · cases h
          · split at h
            · cases h
            · simp only [Sum.inr.injEq] at h
              simp_all

/-- WHAT IS READ WAS WRITTEN. -/
theorem unpackR_inr {ip : ByteArray → Bool} {l : List UInt8} {m : Mo} (h : unpackR ip l = .inr m) : within ip m = true ∧ l = written m := by
  obtain ⟨l0, h0, h⟩ := bnd_inr h
  obtain ⟨⟨a, r1⟩, h1, h⟩ := bnd_inr h
  obtain ⟨⟨b, r2⟩, h2, h⟩ := bnd_inr h
  obtain ⟨⟨c, r3⟩, h3, h⟩ := bnd_inr h
  obtain ⟨⟨d, r4⟩, h4, h⟩ := bnd_inr h
  obtain ⟨⟨e, r5⟩, h5, h⟩ := bnd_inr h
  split at h
  · rename_i hs
    simp only [Sum.inr.injEq] at h
    subst h
    have g0 := headR_inr h0
    obtain ⟨c1, g1, k1⟩ := sectR_inr (by omega) h1
    obtain ⟨c2, g2, k2⟩ := sectR_inr (by omega) h2
    obtain ⟨c3, g3, k3⟩ := sectR_inr (by omega) h3
    obtain ⟨c4, g4, k4⟩ := sectR_inr (by omega) h4
    obtain ⟨c5, g5, k5⟩ := sectR_inr (by omega) h5
    obtain ⟨⟨n1, s1⟩, i1, j1⟩ := bnd_inr k1
    obtain ⟨⟨n2, s2⟩, i2, j2⟩ := bnd_inr k2
    obtain ⟨⟨n5, s5⟩, i5, j5⟩ := bnd_inr k5
    obtain ⟨p1, -, q1⟩ := numberR_inr i1
    obtain ⟨p2, -, q2⟩ := numberR_inr i2
    obtain ⟨p3, -, q3⟩ := numberR_inr k3
    obtain ⟨p4, -, q4⟩ := numberR_inr k4
    obtain ⟨p5, o5, q5⟩ := numberR_inr i5
    obtain ⟨t1, u1, v1⟩ := textsR_inr _ j1
    obtain ⟨t2, u2, v2⟩ := textsR_inr _ j2
    obtain ⟨t5, u5, v5⟩ := fnsR_inr _ _ j5
    simp only [List.append_nil] at t1 t2 t5 p3 p4 g2 g3 g4 g5
    have hb : l = body ⟨a, b, (c : Int), (d : Int), e⟩ ++ r5 := by
      rw [g0, g1, g2, g3, g4, g5, p1, p2, p3, p4, p5, t1, t2, t5]
      subst u1 u2 u5
      simp [body, listing, fnsL]
    refine ⟨?_, ?_⟩
    · unfold within
      simp only [Bool.and_eq_true, decide_eq_true_eq, List.all_eq_true]
      refine ⟨⟨⟨⟨⟨⟨⟨⟨⟨⟨by omega, by omega⟩, by omega⟩, by omega⟩, by omega⟩, by omega⟩, by omega⟩, by omega⟩, ?_⟩, ?_⟩, v5⟩
      · intro s hs; exact (v1 s hs).1
      · intro s hs; exact v2 s hs
    · have hl : l.length = (body ⟨a, b, (c : Int), (d : Int), e⟩).length + r5.length := by rw [hb]; simp
      rw [show l.length - r5.length = (body ⟨a, b, (c : Int), (d : Int), e⟩).length by omega] at hs
      have ht : l.take (body ⟨a, b, (c : Int), (d : Int), e⟩).length = body ⟨a, b, (c : Int), (d : Int), e⟩ := by rw [hb]; simp
      rw [ht] at hs
      simp only at hs
      rw [hb, hs]
      rfl
  · cases h

end Wire
end Go.Proofs.YticaoekmlaipnaaDoor

