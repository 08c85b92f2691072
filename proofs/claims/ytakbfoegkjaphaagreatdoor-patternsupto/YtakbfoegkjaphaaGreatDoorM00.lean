/-
  Plain facts on the bits of a number: no program in sight. What lies in memory: the pattern's cells, the reader's cells, and what a call leaves as it was. The small walks: what each small function of package patterns does to the world. A region that draws its order, inside the round of a range over a function: all its operations read but for a last one that stores. math/bits.TrailingZeros64 at this dump; the iterator over the atoms of a set; a law for a range over such a method value.
-/
import Derived.Lib.TrailingZeros
import Derived.RangeFuncWrites
import Derived.WalkSmall
import Derived.Deep.Draws
import Derived.Shelf.Spec.TrailingZeros
import Derived.Test.YtakbfoegkjaphaaGreatDoorRows
import Derived.WalkKit
import Derived.WalkSpells
import Derived.WalkLawsBesides
import Derived.BigQuiet
import Derived.Deep.QuietTactic
import Derived.StillTailTactics
import Derived.RangeFuncCalls
import Derived.OwnWalkIn
import Derived.OrdersHeld
import Derived.RangeFuncNested
import Derived.RangeFuncBound
import Derived.RangeFuncLeaves
import Derived.Shelf.Abstract
import Derived.Shelf.RegionOpen
import Derived.TacticsInMore
import Derived.LoopNIn
import Derived.LoopIn
set_option linter.unusedSimpArgs false
set_option linter.unusedVariables false
namespace Go.Proofs.YtakbfoegkjaphaaGreatDoor

/-- The set bits, the least first. -/
def bitsOf (x : Nat) : List Nat := (List.range 64).filter (fun i => x.testBit i)

theorem mem_bitsOf {x i : Nat} : i ∈ bitsOf x ↔ i < 64 ∧ x.testBit i = true := by simp [bitsOf]

theorem bitsOf_zero : bitsOf 0 = [] := by simp [bitsOf]

theorem bitsOf_length (x : Nat) : (bitsOf x).length ≤ 64 := by
  have := List.length_filter_le (fun i => x.testBit i) (List.range 64)
  simpa [bitsOf] using this

theorem testBit_low (k m j : Nat) : (2 ^ (k + 1) * m + 2 ^ k).testBit j = if j < k + 1 then decide (k = j) else m.testBit (j - (k + 1)) := by
  rw [Nat.testBit_two_pow_mul_add _ (by rw [Nat.pow_succ]; have := Nat.two_pow_pos k; omega)]
  split
  · rw [Nat.testBit_two_pow]
  · rfl

theorem testBit_high (k m j : Nat) : (2 ^ (k + 1) * m).testBit j = if j < k + 1 then false else m.testBit (j - (k + 1)) := by
  have := Nat.testBit_two_pow_mul_add m (b := 0) (i := k + 1) (Nat.two_pow_pos _) j
  simpa using this

theorem and_pred (k m : Nat) : (2 ^ (k + 1) * m + 2 ^ k) &&& (2 ^ (k + 1) * m + 2 ^ k - 1) = 2 ^ (k + 1) * m := by
  have hp := Nat.two_pow_pos k
  have e : 2 ^ (k + 1) * m + 2 ^ k - 1 = 2 ^ (k + 1) * m + (2 ^ k - 1) := by omega
  rw [e]
  apply Nat.eq_of_testBit_eq
  intro j
  rw [Nat.testBit_and, testBit_low, testBit_high, Nat.testBit_two_pow_mul_add _ (by rw [Nat.pow_succ]; omega)]
  split
  · rw [Nat.testBit_two_pow_sub_one]
    by_cases h : k = j
    · subst h; simp
    · simp [h]
  · simp

theorem ctz_form (r : Nat) (h0 : r ≠ 0) (h : r < 18446744073709551616) : ∃ m, r = 2 ^ (Lib.ctz 64 r + 1) * m + 2 ^ Lib.ctz 64 r ∧ Lib.ctz 64 r < 64 := by
  obtain ⟨m, hm, hk⟩ := Lib.ctzFrom_spec 64 r (by omega) (by simpa using h)
  refine ⟨m, ?_, ?_⟩
  · simp only [Lib.ctz, if_neg h0]
    rw [Nat.pow_succ]
    rw [Nat.mul_assoc, ← Nat.mul_add_one]
    exact hm
  · simp only [Lib.ctz, if_neg h0]; exact hk

theorem filter_split (k : Nat) (hk : k < 64) (p : Nat → Bool) : (List.range 64).filter p = (List.range k).filter p ++ ([k].filter p ++ (List.range' (k + 1) (63 - k)).filter p) := by
  rw [← List.filter_append, ← List.filter_append]
  congr 1
  rw [List.range_eq_range', List.range_eq_range', show [k] = List.range' k 1 from rfl]
  rw [show k + 1 = k + 1 * 1 from by omega, List.range'_append, show List.range' k (1 + (63 - k)) = List.range' (0 + 1 * k) (1 + (63 - k)) from by simp, List.range'_append]
  congr 1; omega

theorem bitsOf_step (r : Nat) (h0 : r ≠ 0) (h : r < 18446744073709551616) : bitsOf r = Lib.ctz 64 r :: bitsOf (r &&& (r - 1)) := by
  obtain ⟨m, hm, hk⟩ := ctz_form r h0 h
  generalize Lib.ctz 64 r = k at *
  have e2 : r &&& (r - 1) = 2 ^ (k + 1) * m := by rw [hm]; exact and_pred k m
  rw [e2]
  unfold bitsOf
  rw [filter_split k hk, filter_split k hk (fun i => (2 ^ (k + 1) * m).testBit i)]
  have a1 : (List.range k).filter (fun i => r.testBit i) = [] := by
    rw [List.filter_eq_nil_iff]; intro j hj; rw [hm, testBit_low]; simp at hj; simp [show j < k + 1 from by omega]; omega
  have a2 : (List.range k).filter (fun i => (2 ^ (k + 1) * m).testBit i) = [] := by
    rw [List.filter_eq_nil_iff]; intro j hj; rw [testBit_high]; simp at hj; simp [show j < k + 1 from by omega]
  have b1 : [k].filter (fun i => r.testBit i) = [k] := by
    have : r.testBit k = true := by rw [hm, testBit_low]; simp
    simp [this]
  have b2 : [k].filter (fun i => (2 ^ (k + 1) * m).testBit i) = [] := by
    have : (2 ^ (k + 1) * m).testBit k = false := by rw [testBit_high]; simp
    simp [this]
  have c : (List.range' (k + 1) (63 - k)).filter (fun i => r.testBit i) = (List.range' (k + 1) (63 - k)).filter (fun i => (2 ^ (k + 1) * m).testBit i) := by
    apply List.filter_congr
    intro j hj
    rw [List.mem_range'_1] at hj
    rw [hm, testBit_low, testBit_high, if_neg (by omega), if_neg (by omega)]
  rw [a1, a2, b1, b2, c]
  simp

theorem and_pred_lt (r : Nat) (h : r < 18446744073709551616) : r &&& (r - 1) < 18446744073709551616 := Nat.lt_of_le_of_lt Nat.and_le_left h

end Go.Proofs.YtakbfoegkjaphaaGreatDoor

namespace Go.Proofs.YtakbfoegkjaphaaGreatDoor
open Go.RowKit

/-- The table of math/bits lies in its variable. -/
def Tab (w : World) : Prop := TabAt 6 Lib.deBruijn64tab w

/-- But for the blocks of S all that was there is as it was. -/
structure Fr (S : List Nat) (w w' : World) : Prop where
  os : w'.os = w.os
  tape : w'.tape = w.tape
  output : w'.output = w.output
  size : w.heap.size ≤ w'.heap.size
  block : ∀ k, k < w.heap.size → k ∉ S → w'.heap[k]? = w.heap[k]?

theorem Fr.refl (S : List Nat) (w : World) : Fr S w w := ⟨rfl, rfl, rfl, Nat.le_refl _, fun _ _ _ => rfl⟩
theorem Fr.trans {S : List Nat} {a b c : World} (h : Fr S a b) (k : Fr S b c) : Fr S a c :=
  ⟨k.os.trans h.os, k.tape.trans h.tape, k.output.trans h.output, Nat.le_trans h.size k.size, fun i hi hn => (k.block i (Nat.lt_of_lt_of_le hi h.size) hn).trans (h.block i hi hn)⟩
theorem Fr.mono {S S' : List Nat} {a b : World} (h : Fr S a b) (hs : ∀ x, x ∈ S → x ∈ S') : Fr S' a b :=
  ⟨h.os, h.tape, h.output, h.size, fun i hi hn => h.block i hi (fun hx => hn (hs i hx))⟩
/-- What turns a block that the caller's world has not yet is no turn for the caller. -/
theorem Fr.trans' {S S' : List Nat} {a b c : World} (h : Fr S a b) (k : Fr S' b c) (hs : ∀ x, x ∈ S' → x ∈ S ∨ a.heap.size ≤ x) : Fr S a c :=
  ⟨k.os.trans h.os, k.tape.trans h.tape, k.output.trans h.output, Nat.le_trans h.size k.size, fun i hi hn =>
    (k.block i (Nat.lt_of_lt_of_le hi h.size) (fun hx => (hs i hx).elim hn (fun h' => by omega))).trans (h.block i hi hn)⟩
theorem Fr.drew {S : List Nat} {a w : World} (h : Fr S a w) : Fr S a w.drew := ⟨h.os, h.tape, h.output, h.size, h.block⟩
theorem Fr.drewN {S : List Nat} {a w : World} (h : Fr S a w) (n : Nat) : Fr S a (w.drewN n) := ⟨h.os, h.tape, h.output, h.size, h.block⟩
theorem Fr.alloc {S : List Nat} {a w : World} (h : Fr S a w) (o : Obj) : Fr S a (w.alloc o) :=
  h.trans ⟨rfl, rfl, rfl, by simp, fun k hk _ => Below.heap_alloc _ _ _ hk⟩
theorem Fr.setCell {S : List Nat} {a w : World} (h : Fr S a w) {p : Addr} (hp : p.block ∈ S ∨ a.heap.size ≤ p.block) (u : Value) : Fr S a (w.setCell p u) :=
  ⟨h.os, h.tape, h.output, by simpa [World.setCell] using h.size, fun k hk hn => (Below.heap_setCell _ _ _ _ (by rintro rfl; exact hp.elim hn (fun h' => by omega))).trans (h.block k hk hn)⟩
theorem Fr.cell {S : List Nat} {w w' : World} (h : Fr S w w') {p : Addr} (hp : p.block < w.heap.size) (hn : p.block ∉ S) : w'.cell? p = w.cell? p := World.cell?_of_block (w := w) (h.block p.block hp hn)
theorem Fr.frozen {S : List Nat} {w w' : World} (h : Fr S w w') {p : Addr} (hp : p.block < w.heap.size) (hn : p.block ∉ S) : w'.frozen? p = w.frozen? p := World.frozen?_of_block (w := w) (h.block p.block hp hn)
theorem Fr.of_below {w w' : World} (h : Below w.heap.size w w') : Fr [] w w' := ⟨h.os, h.tape, h.output, h.size, fun k hk _ => h.block k hk⟩
theorem Fr.below {S : List Nat} {w w' : World} (h : Fr S w w') {B : Nat} (hB : B ≤ w.heap.size) (hs : ∀ x, x ∈ S → B ≤ x) : Below B w w' :=
  ⟨h.os, h.tape, h.output, h.size, fun k hk => h.block k (by omega) (fun hx => by have := hs k hx; omega)⟩

theorem setCell_off {w : World} {b i j : Nat} {v : Value} (h : i ≠ j) : (w.setCell ⟨b, i, none⟩ v).cell? ⟨b, j, none⟩ = w.cell? ⟨b, j, none⟩ := World.cell?_setCell_other _ _ _ _ (by simp [h])
theorem setCell_far {w : World} {b c i j : Nat} {v : Value} (h : b ≠ c) : (w.setCell ⟨b, i, none⟩ v).cell? ⟨c, j, none⟩ = w.cell? ⟨c, j, none⟩ := World.cell?_setCell_other _ _ _ _ (by simp [h])

theorem lt_of_cell {w : World} {a : Addr} {v : Value} (h : w.cell? a = some v) : a.block < w.heap.size := by
  apply Nat.lt_of_not_le
  intro hle
  unfold World.cell? at h
  rw [Array.getElem?_eq_none hle] at h
  simp at h

theorem cell_new (W : World) (v : Value) (t : TypeId) : (W.alloc (.cells #[v] t)).cell? ⟨W.heap.size, 0, none⟩ = some v := by
  have h := World.alloc_heap_new W (.cells #[v] t)
  unfold World.cell?; rw [h]; rfl

theorem frozen_new (W : World) (v : Value) (t : TypeId) : (W.alloc (.cells #[v] t)).frozen? ⟨W.heap.size, 0, none⟩ = false := by
  have h := World.alloc_heap_new W (.cells #[v] t)
  unfold World.frozen?; rw [h]; rfl

/-- A block in which a cell lies is not the one that an iterator's step turns. -/
theorem block_kept {W W' : World} {row : Option Nat} {a : Addr} {v : Value} (h : W.cell? a = some v) (hg : W.grownBy W' row)
    (hr : ∀ r, row = some r → ∃ o : Obj, W.heap[r]? = some o ∧ o.isCells = false) : W'.heap[a.block]? = W.heap[a.block]? := by
  refine hg.block a.block (lt_of_cell h) ?_
  intro e
  obtain ⟨o, ho, hc⟩ := hr a.block e.symm
  unfold World.cell? at h
  rw [ho] at h
  cases o <;> simp_all [Obj.isCells]

theorem Tab.lt {w : World} (h : Tab w) : 6 < w.heap.size := lt_of_cell (a := ⟨6, 0, none⟩) (h 0 (by decide))
theorem Tab.of_block {w w' : World} (h : Tab w) (hb : w'.heap[6]? = w.heap[6]?) : Tab w' := fun j hj => (World.cell?_of_block (w := w) (a := ⟨6, j, none⟩) hb).trans (h j hj)
theorem Tab.fr {S : List Nat} {w w' : World} (h : Tab w) (hf : Fr S w w') (h0 : 6 ∉ S) : Tab w' := h.of_block (hf.block 6 h.lt h0)

/-- The cells of a pattern. -/
structure PatAt (w : World) (pb : Nat) (wh : Nat → Value) (tk : Nat → Nat) (fo : Nat → Nat → Nat) : Prop where
  hw : ∀ i, i < 12 → w.cell? ⟨pb, i, none⟩ = some (wh i)
  ht : ∀ b, b < 256 → w.cell? ⟨pb, 12 + b, none⟩ = some (.int .u64 (tk b))
  hf : ∀ s a, s < 4 → a < 50 → w.cell? ⟨pb, 268 + s * 50 + a, none⟩ = some (.int .u64 (fo s a))
  fz : ∀ i, i < 468 → w.frozen? ⟨pb, i, none⟩ = false

theorem PatAt.lt {w : World} {pb : Nat} {wh : Nat → Value} {tk : Nat → Nat} {fo : Nat → Nat → Nat} (h : PatAt w pb wh tk fo) : pb < w.heap.size := lt_of_cell (a := ⟨pb, 12, none⟩) (h.ht 0 (by decide))
theorem PatAt.of_block {w w' : World} {pb : Nat} {wh : Nat → Value} {tk : Nat → Nat} {fo : Nat → Nat → Nat} (h : PatAt w pb wh tk fo) (hb : w'.heap[pb]? = w.heap[pb]?) : PatAt w' pb wh tk fo :=
  ⟨fun i hi => (World.cell?_of_block (w := w) (a := ⟨pb, i, none⟩) hb).trans (h.hw i hi), fun b hb' => (World.cell?_of_block (w := w) (a := ⟨pb, 12 + b, none⟩) hb).trans (h.ht b hb'),
   fun s a hs ha => (World.cell?_of_block (w := w) (a := ⟨pb, 268 + s * 50 + a, none⟩) hb).trans (h.hf s a hs ha), fun i hi => (World.frozen?_of_block (w := w) (a := ⟨pb, i, none⟩) hb).trans (h.fz i hi)⟩
theorem PatAt.fr {S : List Nat} {w w' : World} {pb : Nat} {wh : Nat → Value} {tk : Nat → Nat} {fo : Nat → Nat → Nat} (h : PatAt w pb wh tk fo) (hf : Fr S w w') (h0 : pb ∉ S) : PatAt w' pb wh tk fo := h.of_block (hf.block pb h.lt h0)
theorem PatAt.congr {w : World} {pb : Nat} {wh : Nat → Value} {tk tk' : Nat → Nat} {fo fo' : Nat → Nat → Nat} (h : PatAt w pb wh tk fo) (ht : ∀ b, b < 256 → tk b = tk' b) (hf : ∀ s a, s < 4 → a < 50 → fo s a = fo' s a) : PatAt w pb wh tk' fo' :=
  ⟨h.hw, fun b hb => by rw [← ht b hb]; exact h.ht b hb, fun s a hs ha => by rw [← hf s a hs ha]; exact h.hf s a hs ha, h.fz⟩

/-- A store into the cell of one atom at one spot. -/
theorem PatAt.setFollow {w : World} {pb : Nat} {wh : Nat → Value} {tk : Nat → Nat} {fo : Nat → Nat → Nat} (h : PatAt w pb wh tk fo) (s a : Nat) (hs : s < 4) (ha : a < 50) (v : Nat) :
    PatAt (w.setCell ⟨pb, 268 + s * 50 + a, none⟩ (.int .u64 v)) pb wh tk (fun s' a' => if s' = s ∧ a' = a then v else fo s' a') := by
  refine ⟨fun i hi => ?_, fun b hb => ?_, fun s' a' hs' ha' => ?_, fun i hi => ?_⟩
  · exact (setCell_off (by omega)).trans (h.hw i hi)
  · exact (setCell_off (by omega)).trans (h.ht b hb)
  · by_cases e : s' = s ∧ a' = a
    · obtain ⟨rfl, rfl⟩ := e
      rw [if_pos ⟨rfl, rfl⟩]
      exact World.cell?_setCell_same' _ _ _ (by rw [h.hf s' a' hs ha]; rfl)
    · rw [if_neg e]; exact (setCell_off (by omega)).trans (h.hf s' a' hs' ha')
  · rw [World.frozen?_setCell]; exact h.fz i hi

end Go.Proofs.YtakbfoegkjaphaaGreatDoor

namespace Go.Proofs.YtakbfoegkjaphaaGreatDoor
open Go.RowKit

/-- which spot a place is. -/
def spotF (place length : Int) : Int := (if place = 0 then 1 else 0) + (if place = length then 2 else 0)

set_option maxHeartbeats 400000 in
theorem spotOf_any (p l : Int) (w : World) :
    Calls Tryz.prog 127 #[.int .i64 p, .int .i64 l] w fun e w' => e = .returned (.int .i64 (spotF p l)) ∧ w' = w := by
  unfold spotF
  by_cases h1 : p = 0
  · subst h1
    by_cases h2 : 0 = l
    · subst h2
      go_enter Tryz.func127, Tryz.ntmps127
      go_wp2
      go_ret
      exact ⟨rfl, rfl⟩
    · have h3 : ((0:Int) == l) = false := by simpa using h2
      go_enter Tryz.func127, Tryz.ntmps127
      go_wp2
      go_ret
      exact ⟨by simp [h2], rfl⟩
  · have h3 : ((p:Int) == 0) = false := by simpa using h1
    by_cases h2 : p = l
    · subst h2
      go_enter Tryz.func127, Tryz.ntmps127
      go_wp2
      go_ret
      exact ⟨by simp [h1], rfl⟩
    · have h4 : ((p:Int) == l) = false := by simpa using h2
      go_enter Tryz.func127, Tryz.ntmps127
      go_wp2
      go_ret
      exact ⟨by simp [h1, h2], rfl⟩

theorem wrap64_byte (b : UInt8) : wrap64 (b.toNat : Int) = (b.toNat : Int) := by
  have := b.toNat_lt
  unfold wrap64; omega

/-- The reader's cells. -/
structure RdAt (w : World) (r : Nat) (text : ByteArray) (at_ : Int) (fault : Bool) (atoms : Int) (pb : Nat) : Prop where
  c0 : w.cell? ⟨r, 0, none⟩ = some (.string text)
  c1 : w.cell? ⟨r, 1, none⟩ = some (.int .i64 at_)
  c2 : w.cell? ⟨r, 2, none⟩ = some (.bool fault)
  c3 : w.cell? ⟨r, 3, none⟩ = some (.int .i64 atoms)
  c4 : w.cell? ⟨r, 4, none⟩ = some (.pointer (some ⟨pb, 0, none⟩))
  f1 : w.frozen? ⟨r, 1, none⟩ = false
  f2 : w.frozen? ⟨r, 2, none⟩ = false
  f3 : w.frozen? ⟨r, 3, none⟩ = false

set_option maxHeartbeats 400000 in
theorem fail_any (r : Nat) (text : ByteArray) (at_ : Int) (fault : Bool) (atoms : Int) (pb : Nat) (w : World) (h : RdAt w r text at_ fault atoms pb) :
    Calls Tryz.prog 249 #[.pointer (some ⟨r, 0, none⟩)] w fun e w' => e = .returned (.tuple #[]) ∧ w' = w.setCell ⟨r, 2, none⟩ (.bool true) := by
  obtain ⟨c0, c1, c2, c3, c4, f1, f2, f3⟩ := h
  go_enter Tryz.func249, Tryz.ntmps249
  go_wp2
  go_end0
  exact ⟨rfl, rfl⟩

set_option maxHeartbeats 400000 in
theorem peek_fault (r : Nat) (text : ByteArray) (at_ : Int) (atoms : Int) (pb : Nat) (w : World) (h : RdAt w r text at_ true atoms pb) :
    Calls Tryz.prog 184 #[.pointer (some ⟨r, 0, none⟩)] w fun e w' => e = .returned (.int .i64 (-1)) ∧ ∃ n, w' = w.drewN n := by
  obtain ⟨c0, c1, c2, c3, c4, f1, f2, f3⟩ := h
  go_enter Tryz.func184, Tryz.ntmps184
  go_wp2
  go_quiet (fail)
  go_wp2
  go_ret
  exact ⟨rfl, _, rfl⟩

set_option maxHeartbeats 400000 in
theorem peek_end (r : Nat) (text : ByteArray) (at_ : Int) (atoms : Int) (pb : Nat) (w : World) (h : RdAt w r text at_ false atoms pb) (hs : text.size ≤ 1000) (ha : (text.size : Int) ≤ at_) :
    Calls Tryz.prog 184 #[.pointer (some ⟨r, 0, none⟩)] w fun e w' => e = .returned (.int .i64 (-1)) ∧ ∃ n, w' = w.drewN n := by
  obtain ⟨c0, c1, c2, c3, c4, f1, f2, f3⟩ := h
  go_enter Tryz.func184, Tryz.ntmps184
  go_wp2
  go_quiet (fail)
  go_wp2
  go_ret
  exact ⟨rfl, _, rfl⟩

set_option maxHeartbeats 400000 in
theorem peek_byte (r : Nat) (text : ByteArray) (k : Nat) (atoms : Int) (pb : Nat) (w : World) (h : RdAt w r text k false atoms pb) (hs : text.size ≤ 1000) (ha : k < text.size) :
    Calls Tryz.prog 184 #[.pointer (some ⟨r, 0, none⟩)] w fun e w' => e = .returned (.int .i64 (text[k].toNat : Int)) ∧ ∃ n, w' = w.drewN n := by
  obtain ⟨c0, c1, c2, c3, c4, f1, f2, f3⟩ := h
  have hd : decide ((text.size : Int) ≤ (k : Int)) = false := by simp; omega
  have hl : (k : Int) < text.size := by omega
  go_enter Tryz.func184, Tryz.ntmps184
  go_wp2
  go_quiet (fail)
  go_wp2
  go_quiet (fail)
  go_wp2
  go_ret
  exact ⟨congrArg (fun x => Ending.returned (Value.int .i64 x)) (wrap64_byte _), _, World.drewN_drewN _ _ _⟩

end Go.Proofs.YtakbfoegkjaphaaGreatDoor

namespace Go.Proofs.YtakbfoegkjaphaaGreatDoor
open Go

theorem rowsIn_of_rows {P : Program} {l n : Nat} {row : String} {args : Array Value} {w : World} {R : Value → World → Prop} (h : Rows P row args w R) : RowsIn (Fence.wide.inRound l) n P row args w R := by
  intro c cs _
  obtain ⟨v, w', hr, hs⟩ := h c cs
  exact ⟨v, w', hr, (stepsIn_wide (P := P)).2 hs⟩

theorem wpOpsIn_of_wpOps {P : Program} {l n : Nat} {ops : Array Oper} {Q : Exit → Act → World → Prop} (hd : ∀ (i : Nat) (o : Oper) (c : Call), ops[i]? = some o → o.op ≠ .defer c) (hQ : ¬ LetsOut Q) :
    ∀ (s : List Nat) (a : Act) (w : World), wpOps P ops Q s a w → wpOpsIn (Fence.wide.inRound l) n P ops Q s a w
  | [], _, _, h => h
  | i :: s, a, w, h => by
    have ih := wpOpsIn_of_wpOps (P := P) (l := l) (n := n) hd hQ s
    simp only [wpOps] at h
    simp only [wpOpsIn]
    cases ho : ops[i]? with
    | none => rw [ho] at h; exact ih a w h
    | some o =>
      rw [ho] at h
      simp only at h ⊢
      by_cases hw : Region.wanted o (yielded ops a.tmps) = true
      · rw [if_pos hw] at h ⊢
        rcases h with h | h
        case inr => exact absurd h.2 hQ
        refine ⟨fun _ _ => trivial, ?_⟩
        rw [Oper.semAt_plain _ _ _ (fun c => hd i o c ho)]
        unfold Oper.wp at h
        generalize (execOp a.eval o).run P w = r at *
        cases r with
        | ok n w' =>
          cases n <;> simp only [Oper.upon, Oper.uponIn] at h ⊢
          case value u => exact ih _ _ h
          case skip => exact ih _ _ h
          case defer d => exact ih _ _ h
          case enter f args =>
            refine ⟨fun h => (by cases h), CallsIn.inRound l (callsIn_wide.2 (Calls.mono h fun e w'' he => ?_))⟩
            cases e with
            | returned u => exact ih _ _ he
            | panicked c => exact he
            | outgrown => exact he
          case row row args => exact ⟨fun h => (by cases h), rowsIn_of_rows (Rows.mono h fun u w'' he => ih _ _ he)⟩
        | halt x w' =>
          cases x <;> simp only [Oper.upon, Oper.uponIn] at h ⊢
          case panic u => exact h
      · rw [if_neg hw] at h ⊢
        exact ⟨fun _ _ => trivial, ih _ _ h⟩

theorem wpAny_tail {P : Program} {Q : Exit → Act → World → Prop} {a : Act} {w : World} {l : List Oper} (n : Nat) (hB : Region.lexTailB .any l.toArray n = true)
    (h : wpStill P l.toArray w (fun a' => wpList P l.toArray Q (l.drop n) a' w) (l.take n) a) : wpAny P .any l.toArray Q l.toArray.size (Array.replicate l.toArray.size false) a w := by
  simp only [Region.lexTailB, Bool.and_eq_true, decide_eq_true_eq] at hB
  obtain ⟨⟨⟨⟨hsel, hn⟩, hs⟩, hc⟩, hlex⟩ := hB
  have htl : (l.take n).length = n := by simp at hn ⊢; omega
  have hdl : (l.drop n).length = l.toArray.size - n := by simp
  have inv0 : HeadInv .any l.toArray n (Array.replicate l.toArray.size false) :=
    ⟨by simp, fun j oj _ hl => (by rw [getD_replicate_false] at hl; cases hl), fun t _ ht => getD_in (by simpa using ht) (getD_replicate_false _ _)⟩
  have H := wpAnyL_lex (md := .any) (g := l.toArray.size - n) hsel hs hc hn (l.take n) 0 _ a (fun j hj => by rw [htl] at hj; simp [hj]) (by simpa using htl) inv0 (by rw [htl]; exact hlex) h
  have E := wpAny_of_head (Q' := Q) (g := l.toArray.size - n) (fun listed a' hL => by
    have := wpAny_of_seq (md := .any) (Q' := Q) (l.drop n) n listed a' w (fun j => by simp [List.getElem?_drop]) (by rw [hdl]; exact hL.1) hL.2
    rwa [hdl] at this) _ _ _ H
  rwa [htl, show n + (l.toArray.size - n) = l.toArray.size by omega] at E

/-- All its operations read. -/
theorem wpAny_lex {P : Program} {Q : Exit → Act → World → Prop} {a : Act} {w : World} {l : List Oper} (hB : Region.lexB .any l.toArray = true)
    (h : wpStill P l.toArray w (fun a' => Q .normal a' w) l a) : wpAny P .any l.toArray Q l.toArray.size (Array.replicate l.toArray.size false) a w := by
  simp only [Region.lexB, Bool.and_eq_true] at hB
  refine wpAny_of_still (Q := fun a' => Q .normal a' w) (fun _ h => h) _ _ _ ?_
  have := wpAnyS_lex (md := .any) hB.1 l 0 (Array.replicate l.toArray.size false) a (by simp) (by simpa using hB.2) h
  simpa using this

/-- The region outside of rounds. -/
theorem wp_region_tail {P : Program} {id : Nat} {Q : Exit → Act → World → Prop} {a : Act} {w : World} {ops : List Oper} (n : Nat) (hm : P.follows .mixedOrders = true) (hB : Region.lexTailB .any ops.toArray n = true)
    (h : wpStill P ops.toArray w.drew (fun a' => wpList P ops.toArray Q (ops.drop n) a' w.drew) (ops.take n) a) : (Code.region id ops.toArray true).wp P Q a w :=
  wp_region_any hm (wpAny_tail n hB h)
theorem wp_region_lex {P : Program} {id : Nat} {Q : Exit → Act → World → Prop} {a : Act} {w : World} {ops : List Oper} (hm : P.follows .mixedOrders = true) (hB : Region.lexB .any ops.toArray = true)
    (h : wpStill P ops.toArray w.drew (fun a' => Q .normal a' w.drew) ops a) : (Code.region id ops.toArray true).wp P Q a w :=
  wp_region_any hm (wpAny_lex hB h)

theorem wp_region_heldD {P : Program} {id : Nat} {Q : Exit → Act → World → Prop} {a : Act} {w : World} {ops : List Oper} (S : World → Prop) (hm : P.follows .mixedOrders = true)
    (h : wpAnyH P .any ops.toArray Q S ops.toArray.size (Array.replicate ops.toArray.size false) a w.drew) : (Code.region id ops.toArray true).wp P Q a w :=
  wp_region_any hm (wpAny_of_held _ _ _ _ h)

/-- The region in a round. -/
theorem wpIn_region_tail_round {P : Program} {id l m : Nat} {Q : Exit → Act → World → Prop} {a : Act} {w : World} {ops : List Oper} (n : Nat) (hm : P.follows .mixedOrders = true) (hB : Region.lexTailB .any ops.toArray n = true)
    (hd : ops.all (fun o => match o.op with | .defer _ => false | _ => true) = true) (hQ : ¬ LetsOut Q)
    (h : wpStill P ops.toArray w.drew (fun a' => wpList P ops.toArray Q (ops.drop n) a' w.drew) (ops.take n) a) : (Code.region id ops.toArray true).wpIn (Fence.wide.inRound l) m P Q a w :=
  wpIn_region_draw fun t => by
    simp only [Region.schedule, hm, Bool.true_or, if_true]
    refine wpOpsIn_of_wpOps ?_ hQ _ _ _ (wpAny_sound _ t _ a _ (wpAny_tail n hB h))
    intro i o c hi hc
    rw [List.all_eq_true] at hd
    have := hd o (by have := Array.mem_of_getElem? hi; simpa using this)
    rw [hc] at this
    cases this

/-- Some of its operations make memory: what is read is read wherever S holds. -/
theorem wpIn_region_held_round {P : Program} {id l m : Nat} {Q : Exit → Act → World → Prop} {a : Act} {w : World} {ops : List Oper} (S : World → Prop) (hm : P.follows .mixedOrders = true)
    (hd : ops.all (fun o => match o.op with | .defer _ => false | _ => true) = true) (hQ : ¬ LetsOut Q)
    (h : wpAnyH P .any ops.toArray Q S ops.toArray.size (Array.replicate ops.toArray.size false) a w.drew) : (Code.region id ops.toArray true).wpIn (Fence.wide.inRound l) m P Q a w :=
  wpIn_region_draw fun t => by
    simp only [Region.schedule, hm, Bool.true_or, if_true]
    refine wpOpsIn_of_wpOps ?_ hQ _ _ _ (wpAny_sound _ t _ a _ (wpAny_of_held _ _ _ _ h))
    intro i o c hi hc
    rw [List.all_eq_true] at hd
    have := hd o (by have := Array.mem_of_getElem? hi; simpa using this)
    rw [hc] at this
    cases this

theorem wpIn_region_still_round {P : Program} {id l m : Nat} {Q : Exit → Act → World → Prop} {a : Act} {w : World} {ops : List Oper} (hm : P.follows .mixedOrders = true) (hB : Region.lexB .any ops.toArray = true)
    (hd : ops.all (fun o => match o.op with | .defer _ => false | _ => true) = true) (hQ : ¬ LetsOut Q)
    (h : wpStill P ops.toArray w.drew (fun a' => Q .normal a' w.drew) ops a) : (Code.region id ops.toArray true).wpIn (Fence.wide.inRound l) m P Q a w :=
  wpIn_region_draw fun t => by
    simp only [Region.schedule, hm, Bool.true_or, if_true]
    refine wpOpsIn_of_wpOps ?_ hQ _ _ _ (wpAny_sound _ t _ a _ (wpAny_lex hB h))
    intro i o c hi hc
    rw [List.all_eq_true] at hd
    have := hd o (by have := Array.mem_of_getElem? hi; simpa using this)
    rw [hc] at this
    cases this

end Go.Proofs.YtakbfoegkjaphaaGreatDoor

namespace Go.Proofs.YtakbfoegkjaphaaGreatDoor
open Go.RowKit Go.Shelf

attribute [local go_sem] Oper.semAt_some




set_option maxHeartbeats 400000 in
theorem tz_core (x k idx : Nat) (w : World) (hx0 : ((x : Int) == 0) = false)
    (key : IntKind.u64.wrap (bits BinOp.and IntKind.u64 (x : Int) (IntKind.u64.wrap (-(x : Int))) * 285870213051353865) / 288230376151711744 = (idx : Int))
    (hi : idx < 64) (hk : k < 64) (hcell : w.cell? ⟨6, idx, none⟩ = some (.int .u8 k)) :
    Calls Tryz.prog 222 #[.int .u64 x] w fun e w' => e = .returned (.int .i64 k) ∧ w' = w := by
  go_enter Tryz.func222, Tryz.ntmps222
  go_wp2_with (simp only [key])
  go_ret
  exact ⟨rfl, rfl⟩

theorem tz_any (x : Nat) (hx0 : x ≠ 0) (hx : x < 18446744073709551616) (w : World) (hT : Tab w) :
    Calls Tryz.prog 222 #[.int .u64 x] w fun e w' => e = .returned (.int .i64 (Lib.ctz 64 x)) ∧ w' = w := by
  obtain ⟨hlow, hk⟩ := Lib.lowest_bit 64 x hx0 hx
  obtain ⟨hi, htab⟩ := Lib.deBruijn64_at _ hk
  have hcell := hT _ hi
  rw [htab] at hcell
  exact tz_core x _ _ w (by simp; omega) (tz64_key x _ hx hx0 hlow) hi hk hcell

set_option maxRecDepth 100000 in
set_option maxHeartbeats 1000000 in
theorem all_in (n l s : Nat) (hs : s < 18446744073709551616) (J : List Nat → World → Prop) (hT : ∀ pre W, J pre W → Tab W)
    (hY : ∀ pre x rest W, J pre W → bitsOf s = pre ++ x :: rest → YieldAt Fence.wide (n - 1) Tryz.prog l #[.int .i64 (x : Nat)] W fun e W' => e = .returned (.bool true) ∧ J (pre ++ [x]) W')
    (W : World) (h0 : J [] W) :
    CallsIn Fence.wide n Tryz.prog 187 #[.int .u64 s, .func (.yield l) #[] #[]] W fun e W' => (∃ v, e = .returned v) ∧ J (bitsOf s) W' := by
  refine callsIn_of_wp Tryz.func187 rfl trivial ?_ rfl
  simp only [Tryz.ntmps187, List.size_toArray, List.length_cons, List.length_nil, Nat.reduceAdd, Nat.reduceSub, Array.replicate_succ, Array.replicate_zero, List.push_toArray, List.append_toArray, List.nil_append, List.cons_append]
  gi_wp2
  gi_loopw [4] (fun p wr => ∃ (pre : List Nat) (r : Nat), p = .int .u64 r ∧ r < 18446744073709551616 ∧ bitsOf s = pre ++ bitsOf r ∧ J pre wr)
    (fun p _ => (bitsOf (intOf p).toNat).length)
  case atStart =>
    exact ⟨[], s, rfl, hs, rfl, h0⟩
  case round =>
    obtain ⟨pre, r, rfl, hr, hx, hJ⟩ := hrel
    by_cases hz : r = 0
    · subst hz
      rw [bitsOf_zero, List.append_nil] at hx
      gi_wp2
      go_end0
      exact ⟨⟨_, rfl⟩, by rw [hx]; exact hJ⟩
    · have hst := bitsOf_step r hz hr
      rw [hst] at hx
      obtain ⟨fn, tmps, assign, body, hy, hR⟩ := hY pre _ _ wr hJ hx
      have hne : ((r : Int) == 0) = false := by simp; omega
      have hne2 : ((r : Int) != 0) = true := by simp; omega
      have hTw := hT _ _ hJ
      gi_wp2_with fail
      refine ⟨trivial, fun h => (by cases h), ?_⟩
      refine (callsIn_wide.2 (tz_any r hz hr _ hTw)).mono ?_
      rintro e w' ⟨rfl, rfl⟩
      gi_wp2_with fail
      refine ⟨fun h => (by cases h), ?_⟩
      refine hR.mono ?_
      rintro e W3 ⟨rfl, hJ3⟩
      gi_wp2
      have eand : bits BinOp.and IntKind.u64 (r : Int) ((r : Int) - 1) = ((r &&& (r - 1) : Nat) : Int) := by
        rw [show (r : Int) - 1 = ((r - 1 : Nat) : Int) by omega]
        exact bits_and_u64_nat r (r - 1) hr (by omega)
      go_roundw
      case rel => exact ⟨pre ++ [Lib.ctz 64 r], _, by rw [eand], and_pred_lt r hr, by rw [hx]; simp, hJ3⟩
      case measure => rw [eand]; simp only [intOf, Int.toNat_natCast]; rw [hst]; simp

set_option maxHeartbeats 400000 in
/-- A range over the atoms of a set, its body never left but at its end. -/
theorem wp_range_set {g : Operand} {p : Tmp} {assign body : Code} {Q : Exit → Act → World → Prop} {a : Act} {w : World} {n : Nat} (s : Nat) (hs : s < 18446744073709551616)
    (hg : a.eval g = .func (.func 187) #[.int .u64 s] #[])
    (I : List Nat → World → Prop) (hI : OwnFrom w.heap.size I) (hT : ∀ pre W, I pre W → Tab W) (h0 : I [] w) (a₁ : Nat → Act)
    (hassign : ∀ (l x : Nat) (W : World) (K : Act → World → Prop), K (a₁ x) W →
      assign.wpIn (Fence.wide.inRound l) (n - 1 - 1) Tryz.prog (Exit.then K (fun _ _ _ => False)) { tmps := (#[p].zip #[Value.int .i64 x]).foldl (fun t (p, v) => t.setIfInBounds p v) a.tmps, defers := [] } W)
    (hbody : ∀ (l : Nat) (pre : List Nat) (x : Nat) (rest : List Nat) (W : World), I pre W → bitsOf s = pre ++ x :: rest →
      body.wpIn (Fence.wide.inRound l) (n - 1 - 1) Tryz.prog (ownPostG w.heap.size (fun _ _ => True) I (fun _ _ _ => False) (pre ++ [x]) W) (a₁ x) W)
    (hdone : ∀ (D : Nat) (W : World), w.heap.size ≤ D → I (bitsOf s) W → W.heap[D]? = some (.deferred (some [])) → Q .normal { a with defers := { target := .collected D, args := #[] } :: a.defers } W) :
    (Code.rangeFunc g #[p] assign body).wpIn Fence.wide n Tryz.prog Q a w := by
  refine wpIn_rangeFunc ?_
  intro fn hfn
  obtain ⟨R, hR⟩ : ∃ R : LoopState → Loop, R = fun st => { state := st, pending := none, fn, tmps := a.tmps, params := #[p], assign, body, defers := w.heap.size } := ⟨_, rfl⟩
  obtain ⟨W1, hW1⟩ : ∃ W1, (w.alloc (.deferred (some []))).alloc (.loop (R .ready)) = W1 := ⟨_, rfl⟩
  have hsz : W1.heap.size = w.heap.size + 2 := by rw [← hW1]; simp
  have hl1 : W1.heap[w.heap.size + 1]? = some (.loop (R .ready)) := by
    rw [← hW1]; have := World.alloc_heap_new (w.alloc (.deferred (some []))) (.loop (R .ready)); rwa [World.size_alloc] at this
  have hd1 : W1.heap[w.heap.size]? = some (.deferred (some [])) := by
    rw [← hW1]; exact (Below.heap_alloc _ _ _ (by simp)).trans (World.alloc_heap_new w _)
  have hi1 : I [] W1 := by rw [← hW1]; exact hI.alloc _ (hI.alloc _ h0)
  refine ⟨w.heap.size + 1, [{ target := .collected w.heap.size, args := #[] }], W1, { target := .fn (.func 187) #[], args := #[.int .u64 s, .func (.yield (w.heap.size + 1)) #[] #[]] }, W1, 187,
    #[.int .u64 s, .func (.yield (w.heap.size + 1)) #[] #[]], W1, ?_, ?_, ?_, ?_, fun h => (by cases h), ?_⟩
  · rw [← hW1, hR]; exact run_enterLoop_outer _ _ _ _ _
  · simp only [resolve, hg]
    simp [go_sem]
  · intro f' _; exact trivial
  · have eg := enters_of (P := Tryz.prog) Tryz.func187 (by kernel_rfl) rfl
    simp [invoke, go_sem, eg]
  · refine (all_in (n - 1) (w.heap.size + 1) s hs (fun pre W => I pre W ∧ W.heap[w.heap.size + 1]? = some (.loop (R .ready)) ∧ W.heap[w.heap.size]? = some (.deferred (some [])))
      (fun pre W h => hT pre W h.1) ?_ W1 ⟨hi1, hl1, hd1⟩).mono ?_
    · rintro pre x rest W ⟨hi, hl, hd⟩ hbits
      have hlt : w.heap.size + 1 < W.heap.size := (Array.getElem?_eq_some_iff.1 hl).1
      have hy := run_yield (P := Tryz.prog) (args := #[.int .i64 x]) hl (by rw [hR]; rfl)
      rw [hR] at hy
      refine ⟨fn, _, assign, body, hy, roundIn_of_wpIn hfn ?_⟩
      refine hassign _ x W _ ?_
      refine ⟨_, run_beginRound hl (by rw [hR]), ?_⟩
      have hl2 : (W.putObj (w.heap.size + 1) (.loop { R .ready with state := .busy })).heap[w.heap.size + 1]? = some (.loop { R .ready with state := .busy }) := World.putObj_heap_same hlt
      have hd2 : (W.putObj (w.heap.size + 1) (.loop { R .ready with state := .busy })).heap[w.heap.size]? = some (.deferred (some [])) := (World.putObj_heap_other (by omega)).trans hd
      refine wpIn_mono (hbody _ pre x rest _ (hI.putObj _ hi (by omega) hl rfl) hbits) ?_
      rintro e a3 W3 hp
      cases e with
      | normal =>
        obtain ⟨hk3, _, hi3⟩ := hp
        have hl3 := hk3.same _ _ (by omega) hl2 rfl
        have hd3 := hk3.same _ _ (Nat.le_refl _) hd2 rfl
        have hlt3 := (Array.getElem?_eq_some_iff.1 hl3).1
        have hr := run_endRound (P := Tryz.prog) none hl3
        rw [hR] at hr
        refine ⟨_, _, hr, rfl, hI.putObj _ hi3 (by omega) hl3 rfl, ?_, (World.putObj_heap_other (by omega)).trans hd3⟩
        rw [World.putObj_heap_same hlt3, hR]
        rfl
      | ret => exact hp.2.elim
      | exit id => exact hp.2.elim
      | goto t => exact hp.2.elim
      | panic ch => exact hp.elim
      | outgrown => exact hp.elim
    · rintro e W2 ⟨⟨v, rfl⟩, hi, hl, hd⟩
      have he := run_endLoop (P := Tryz.prog) hl (by rw [hR]; simp)
      rw [hR] at he
      exact ⟨none, _, he, hdone _ _ (Nat.le_refl _) (hI.putObj _ hi (by omega) hl rfl) ((World.putObj_heap_other (by omega)).trans hd)⟩

end Go.Proofs.YtakbfoegkjaphaaGreatDoor

