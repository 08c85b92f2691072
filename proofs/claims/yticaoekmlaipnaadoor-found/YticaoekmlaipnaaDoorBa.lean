/-
  What lies in memory: the pattern's cells, the reader's cells, and what a call leaves as it was.
-/
import Derived.RangeFuncWrites
import Derived.WalkSmall
import Derived.Deep.Draws
import Derived.Shelf.Spec.TrailingZeros
set_option linter.unusedSimpArgs false
set_option linter.unusedVariables false
namespace Go.Proofs.YticaoekmlaipnaaDoor
open Go.RowKit

/-- The table of math/bits lies in its variable. -/
def Tab (w : World) : Prop := TabAt 0 Lib.deBruijn64tab w

/-- But for the blocks of S all that was there is as it was. -/
structure Fr (S : List Nat) (w w' : World) : Prop where
  os : w'.os = w.os
  tape : w'.tape = w.tape
  output : w'.output = w.output
  size : w.heap.size ≤ w'.heap.size
  block : ∀ k, k < w.heap.size → k ∉ S → w'.heap[k]? = w.heap[k]?

theorem Fr.refl (S : List Nat) (w : World) : Fr S w w := ⟨rfl, rfl, rfl, Nat.le_refl _, fun _ _ _ => rfl⟩
theorem Fr.trans {S : List Nat} {a b c : World} (h : Fr S a b) (k : Fr S b c) : Fr S a c :=
  ⟨k.os.trans h.os, k.tape.trans h.tape, k.output.trans h.output, Nat.le_trans h.size k.size, fun i hi hn => (k.block i (Nat.lt_of_lt_of_le hi h.size) hn).trans (h.block i hi hn)⟩
theorem Fr.mono {S S' : List Nat} {a b : World} (h : Fr S a b) (hs : ∀ x, x ∈ S → x ∈ S') : Fr S' a b :=
  ⟨h.os, h.tape, h.output, h.size, fun i hi hn => h.block i hi (fun hx => hn (hs i hx))⟩
/-- What turns a block that the caller's world has not yet is no turn for the caller. -/
theorem Fr.trans' {S S' : List Nat} {a b c : World} (h : Fr S a b) (k : Fr S' b c) (hs : ∀ x, x ∈ S' → x ∈ S ∨ a.heap.size ≤ x) : Fr S a c :=
  ⟨k.os.trans h.os, k.tape.trans h.tape, k.output.trans h.output, Nat.le_trans h.size k.size, fun i hi hn =>
    (k.block i (Nat.lt_of_lt_of_le hi h.size) (fun hx => (hs i hx).elim hn (fun h' => by omega))).trans (h.block i hi hn)⟩
theorem Fr.drew {S : List Nat} {a w : World} (h : Fr S a w) : Fr S a w.drew := ⟨h.os, h.tape, h.output, h.size, h.block⟩
theorem Fr.drewN {S : List Nat} {a w : World} (h : Fr S a w) (n : Nat) : Fr S a (w.drewN n) := ⟨h.os, h.tape, h.output, h.size, h.block⟩
theorem Fr.alloc {S : List Nat} {a w : World} (h : Fr S a w) (o : Obj) : Fr S a (w.alloc o) :=
  h.trans ⟨rfl, rfl, rfl, by simp, fun k hk _ => Below.heap_alloc _ _ _ hk⟩
theorem Fr.setCell {S : List Nat} {a w : World} (h : Fr S a w) {p : Addr} (hp : p.block ∈ S ∨ a.heap.size ≤ p.block) (u : Value) : Fr S a (w.setCell p u) :=
  ⟨h.os, h.tape, h.output, by simpa [World.setCell] using h.size, fun k hk hn => (Below.heap_setCell _ _ _ _ (by rintro rfl; exact hp.elim hn (fun h' => by omega))).trans (h.block k hk hn)⟩
theorem Fr.cell {S : List Nat} {w w' : World} (h : Fr S w w') {p : Addr} (hp : p.block < w.heap.size) (hn : p.block ∉ S) : w'.cell? p = w.cell? p := World.cell?_of_block (w := w) (h.block p.block hp hn)
theorem Fr.frozen {S : List Nat} {w w' : World} (h : Fr S w w') {p : Addr} (hp : p.block < w.heap.size) (hn : p.block ∉ S) : w'.frozen? p = w.frozen? p := World.frozen?_of_block (w := w) (h.block p.block hp hn)
theorem Fr.of_below {w w' : World} (h : Below w.heap.size w w') : Fr [] w w' := ⟨h.os, h.tape, h.output, h.size, fun k hk _ => h.block k hk⟩
theorem Fr.below {S : List Nat} {w w' : World} (h : Fr S w w') {B : Nat} (hB : B ≤ w.heap.size) (hs : ∀ x, x ∈ S → B ≤ x) : Below B w w' :=
  ⟨h.os, h.tape, h.output, h.size, fun k hk => h.block k (by omega) (fun hx => by have := hs k hx; omega)⟩

theorem setCell_off {w : World} {b i j : Nat} {v : Value} (h : i ≠ j) : (w.setCell ⟨b, i, none⟩ v).cell? ⟨b, j, none⟩ = w.cell? ⟨b, j, none⟩ := World.cell?_setCell_other _ _ _ _ (by simp [h])
theorem setCell_far {w : World} {b c i j : Nat} {v : Value} (h : b ≠ c) : (w.setCell ⟨b, i, none⟩ v).cell? ⟨c, j, none⟩ = w.cell? ⟨c, j, none⟩ := World.cell?_setCell_other _ _ _ _ (by simp [h])

theorem lt_of_cell {w : World} {a : Addr} {v : Value} (h : w.cell? a = some v) : a.block < w.heap.size := by
  apply Nat.lt_of_not_le
  intro hle
  unfold World.cell? at h
  rw [Array.getElem?_eq_none hle] at h
  simp at h

theorem cell_new (W : World) (v : Value) (t : TypeId) : (W.alloc (.cells #[v] t)).cell? ⟨W.heap.size, 0, none⟩ = some v := by
  have h := World.alloc_heap_new W (.cells #[v] t)
  unfold World.cell?; rw [h]; rfl

theorem frozen_new (W : World) (v : Value) (t : TypeId) : (W.alloc (.cells #[v] t)).frozen? ⟨W.heap.size, 0, none⟩ = false := by
  have h := World.alloc_heap_new W (.cells #[v] t)
  unfold World.frozen?; rw [h]; rfl

/-- A block in which a cell lies is not the one that an iterator's step turns. -/
theorem block_kept {W W' : World} {row : Option Nat} {a : Addr} {v : Value} (h : W.cell? a = some v) (hg : W.grownBy W' row)
    (hr : ∀ r, row = some r → ∃ o : Obj, W.heap[r]? = some o ∧ o.isCells = false) : W'.heap[a.block]? = W.heap[a.block]? := by
  refine hg.block a.block (lt_of_cell h) ?_
  intro e
  obtain ⟨o, ho, hc⟩ := hr a.block e.symm
  unfold World.cell? at h
  rw [ho] at h
  cases o <;> simp_all [Obj.isCells]

theorem Tab.lt {w : World} (h : Tab w) : 0 < w.heap.size := lt_of_cell (a := ⟨0, 0, none⟩) (h 0 (by decide))
theorem Tab.of_block {w w' : World} (h : Tab w) (hb : w'.heap[0]? = w.heap[0]?) : Tab w' := fun j hj => (World.cell?_of_block (w := w) (a := ⟨0, j, none⟩) hb).trans (h j hj)
theorem Tab.fr {S : List Nat} {w w' : World} (h : Tab w) (hf : Fr S w w') (h0 : 0 ∉ S) : Tab w' := h.of_block (hf.block 0 h.lt h0)

/-- The cells of a pattern. -/
structure PatAt (w : World) (pb : Nat) (wh : Nat → Value) (tk : Nat → Nat) (fo : Nat → Nat → Nat) : Prop where
  hw : ∀ i, i < 12 → w.cell? ⟨pb, i, none⟩ = some (wh i)
  ht : ∀ b, b < 256 → w.cell? ⟨pb, 12 + b, none⟩ = some (.int .u64 (tk b))
  hf : ∀ s a, s < 4 → a < 50 → w.cell? ⟨pb, 268 + s * 50 + a, none⟩ = some (.int .u64 (fo s a))
  fz : ∀ i, i < 468 → w.frozen? ⟨pb, i, none⟩ = false

theorem PatAt.lt {w : World} {pb : Nat} {wh : Nat → Value} {tk : Nat → Nat} {fo : Nat → Nat → Nat} (h : PatAt w pb wh tk fo) : pb < w.heap.size := lt_of_cell (a := ⟨pb, 12, none⟩) (h.ht 0 (by decide))
theorem PatAt.of_block {w w' : World} {pb : Nat} {wh : Nat → Value} {tk : Nat → Nat} {fo : Nat → Nat → Nat} (h : PatAt w pb wh tk fo) (hb : w'.heap[pb]? = w.heap[pb]?) : PatAt w' pb wh tk fo :=
  ⟨fun i hi => (World.cell?_of_block (w := w) (a := ⟨pb, i, none⟩) hb).trans (h.hw i hi), fun b hb' => (World.cell?_of_block (w := w) (a := ⟨pb, 12 + b, none⟩) hb).trans (h.ht b hb'),
   fun s a hs ha => (World.cell?_of_block (w := w) (a := ⟨pb, 268 + s * 50 + a, none⟩) hb).trans (h.hf s a hs ha), fun i hi => (World.frozen?_of_block (w := w) (a := ⟨pb, i, none⟩) hb).trans (h.fz i hi)⟩
theorem PatAt.fr {S : List Nat} {w w' : World} {pb : Nat} {wh : Nat → Value} {tk : Nat → Nat} {fo : Nat → Nat → Nat} (h : PatAt w pb wh tk fo) (hf : Fr S w w') (h0 : pb ∉ S) : PatAt w' pb wh tk fo := h.of_block (hf.block pb h.lt h0)
theorem PatAt.congr {w : World} {pb : Nat} {wh : Nat → Value} {tk tk' : Nat → Nat} {fo fo' : Nat → Nat → Nat} (h : PatAt w pb wh tk fo) (ht : ∀ b, b < 256 → tk b = tk' b) (hf : ∀ s a, s < 4 → a < 50 → fo s a = fo' s a) : PatAt w pb wh tk' fo' :=
  ⟨h.hw, fun b hb => by rw [← ht b hb]; exact h.ht b hb, fun s a hs ha => by rw [← hf s a hs ha]; exact h.hf s a hs ha, h.fz⟩

/-- A store into the cell of one atom at one spot. -/
theorem PatAt.setFollow {w : World} {pb : Nat} {wh : Nat → Value} {tk : Nat → Nat} {fo : Nat → Nat → Nat} (h : PatAt w pb wh tk fo) (s a : Nat) (hs : s < 4) (ha : a < 50) (v : Nat) :
    PatAt (w.setCell ⟨pb, 268 + s * 50 + a, none⟩ (.int .u64 v)) pb wh tk (fun s' a' => if s' = s ∧ a' = a then v else fo s' a') := by
  refine ⟨fun i hi => ?_, fun b hb => ?_, fun s' a' hs' ha' => ?_, fun i hi => ?_⟩
  · exact (setCell_off (by omega)).trans (h.hw i hi)
  · exact (setCell_off (by omega)).trans (h.ht b hb)
  · by_cases e : s' = s ∧ a' = a
    · obtain ⟨rfl, rfl⟩ := e
      rw [if_pos ⟨rfl, rfl⟩]
      exact World.cell?_setCell_same' _ _ _ (by rw [h.hf s' a' hs ha]; rfl)
    · rw [if_neg e]; exact (setCell_off (by omega)).trans (h.hf s' a' hs' ha')
  · rw [World.frozen?_setCell]; exact h.fz i hi

end Go.Proofs.YticaoekmlaipnaaDoor
