/-
  The farthest end among those of a set of atoms.
-/
import Derived.Test.YticaoekmlaipnaaDoorWc
set_option linter.unusedSimpArgs false
set_option linter.unusedVariables false
namespace Go.Proofs.YticaoekmlaipnaaDoor
open Go.RowKit Go.Shelf

attribute [local go_sem] Oper.semAt_some

/-- The cells of a row. -/
structure RowAt (w : World) (rb live : Nat) (reach : Nat → Int) : Prop where
  h0 : w.cell? ⟨rb, 0, none⟩ = some (.int .u64 live)
  hr : ∀ a, a < 50 → w.cell? ⟨rb, 1 + a, none⟩ = some (.int .i64 (reach a))
  fz : ∀ i, i < 51 → w.frozen? ⟨rb, i, none⟩ = false

theorem RowAt.lt {w : World} {rb live : Nat} {reach : Nat → Int} (h : RowAt w rb live reach) : rb < w.heap.size := lt_of_cell (a := ⟨rb, 0, none⟩) h.h0
theorem RowAt.of_block {w w' : World} {rb live : Nat} {reach : Nat → Int} (h : RowAt w rb live reach) (hb : w'.heap[rb]? = w.heap[rb]?) : RowAt w' rb live reach :=
  ⟨(World.cell?_of_block (w := w) (a := ⟨rb, 0, none⟩) hb).trans h.h0, fun a ha => (World.cell?_of_block (w := w) (a := ⟨rb, 1 + a, none⟩) hb).trans (h.hr a ha), fun i hi => (World.frozen?_of_block (w := w) (a := ⟨rb, i, none⟩) hb).trans (h.fz i hi)⟩
theorem RowAt.fr {S : List Nat} {w w' : World} {rb live : Nat} {reach : Nat → Int} (h : RowAt w rb live reach) (hf : Fr S w w') (h0 : rb ∉ S) : RowAt w' rb live reach := h.of_block (hf.block rb h.lt h0)
theorem RowAt.congr {w : World} {rb live : Nat} {reach reach' : Nat → Int} (h : RowAt w rb live reach) (hr : ∀ a, a < 50 → reach a = reach' a) : RowAt w rb live reach' :=
  ⟨h.h0, fun a ha => by rw [← hr a ha]; exact h.hr a ha, h.fz⟩

/-- The greatest end among those of the atoms, and least. -/
def farF (reach : Nat → Int) (least : Int) (l : List Nat) : Int := l.foldl (fun m a => max m (reach a)) least
theorem farF_snoc (reach : Nat → Int) (least : Int) (l : List Nat) (x : Nat) : farF reach least (l ++ [x]) = max (farF reach least l) (reach x) := by simp [farF]

structure FarI (w : World) (rb live : Nat) (reach : Nat → Int) (least : Int) (pre : List Nat) (W : World) : Prop where
  row : RowAt W rb live reach
  fr : Fr [] w W
  tab : Tab W
  b0 : W.cell? ⟨w.heap.size, 0, none⟩ = some (.pointer (some ⟨rb, 0, none⟩))
  b1 : W.cell? ⟨w.heap.size + 1, 0, none⟩ = some (.int .i64 (farF reach least pre))
  f1 : W.frozen? ⟨w.heap.size + 1, 0, none⟩ = false

theorem FarI.own (w : World) (rb live : Nat) (reach : Nat → Int) (least : Int) (B : Nat) (hB : w.heap.size ≤ B) : OwnFrom B (FarI w rb live reach least) := by
  rintro pre W W' row ⟨h1, h2, h3, h4, h5, h6⟩ hg hr
  have hr' := fun r e => (hr r e).2
  exact ⟨h1.of_block (block_kept (a := ⟨rb, 0, none⟩) h1.h0 hg hr'), h2.grown hg (fun r e => Nat.le_trans hB (hr r e).1), h3.of_block (block_kept (a := ⟨0, 0, none⟩) (h3 0 (by decide)) hg hr'),
    cell_kept h4 hg hr', cell_kept h5 hg hr', (frozen_kept h5 hg hr').trans h6⟩

theorem FarI.step {w : World} {rb live : Nat} {reach : Nat → Int} {least : Int} {pre : List Nat} {W : World} (h : FarI w rb live reach least pre W) (hrb : rb < w.heap.size) {x : Nat} {v : Int} (hv : v = max (farF reach least pre) (reach x)) :
    FarI w rb live reach least (pre ++ [x]) (W.setCell ⟨w.heap.size + 1, 0, none⟩ (.int .i64 v)).drew := by
  obtain ⟨h1, h2, h3, h4, h5, h6⟩ := h
  have h0 := h2.size
  refine ⟨h1.of_block (Below.heap_setCell W ⟨w.heap.size + 1, 0, none⟩ _ rb (by simp; omega)), (h2.setCell (p := ⟨w.heap.size + 1, 0, none⟩) (.inr (by simp)) _).drew,
    h3.of_block (Below.heap_setCell W ⟨w.heap.size + 1, 0, none⟩ _ 0 (by simp)), (setCell_far (by omega)).trans h4, ?_, ?_⟩
  · rw [farF_snoc, ← hv]; exact World.cell?_setCell_same' _ _ _ (by rw [h5]; rfl)
  · exact (World.frozen?_setCell _ _ _ _).trans h6

set_option maxRecDepth 100000 in
set_option maxHeartbeats 1000000 in
theorem farthest_any (rb live atoms : Nat) (reach : Nat → Int) (least : Int) (hlive : live < 1125899906842624) (hatoms : atoms < 18446744073709551616) (w : World)
    (hP : RowAt w rb live reach) (hT : Tab w) :
    Calls Tryd.prog 57 #[.pointer (some ⟨rb, 0, none⟩), .int .u64 atoms, .int .i64 least] w fun e w' => e = .returned (.int .i64 (farF reach least (bitsOf (atoms &&& live)))) ∧ Fr [] w w' := by
  have hand : atoms &&& live < 1125899906842624 := Nat.lt_of_le_of_lt Nat.and_le_right hlive
  have h0 := hP.h0
  have eand := bits_and_u64_nat atoms live hatoms (by omega)
  refine (callsIn_wide (n := 4)).1 ?_
  refine callsIn_of_wp_marks Tryd.func57 rfl trivial ?_ rfl
  simp only [Tryd.ntmps57, List.size_toArray, List.length_cons, List.length_nil, Nat.reduceAdd, Nat.reduceSub, Array.replicate_succ, Array.replicate_zero, List.push_toArray, List.append_toArray, List.nil_append, List.cons_append]
  have hrb := hP.lt
  gi_wp2
  obtain ⟨W0, hW0⟩ : ∃ W0, ((w.alloc (Obj.cells #[Value.pointer (some { block := rb, off := 0 })] 102)).alloc (Obj.cells #[Value.int IntKind.i64 least] 3)) = W0 := ⟨_, rfl⟩
  have hI0 : FarI w rb live reach least [] W0 := by
    have hfr : Fr [] w W0 := by rw [← hW0]; exact ((Fr.refl _ _).alloc _).alloc _
    have hc := cell_new (w.alloc (Obj.cells #[Value.pointer (some { block := rb, off := 0 })] 102)) (Value.int IntKind.i64 least) 3
    have hz := frozen_new (w.alloc (Obj.cells #[Value.pointer (some { block := rb, off := 0 })] 102)) (Value.int IntKind.i64 least) 3
    rw [World.size_alloc] at hc hz
    refine ⟨hP.fr hfr (by simp), hfr, hT.fr hfr (by simp), ?_, ?_, ?_⟩
    · rw [← hW0, World.cell?_alloc_past _ _ _ (by simp)]; exact cell_new _ _ _
    · rw [← hW0]; exact hc
    · rw [← hW0]; exact hz
  have hs0 : W0.heap.size = w.heap.size + 2 := by rw [← hW0]; simp
  rw [hW0]
  clear hW0
  refine wp_range_set (atoms &&& live) (by omega) rfl (FarI w rb live reach least) (FarI.own _ _ _ _ _ _ (by omega)) (fun pre W h => h.tab) hI0
    (fun x => { tmps := #[Value.pointer (some { block := rb, off := 0 }), Value.int IntKind.u64 atoms, Value.int IntKind.i64 least,
          Value.pointer (some { block := w.heap.size, off := 0 }), undef,
          Value.pointer (some { block := w.heap.size + 1, off := 0 }), Value.int IntKind.i64 0, Value.int .i64 x,
          Value.int IntKind.u64 atoms, Value.pointer (some { block := rb, off := 0 }),
          Value.pointer (some { block := rb, off := 0 }), Value.pointer (some { block := rb, off := 0 }), Value.int .u64 live, Value.int .u64 (atoms &&& live : Nat),
          Value.func (Fn.func 85) #[Value.int IntKind.u64 (atoms &&& live : Nat)] #[], Value.int .i64 x, undef, undef, undef, undef, undef, undef, undef, undef, undef], defers := [] }) ?assign ?body ?done
  case assign =>
    intro l x W K hK
    gi_wp2
    exact hK
  case body =>
    rintro l pre x rest W hi hbits
    have hx : x < 50 := bit_lt (k := 50) (by simpa using hand) (mem_bitsOf.1 (by rw [hbits]; simp)).2
    obtain ⟨h1, h2, h3, h4, h5, h6⟩ := hi
    have hc := h1.hr x hx
    have g2 : (x : Int) < 50 := by omega
    have hm : Tryd.prog.follows Departure.mixedOrders = true := by kernel_rfl
    gi_wp2
    refine wpIn_region_tail_round 8 hm (by kernel_rfl) (by kernel_rfl) (by rintro ⟨a, w, h⟩; exact h) ?_
    simp only [List.take_succ_cons, List.take_zero, List.drop_succ_cons, List.drop_zero]
    repeat still_step
    refine wpStill_nil ?_
    go_wp2
    all_goals
      refine ⟨KeepsFrom.trans ((KeepsOthers.setCell _ _ _).from _) ((KeepsOthers.drew _).from _), trivial, FarI.step ⟨h1, h2, h3, h4, h5, h6⟩ hrb ?_⟩
      omega
  case done =>
    rintro D W hD hi hK
    obtain ⟨h1, h2, h3, h4, h5, h6⟩ := hi
    gi_wp2
    refine ⟨by simp, .inl ⟨_, _, rfl, run_takeDeferred hK, ?_⟩⟩
    refine ⟨_, results_tmp rfl _ _ _, rfl, ?_⟩
    exact h2.grown (grownBy_putObj' W D (.deferred none)) (fun r e => by cases e; omega)

end Go.Proofs.YticaoekmlaipnaaDoor
