/-
  The pieces: what the small functions that make them give.
-/
import Derived.Test.YticaoekmlaipnaaDoorWe
import Derived.Test.YticaoekmlaipnaaDoorPb
set_option linter.unusedSimpArgs false
set_option linter.unusedVariables false
namespace Go.Proofs.YticaoekmlaipnaaDoor
open Go.RowKit

/-- An edge, a piece as values. -/
def ev (q : Edge) : Value := .agg #[.bool q.e, .int .u64 q.f, .int .u64 q.l]
def pv (q : Piece) : Value := .agg #[.bool (q 0).e, .int .u64 (q 0).f, .int .u64 (q 0).l, .bool (q 1).e, .int .u64 (q 1).f, .int .u64 (q 1).l, .bool (q 2).e, .int .u64 (q 2).f, .int .u64 (q 2).l, .bool (q 3).e, .int .u64 (q 3).f, .int .u64 (q 3).l]

set_option maxRecDepth 100000 in
set_option maxHeartbeats 1000000 in
theorem nothing_any (w : World) : Calls Tryd.prog 81 #[] w fun e w' => e = .returned (pv nothingF) ∧ Fr [] w w' := by
  go_enter Tryd.func81, Tryd.ntmps81
  go_wp2
  refine wp_loop_rounds 5 ?_
  iterate 5 (rw [rounds_succ]; go_wp2)
  refine bodyPost_ret (v := pv nothingF) (by simp [results, Tryd.results81, go_sem, pv, nothingF]) rfl ⟨rfl, ?_⟩
  exact ((Fr.refl _ _).alloc _).alloc _

set_option maxRecDepth 100000 in
set_option maxHeartbeats 1000000 in
theorem anchor_begin (w : World) : Calls Tryd.prog 103 #[.int .i64 1] w fun e w' => e = .returned (pv (anchorF 1)) ∧ Fr [] w w' := by
  go_enter Tryd.func103, Tryd.ntmps103
  go_wp2
  refine wp_loop_rounds 5 ?_
  iterate 5 (rw [rounds_succ]; go_wp2)
  refine bodyPost_ret (v := pv (anchorF 1)) (by simp [results, Tryd.results103, go_sem, pv, anchorF]; decide) rfl ⟨rfl, ?_⟩
  exact ((Fr.refl _ _).alloc _).alloc _

set_option maxRecDepth 100000 in
set_option maxHeartbeats 1000000 in
theorem anchor_end (w : World) : Calls Tryd.prog 103 #[.int .i64 2] w fun e w' => e = .returned (pv (anchorF 2)) ∧ Fr [] w w' := by
  go_enter Tryd.func103, Tryd.ntmps103
  go_wp2
  refine wp_loop_rounds 5 ?_
  iterate 5 (rw [rounds_succ]; go_wp2)
  refine bodyPost_ret (v := pv (anchorF 2)) (by simp [results, Tryd.results103, go_sem, pv, anchorF]; decide) rfl ⟨rfl, ?_⟩
  exact ((Fr.refl _ _).alloc _).alloc _

/-- Sets that fit. -/
def Edge.ok (q : Edge) : Prop := q.f < 18446744073709551616 ∧ q.l < 18446744073709551616

set_option maxRecDepth 100000 in
set_option maxHeartbeats 1000000 in
theorem joined_any (a b : Edge) (ha : a.ok) (hb : b.ok) (w : World) : Calls Tryd.prog 95 #[ev a, ev b] w fun e w' => e = .returned (ev (joinedF a b)) ∧ Fr [] w w' := by
  obtain ⟨ae, af, al⟩ := a
  obtain ⟨be, bf, bl⟩ := b
  obtain ⟨ha1, ha2⟩ := ha
  obtain ⟨hb1, hb2⟩ := hb
  simp only at ha1 ha2 hb1 hb2
  have o1 := bits_or_u64_nat af bf ha1 hb1
  have o2 := bits_or_u64_nat bl al hb2 ha2
  unfold ev
  cases ae <;> cases be
  all_goals
    go_enter Tryd.func95, Tryd.ntmps95
    go_wp2
    refine bodyPost_ret (v := ev (joinedF _ _)) (by simp [results, Tryd.results95, go_sem, ev, joinedF]) rfl ⟨rfl, ?_⟩
    exact ((((Fr.refl _ _).alloc _).alloc _).alloc _).alloc _

end Go.Proofs.YticaoekmlaipnaaDoor
