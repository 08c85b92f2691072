/-
  The ends of the matches at all places: the walk.
-/
import Derived.Test.YticaoekmlaipnaaDoorWw
set_option linter.unusedSimpArgs false
set_option linter.unusedVariables false
namespace Go.Proofs.YticaoekmlaipnaaDoor
open Go.RowKit

theorem RowAt.new (W : World) : RowAt (W.alloc (.cells #[Value.int IntKind.u64 0, Value.int IntKind.i64 0, Value.int IntKind.i64 0, Value.int IntKind.i64 0, Value.int IntKind.i64 0, Value.int IntKind.i64 0, Value.int IntKind.i64 0, Value.int IntKind.i64 0, Value.int IntKind.i64 0, Value.int IntKind.i64 0, Value.int IntKind.i64 0, Value.int IntKind.i64 0, Value.int IntKind.i64 0, Value.int IntKind.i64 0, Value.int IntKind.i64 0, Value.int IntKind.i64 0, Value.int IntKind.i64 0, Value.int IntKind.i64 0, Value.int IntKind.i64 0, Value.int IntKind.i64 0, Value.int IntKind.i64 0, Value.int IntKind.i64 0, Value.int IntKind.i64 0, Value.int IntKind.i64 0, Value.int IntKind.i64 0, Value.int IntKind.i64 0, Value.int IntKind.i64 0, Value.int IntKind.i64 0, Value.int IntKind.i64 0, Value.int IntKind.i64 0, Value.int IntKind.i64 0, Value.int IntKind.i64 0, Value.int IntKind.i64 0, Value.int IntKind.i64 0, Value.int IntKind.i64 0, Value.int IntKind.i64 0, Value.int IntKind.i64 0, Value.int IntKind.i64 0, Value.int IntKind.i64 0, Value.int IntKind.i64 0, Value.int IntKind.i64 0, Value.int IntKind.i64 0, Value.int IntKind.i64 0, Value.int IntKind.i64 0, Value.int IntKind.i64 0, Value.int IntKind.i64 0, Value.int IntKind.i64 0, Value.int IntKind.i64 0, Value.int IntKind.i64 0, Value.int IntKind.i64 0, Value.int IntKind.i64 0] 105)) W.heap.size 0 (fun _ => 0) := by
  have h := rowIs_new W [Value.int IntKind.u64 0, Value.int IntKind.i64 0, Value.int IntKind.i64 0, Value.int IntKind.i64 0, Value.int IntKind.i64 0, Value.int IntKind.i64 0, Value.int IntKind.i64 0, Value.int IntKind.i64 0, Value.int IntKind.i64 0, Value.int IntKind.i64 0, Value.int IntKind.i64 0, Value.int IntKind.i64 0, Value.int IntKind.i64 0, Value.int IntKind.i64 0, Value.int IntKind.i64 0, Value.int IntKind.i64 0, Value.int IntKind.i64 0, Value.int IntKind.i64 0, Value.int IntKind.i64 0, Value.int IntKind.i64 0, Value.int IntKind.i64 0, Value.int IntKind.i64 0, Value.int IntKind.i64 0, Value.int IntKind.i64 0, Value.int IntKind.i64 0, Value.int IntKind.i64 0, Value.int IntKind.i64 0, Value.int IntKind.i64 0, Value.int IntKind.i64 0, Value.int IntKind.i64 0, Value.int IntKind.i64 0, Value.int IntKind.i64 0, Value.int IntKind.i64 0, Value.int IntKind.i64 0, Value.int IntKind.i64 0, Value.int IntKind.i64 0, Value.int IntKind.i64 0, Value.int IntKind.i64 0, Value.int IntKind.i64 0, Value.int IntKind.i64 0, Value.int IntKind.i64 0, Value.int IntKind.i64 0, Value.int IntKind.i64 0, Value.int IntKind.i64 0, Value.int IntKind.i64 0, Value.int IntKind.i64 0, Value.int IntKind.i64 0, Value.int IntKind.i64 0, Value.int IntKind.i64 0, Value.int IntKind.i64 0, Value.int IntKind.i64 0] 105
  have hz := frozen_all_new W [Value.int IntKind.u64 0, Value.int IntKind.i64 0, Value.int IntKind.i64 0, Value.int IntKind.i64 0, Value.int IntKind.i64 0, Value.int IntKind.i64 0, Value.int IntKind.i64 0, Value.int IntKind.i64 0, Value.int IntKind.i64 0, Value.int IntKind.i64 0, Value.int IntKind.i64 0, Value.int IntKind.i64 0, Value.int IntKind.i64 0, Value.int IntKind.i64 0, Value.int IntKind.i64 0, Value.int IntKind.i64 0, Value.int IntKind.i64 0, Value.int IntKind.i64 0, Value.int IntKind.i64 0, Value.int IntKind.i64 0, Value.int IntKind.i64 0, Value.int IntKind.i64 0, Value.int IntKind.i64 0, Value.int IntKind.i64 0, Value.int IntKind.i64 0, Value.int IntKind.i64 0, Value.int IntKind.i64 0, Value.int IntKind.i64 0, Value.int IntKind.i64 0, Value.int IntKind.i64 0, Value.int IntKind.i64 0, Value.int IntKind.i64 0, Value.int IntKind.i64 0, Value.int IntKind.i64 0, Value.int IntKind.i64 0, Value.int IntKind.i64 0, Value.int IntKind.i64 0, Value.int IntKind.i64 0, Value.int IntKind.i64 0, Value.int IntKind.i64 0, Value.int IntKind.i64 0, Value.int IntKind.i64 0, Value.int IntKind.i64 0, Value.int IntKind.i64 0, Value.int IntKind.i64 0, Value.int IntKind.i64 0, Value.int IntKind.i64 0, Value.int IntKind.i64 0, Value.int IntKind.i64 0, Value.int IntKind.i64 0, Value.int IntKind.i64 0] 105
  have hl : [Value.int IntKind.u64 0, Value.int IntKind.i64 0, Value.int IntKind.i64 0, Value.int IntKind.i64 0, Value.int IntKind.i64 0, Value.int IntKind.i64 0, Value.int IntKind.i64 0, Value.int IntKind.i64 0, Value.int IntKind.i64 0, Value.int IntKind.i64 0, Value.int IntKind.i64 0, Value.int IntKind.i64 0, Value.int IntKind.i64 0, Value.int IntKind.i64 0, Value.int IntKind.i64 0, Value.int IntKind.i64 0, Value.int IntKind.i64 0, Value.int IntKind.i64 0, Value.int IntKind.i64 0, Value.int IntKind.i64 0, Value.int IntKind.i64 0, Value.int IntKind.i64 0, Value.int IntKind.i64 0, Value.int IntKind.i64 0, Value.int IntKind.i64 0, Value.int IntKind.i64 0, Value.int IntKind.i64 0, Value.int IntKind.i64 0, Value.int IntKind.i64 0, Value.int IntKind.i64 0, Value.int IntKind.i64 0, Value.int IntKind.i64 0, Value.int IntKind.i64 0, Value.int IntKind.i64 0, Value.int IntKind.i64 0, Value.int IntKind.i64 0, Value.int IntKind.i64 0, Value.int IntKind.i64 0, Value.int IntKind.i64 0, Value.int IntKind.i64 0, Value.int IntKind.i64 0, Value.int IntKind.i64 0, Value.int IntKind.i64 0, Value.int IntKind.i64 0, Value.int IntKind.i64 0, Value.int IntKind.i64 0, Value.int IntKind.i64 0, Value.int IntKind.i64 0, Value.int IntKind.i64 0, Value.int IntKind.i64 0, Value.int IntKind.i64 0] = (Value.int IntKind.u64 0 :: List.replicate 50 (Value.int IntKind.i64 0)) := by rfl
  refine ⟨h 0, fun a ha => ?_, fun i _ => hz i⟩
  rw [h (1 + a), hl, Nat.add_comm, List.getElem?_cons_succ, List.getElem?_replicate, if_pos ha]

theorem EndsI.start (w : World) (pb : Nat) (q : Piece) (tk : Nat → Nat) (fo : Nat → Nat → Nat) (x : ByteArray) (hP : PatAt w pb (whF q) tk fo) (hT : Tab w) :
    EndsI w pb q tk fo x 0 (w.heap.size + 1) (w.heap.size + 1 + 1) (((w.alloc (.cells (madeCells #[.int .i64 0] (x.size + 1)) 3)).alloc (.cells #[Value.int IntKind.u64 0, Value.int IntKind.i64 0, Value.int IntKind.i64 0, Value.int IntKind.i64 0, Value.int IntKind.i64 0, Value.int IntKind.i64 0, Value.int IntKind.i64 0, Value.int IntKind.i64 0, Value.int IntKind.i64 0, Value.int IntKind.i64 0, Value.int IntKind.i64 0, Value.int IntKind.i64 0, Value.int IntKind.i64 0, Value.int IntKind.i64 0, Value.int IntKind.i64 0, Value.int IntKind.i64 0, Value.int IntKind.i64 0, Value.int IntKind.i64 0, Value.int IntKind.i64 0, Value.int IntKind.i64 0, Value.int IntKind.i64 0, Value.int IntKind.i64 0, Value.int IntKind.i64 0, Value.int IntKind.i64 0, Value.int IntKind.i64 0, Value.int IntKind.i64 0, Value.int IntKind.i64 0, Value.int IntKind.i64 0, Value.int IntKind.i64 0, Value.int IntKind.i64 0, Value.int IntKind.i64 0, Value.int IntKind.i64 0, Value.int IntKind.i64 0, Value.int IntKind.i64 0, Value.int IntKind.i64 0, Value.int IntKind.i64 0, Value.int IntKind.i64 0, Value.int IntKind.i64 0, Value.int IntKind.i64 0, Value.int IntKind.i64 0, Value.int IntKind.i64 0, Value.int IntKind.i64 0, Value.int IntKind.i64 0, Value.int IntKind.i64 0, Value.int IntKind.i64 0, Value.int IntKind.i64 0, Value.int IntKind.i64 0, Value.int IntKind.i64 0, Value.int IntKind.i64 0, Value.int IntKind.i64 0, Value.int IntKind.i64 0] 105)).alloc (.cells #[Value.int IntKind.u64 0, Value.int IntKind.i64 0, Value.int IntKind.i64 0, Value.int IntKind.i64 0, Value.int IntKind.i64 0, Value.int IntKind.i64 0, Value.int IntKind.i64 0, Value.int IntKind.i64 0, Value.int IntKind.i64 0, Value.int IntKind.i64 0, Value.int IntKind.i64 0, Value.int IntKind.i64 0, Value.int IntKind.i64 0, Value.int IntKind.i64 0, Value.int IntKind.i64 0, Value.int IntKind.i64 0, Value.int IntKind.i64 0, Value.int IntKind.i64 0, Value.int IntKind.i64 0, Value.int IntKind.i64 0, Value.int IntKind.i64 0, Value.int IntKind.i64 0, Value.int IntKind.i64 0, Value.int IntKind.i64 0, Value.int IntKind.i64 0, Value.int IntKind.i64 0, Value.int IntKind.i64 0, Value.int IntKind.i64 0, Value.int IntKind.i64 0, Value.int IntKind.i64 0, Value.int IntKind.i64 0, Value.int IntKind.i64 0, Value.int IntKind.i64 0, Value.int IntKind.i64 0, Value.int IntKind.i64 0, Value.int IntKind.i64 0, Value.int IntKind.i64 0, Value.int IntKind.i64 0, Value.int IntKind.i64 0, Value.int IntKind.i64 0, Value.int IntKind.i64 0, Value.int IntKind.i64 0, Value.int IntKind.i64 0, Value.int IntKind.i64 0, Value.int IntKind.i64 0, Value.int IntKind.i64 0, Value.int IntKind.i64 0, Value.int IntKind.i64 0, Value.int IntKind.i64 0, Value.int IntKind.i64 0, Value.int IntKind.i64 0] 105)) := by
  have f0 : Fr [] w (((w.alloc (.cells (madeCells #[.int .i64 0] (x.size + 1)) 3)).alloc (.cells #[Value.int IntKind.u64 0, Value.int IntKind.i64 0, Value.int IntKind.i64 0, Value.int IntKind.i64 0, Value.int IntKind.i64 0, Value.int IntKind.i64 0, Value.int IntKind.i64 0, Value.int IntKind.i64 0, Value.int IntKind.i64 0, Value.int IntKind.i64 0, Value.int IntKind.i64 0, Value.int IntKind.i64 0, Value.int IntKind.i64 0, Value.int IntKind.i64 0, Value.int IntKind.i64 0, Value.int IntKind.i64 0, Value.int IntKind.i64 0, Value.int IntKind.i64 0, Value.int IntKind.i64 0, Value.int IntKind.i64 0, Value.int IntKind.i64 0, Value.int IntKind.i64 0, Value.int IntKind.i64 0, Value.int IntKind.i64 0, Value.int IntKind.i64 0, Value.int IntKind.i64 0, Value.int IntKind.i64 0, Value.int IntKind.i64 0, Value.int IntKind.i64 0, Value.int IntKind.i64 0, Value.int IntKind.i64 0, Value.int IntKind.i64 0, Value.int IntKind.i64 0, Value.int IntKind.i64 0, Value.int IntKind.i64 0, Value.int IntKind.i64 0, Value.int IntKind.i64 0, Value.int IntKind.i64 0, Value.int IntKind.i64 0, Value.int IntKind.i64 0, Value.int IntKind.i64 0, Value.int IntKind.i64 0, Value.int IntKind.i64 0, Value.int IntKind.i64 0, Value.int IntKind.i64 0, Value.int IntKind.i64 0, Value.int IntKind.i64 0, Value.int IntKind.i64 0, Value.int IntKind.i64 0, Value.int IntKind.i64 0, Value.int IntKind.i64 0] 105)).alloc (.cells #[Value.int IntKind.u64 0, Value.int IntKind.i64 0, Value.int IntKind.i64 0, Value.int IntKind.i64 0, Value.int IntKind.i64 0, Value.int IntKind.i64 0, Value.int IntKind.i64 0, Value.int IntKind.i64 0, Value.int IntKind.i64 0, Value.int IntKind.i64 0, Value.int IntKind.i64 0, Value.int IntKind.i64 0, Value.int IntKind.i64 0, Value.int IntKind.i64 0, Value.int IntKind.i64 0, Value.int IntKind.i64 0, Value.int IntKind.i64 0, Value.int IntKind.i64 0, Value.int IntKind.i64 0, Value.int IntKind.i64 0, Value.int IntKind.i64 0, Value.int IntKind.i64 0, Value.int IntKind.i64 0, Value.int IntKind.i64 0, Value.int IntKind.i64 0, Value.int IntKind.i64 0, Value.int IntKind.i64 0, Value.int IntKind.i64 0, Value.int IntKind.i64 0, Value.int IntKind.i64 0, Value.int IntKind.i64 0, Value.int IntKind.i64 0, Value.int IntKind.i64 0, Value.int IntKind.i64 0, Value.int IntKind.i64 0, Value.int IntKind.i64 0, Value.int IntKind.i64 0, Value.int IntKind.i64 0, Value.int IntKind.i64 0, Value.int IntKind.i64 0, Value.int IntKind.i64 0, Value.int IntKind.i64 0, Value.int IntKind.i64 0, Value.int IntKind.i64 0, Value.int IntKind.i64 0, Value.int IntKind.i64 0, Value.int IntKind.i64 0, Value.int IntKind.i64 0, Value.int IntKind.i64 0, Value.int IntKind.i64 0, Value.int IntKind.i64 0] 105)) := (((Fr.refl [] w).alloc _).alloc _).alloc _
  have f1 : Fr [] (w.alloc (.cells (madeCells #[.int .i64 0] (x.size + 1)) 3)) (((w.alloc (.cells (madeCells #[.int .i64 0] (x.size + 1)) 3)).alloc (.cells #[Value.int IntKind.u64 0, Value.int IntKind.i64 0, Value.int IntKind.i64 0, Value.int IntKind.i64 0, Value.int IntKind.i64 0, Value.int IntKind.i64 0, Value.int IntKind.i64 0, Value.int IntKind.i64 0, Value.int IntKind.i64 0, Value.int IntKind.i64 0, Value.int IntKind.i64 0, Value.int IntKind.i64 0, Value.int IntKind.i64 0, Value.int IntKind.i64 0, Value.int IntKind.i64 0, Value.int IntKind.i64 0, Value.int IntKind.i64 0, Value.int IntKind.i64 0, Value.int IntKind.i64 0, Value.int IntKind.i64 0, Value.int IntKind.i64 0, Value.int IntKind.i64 0, Value.int IntKind.i64 0, Value.int IntKind.i64 0, Value.int IntKind.i64 0, Value.int IntKind.i64 0, Value.int IntKind.i64 0, Value.int IntKind.i64 0, Value.int IntKind.i64 0, Value.int IntKind.i64 0, Value.int IntKind.i64 0, Value.int IntKind.i64 0, Value.int IntKind.i64 0, Value.int IntKind.i64 0, Value.int IntKind.i64 0, Value.int IntKind.i64 0, Value.int IntKind.i64 0, Value.int IntKind.i64 0, Value.int IntKind.i64 0, Value.int IntKind.i64 0, Value.int IntKind.i64 0, Value.int IntKind.i64 0, Value.int IntKind.i64 0, Value.int IntKind.i64 0, Value.int IntKind.i64 0, Value.int IntKind.i64 0, Value.int IntKind.i64 0, Value.int IntKind.i64 0, Value.int IntKind.i64 0, Value.int IntKind.i64 0, Value.int IntKind.i64 0] 105)).alloc (.cells #[Value.int IntKind.u64 0, Value.int IntKind.i64 0, Value.int IntKind.i64 0, Value.int IntKind.i64 0, Value.int IntKind.i64 0, Value.int IntKind.i64 0, Value.int IntKind.i64 0, Value.int IntKind.i64 0, Value.int IntKind.i64 0, Value.int IntKind.i64 0, Value.int IntKind.i64 0, Value.int IntKind.i64 0, Value.int IntKind.i64 0, Value.int IntKind.i64 0, Value.int IntKind.i64 0, Value.int IntKind.i64 0, Value.int IntKind.i64 0, Value.int IntKind.i64 0, Value.int IntKind.i64 0, Value.int IntKind.i64 0, Value.int IntKind.i64 0, Value.int IntKind.i64 0, Value.int IntKind.i64 0, Value.int IntKind.i64 0, Value.int IntKind.i64 0, Value.int IntKind.i64 0, Value.int IntKind.i64 0, Value.int IntKind.i64 0, Value.int IntKind.i64 0, Value.int IntKind.i64 0, Value.int IntKind.i64 0, Value.int IntKind.i64 0, Value.int IntKind.i64 0, Value.int IntKind.i64 0, Value.int IntKind.i64 0, Value.int IntKind.i64 0, Value.int IntKind.i64 0, Value.int IntKind.i64 0, Value.int IntKind.i64 0, Value.int IntKind.i64 0, Value.int IntKind.i64 0, Value.int IntKind.i64 0, Value.int IntKind.i64 0, Value.int IntKind.i64 0, Value.int IntKind.i64 0, Value.int IntKind.i64 0, Value.int IntKind.i64 0, Value.int IntKind.i64 0, Value.int IntKind.i64 0, Value.int IntKind.i64 0, Value.int IntKind.i64 0] 105)) := ((Fr.refl [] _).alloc _).alloc _
  have r1 := (RowAt.new (w.alloc (.cells (madeCells #[.int .i64 0] (x.size + 1)) 3))).fr ((Fr.refl [] _).alloc (.cells #[Value.int IntKind.u64 0, Value.int IntKind.i64 0, Value.int IntKind.i64 0, Value.int IntKind.i64 0, Value.int IntKind.i64 0, Value.int IntKind.i64 0, Value.int IntKind.i64 0, Value.int IntKind.i64 0, Value.int IntKind.i64 0, Value.int IntKind.i64 0, Value.int IntKind.i64 0, Value.int IntKind.i64 0, Value.int IntKind.i64 0, Value.int IntKind.i64 0, Value.int IntKind.i64 0, Value.int IntKind.i64 0, Value.int IntKind.i64 0, Value.int IntKind.i64 0, Value.int IntKind.i64 0, Value.int IntKind.i64 0, Value.int IntKind.i64 0, Value.int IntKind.i64 0, Value.int IntKind.i64 0, Value.int IntKind.i64 0, Value.int IntKind.i64 0, Value.int IntKind.i64 0, Value.int IntKind.i64 0, Value.int IntKind.i64 0, Value.int IntKind.i64 0, Value.int IntKind.i64 0, Value.int IntKind.i64 0, Value.int IntKind.i64 0, Value.int IntKind.i64 0, Value.int IntKind.i64 0, Value.int IntKind.i64 0, Value.int IntKind.i64 0, Value.int IntKind.i64 0, Value.int IntKind.i64 0, Value.int IntKind.i64 0, Value.int IntKind.i64 0, Value.int IntKind.i64 0, Value.int IntKind.i64 0, Value.int IntKind.i64 0, Value.int IntKind.i64 0, Value.int IntKind.i64 0, Value.int IntKind.i64 0, Value.int IntKind.i64 0, Value.int IntKind.i64 0, Value.int IntKind.i64 0, Value.int IntKind.i64 0, Value.int IntKind.i64 0] 105)) (by simp)
  have r2 := RowAt.new ((w.alloc (.cells (madeCells #[.int .i64 0] (x.size + 1)) 3)).alloc (.cells #[Value.int IntKind.u64 0, Value.int IntKind.i64 0, Value.int IntKind.i64 0, Value.int IntKind.i64 0, Value.int IntKind.i64 0, Value.int IntKind.i64 0, Value.int IntKind.i64 0, Value.int IntKind.i64 0, Value.int IntKind.i64 0, Value.int IntKind.i64 0, Value.int IntKind.i64 0, Value.int IntKind.i64 0, Value.int IntKind.i64 0, Value.int IntKind.i64 0, Value.int IntKind.i64 0, Value.int IntKind.i64 0, Value.int IntKind.i64 0, Value.int IntKind.i64 0, Value.int IntKind.i64 0, Value.int IntKind.i64 0, Value.int IntKind.i64 0, Value.int IntKind.i64 0, Value.int IntKind.i64 0, Value.int IntKind.i64 0, Value.int IntKind.i64 0, Value.int IntKind.i64 0, Value.int IntKind.i64 0, Value.int IntKind.i64 0, Value.int IntKind.i64 0, Value.int IntKind.i64 0, Value.int IntKind.i64 0, Value.int IntKind.i64 0, Value.int IntKind.i64 0, Value.int IntKind.i64 0, Value.int IntKind.i64 0, Value.int IntKind.i64 0, Value.int IntKind.i64 0, Value.int IntKind.i64 0, Value.int IntKind.i64 0, Value.int IntKind.i64 0, Value.int IntKind.i64 0, Value.int IntKind.i64 0, Value.int IntKind.i64 0, Value.int IntKind.i64 0, Value.int IntKind.i64 0, Value.int IntKind.i64 0, Value.int IntKind.i64 0, Value.int IntKind.i64 0, Value.int IntKind.i64 0, Value.int IntKind.i64 0, Value.int IntKind.i64 0] 105))
  rw [World.size_alloc] at r1
  rw [World.size_alloc, World.size_alloc] at r2
  have hm := World.alloc_heap_new w (.cells (madeCells #[.int .i64 0] (x.size + 1)) 3)
  have c0 : ∀ j, j ≤ x.size → (w.alloc (.cells (madeCells #[.int .i64 0] (x.size + 1)) 3)).cell? ⟨w.heap.size, j, none⟩ = some (.int .i64 0) := fun j hj => by
    unfold World.cell?; rw [hm]; simp [madeCells, show j < x.size + 1 by omega, Nat.mod_one]
  have z0 : ∀ j, (w.alloc (.cells (madeCells #[.int .i64 0] (x.size + 1)) 3)).frozen? ⟨w.heap.size, j, none⟩ = false := fun j => by
    unfold World.frozen?; rw [hm]; simp
  refine ⟨hP.fr f0 (by simp), ⟨_, _, r1⟩, ⟨_, _, r2⟩, fun e he => by omega, fun j hj => ?_, fun j hj => ?_, hT.fr f0 (by simp), f0, by omega, .inl rfl, .inr rfl, hP.lt, Tagged.fr ⟨_, _, hm⟩ f1 (by simp)⟩
  · rw [if_neg (by omega)]; exact (f1.cell (p := ⟨w.heap.size, j, none⟩) (by simp) (by simp)).trans (c0 j hj)
  · exact (f1.frozen (p := ⟨w.heap.size, j, none⟩) (by simp) (by simp)).trans (z0 j)

/-- What the call leaves: a slice of its own that holds the ends. -/
def EndsAt (w : World) (q : Piece) (tk : Nat → Nat) (fo : Nat → Nat → Nat) (x : ByteArray) (W : World) (eb : Nat) : Prop :=
  w.heap.size ≤ eb ∧ Tagged W eb 3 ∧ ∀ j, j ≤ x.size → W.cell? ⟨eb, j, none⟩ = some (.int .i64 (endF q tk fo x j))

set_option maxRecDepth 100000 in
set_option maxHeartbeats 2000000 in
theorem ends_any (pb : Nat) (q : Piece) (tk : Nat → Nat) (fo : Nat → Nat → Nat) (x : ByteArray) (w : World) (hP : PatAt w pb (whF q) tk fo) (hT : Tab w) (lq : PB 50 q) (ltk : ∀ b, tk b < 1125899906842624) (lfo : ∀ s a, fo s a < 18446744073709551616) (hx : x.size ≤ 100) :
    Calls Tryd.prog 40 #[.pointer (some ⟨pb, 0, none⟩), .string x] w fun e w' => ∃ eb, e = .returned (.slice (some ⟨eb, 0, none⟩) (x.size + 1) (x.size + 1)) ∧ EndsAt w q tk fo x w' eb ∧ Fr [] w w' := by
  have hm : Tryd.prog.follows Departure.mixedOrders = true := by kernel_rfl
  have hmk := fun w => run_make_row' (P := Tryd.prog) 85 3 (.int .i64 0) 8 Tryd.underlying85 Tryd.info3 rfl .i64 .i64 (x.size + 1) (by omega) (by omega) w
  have ec : ((x.size + 1 : Nat) : Int) = (x.size : Int) + 1 := by omega
  rw [ec] at hmk
  clear ec
  have J0 := EndsI.start w pb q tk fo x hP hT
  go_enter Tryd.func40, Tryd.ntmps40
  go_wp2
  clear hmk
  generalize (((w.alloc (.cells (madeCells #[.int .i64 0] (x.size + 1)) 3)).alloc (.cells #[Value.int IntKind.u64 0, Value.int IntKind.i64 0, Value.int IntKind.i64 0, Value.int IntKind.i64 0, Value.int IntKind.i64 0, Value.int IntKind.i64 0, Value.int IntKind.i64 0, Value.int IntKind.i64 0, Value.int IntKind.i64 0, Value.int IntKind.i64 0, Value.int IntKind.i64 0, Value.int IntKind.i64 0, Value.int IntKind.i64 0, Value.int IntKind.i64 0, Value.int IntKind.i64 0, Value.int IntKind.i64 0, Value.int IntKind.i64 0, Value.int IntKind.i64 0, Value.int IntKind.i64 0, Value.int IntKind.i64 0, Value.int IntKind.i64 0, Value.int IntKind.i64 0, Value.int IntKind.i64 0, Value.int IntKind.i64 0, Value.int IntKind.i64 0, Value.int IntKind.i64 0, Value.int IntKind.i64 0, Value.int IntKind.i64 0, Value.int IntKind.i64 0, Value.int IntKind.i64 0, Value.int IntKind.i64 0, Value.int IntKind.i64 0, Value.int IntKind.i64 0, Value.int IntKind.i64 0, Value.int IntKind.i64 0, Value.int IntKind.i64 0, Value.int IntKind.i64 0, Value.int IntKind.i64 0, Value.int IntKind.i64 0, Value.int IntKind.i64 0, Value.int IntKind.i64 0, Value.int IntKind.i64 0, Value.int IntKind.i64 0, Value.int IntKind.i64 0, Value.int IntKind.i64 0, Value.int IntKind.i64 0, Value.int IntKind.i64 0, Value.int IntKind.i64 0, Value.int IntKind.i64 0, Value.int IntKind.i64 0, Value.int IntKind.i64 0] 105)).alloc (.cells #[Value.int IntKind.u64 0, Value.int IntKind.i64 0, Value.int IntKind.i64 0, Value.int IntKind.i64 0, Value.int IntKind.i64 0, Value.int IntKind.i64 0, Value.int IntKind.i64 0, Value.int IntKind.i64 0, Value.int IntKind.i64 0, Value.int IntKind.i64 0, Value.int IntKind.i64 0, Value.int IntKind.i64 0, Value.int IntKind.i64 0, Value.int IntKind.i64 0, Value.int IntKind.i64 0, Value.int IntKind.i64 0, Value.int IntKind.i64 0, Value.int IntKind.i64 0, Value.int IntKind.i64 0, Value.int IntKind.i64 0, Value.int IntKind.i64 0, Value.int IntKind.i64 0, Value.int IntKind.i64 0, Value.int IntKind.i64 0, Value.int IntKind.i64 0, Value.int IntKind.i64 0, Value.int IntKind.i64 0, Value.int IntKind.i64 0, Value.int IntKind.i64 0, Value.int IntKind.i64 0, Value.int IntKind.i64 0, Value.int IntKind.i64 0, Value.int IntKind.i64 0, Value.int IntKind.i64 0, Value.int IntKind.i64 0, Value.int IntKind.i64 0, Value.int IntKind.i64 0, Value.int IntKind.i64 0, Value.int IntKind.i64 0, Value.int IntKind.i64 0, Value.int IntKind.i64 0, Value.int IntKind.i64 0, Value.int IntKind.i64 0, Value.int IntKind.i64 0, Value.int IntKind.i64 0, Value.int IntKind.i64 0, Value.int IntKind.i64 0, Value.int IntKind.i64 0, Value.int IntKind.i64 0, Value.int IntKind.i64 0, Value.int IntKind.i64 0] 105)) = W0 at *
  go_loopw [6, 7, 8] (fun a b i wr => ∃ (p : Int) (hb bb d : Nat), -1 ≤ p ∧ p + d = x.size ∧ a = .pointer (some ⟨hb, 0, none⟩) ∧ b = .pointer (some ⟨bb, 0, none⟩) ∧ i = .int .i64 p ∧ EndsI w pb q tk fo x d hb bb wr) (fun _ _ i _ => (intOf i + 1).toNat)
  case atStart => exact ⟨x.size, _, _, 0, by omega, by omega, rfl, rfl, rfl, J0⟩
  case round =>
    obtain ⟨p, hb, bb, d, hp1, hp2, rfl, rfl, rfl, J⟩ := hrel
    clear J0
    by_cases hp : 0 ≤ p
    · obtain ⟨k, rfl⟩ := Int.eq_ofNat_of_zero_le hp
      have g1 : (0 : Int) ≤ (k : Int) := by omega
      have g2 : (k : Int) ≤ 100 := by omega
      have hkd : k + d = x.size := by omega
      have hfill : Calls Tryd.prog 55 #[.pointer (some ⟨pb, 0, none⟩), .pointer (some ⟨hb, 0, none⟩), .string x, .int .i64 k, .pointer (some ⟨bb, 0, none⟩)] wr fun e W' => e = .returned (.tuple #[]) ∧ EndsM w pb q tk fo x d hb bb W' := by
        cases d with
        | zero => obtain rfl : k = x.size := by omega
                  exact fillD_end J
        | succ d => exact fillD_go d k J (by omega) hx lq ltk lfo
      have sp4 := spotN_lt k x.size
      have hspo := spotF_eq k x.size
      have hfar := fun (W : World) (least : Int) (hW : EndsM w pb q tk fo x d hb bb W) => farD hW least lq ltk
      have hend := end_le q tk fo x d
      rw [show x.size - d = k by omega] at hfar
      have we := whF_e q _ sp4
      have wf := whF_f q _ sp4
      have wl := whF_l' q _ sp4
      have hsp35 := fun (W : World) => spotOf_any (k : Int) (x.size : Int) W
      simp only [hspo] at hsp35
      generalize spotN k x.size = sp at *
      clear hspo
      have g3 : (sp : Int) < 4 := by omega
      obtain ⟨E, hE⟩ : ∃ E, endD q tk fo x d = E := ⟨_, rfl⟩
      have hnx := fun (W : World) (hW : EndsM w pb q tk fo x d hb bb W) => hW.next k hkd
      simp only [hE] at hfar hend hnx
      clear hE
      have Hfar : Hid _ := hfar
      have H35 : Hid _ := hsp35
      have Hnx : Hid _ := hnx
      clear hfar hsp35 hnx
      go_wp2_with fail
      refine hfill.mono ?_
      rintro e Wa ⟨rfl, K⟩
      clear hfill J
      have p0 : Wa.cell? ⟨pb, sp * 3, none⟩ = some (.bool (q sp).e) := by rw [K.pat.hw _ (by omega), we]
      have p1 : Wa.cell? ⟨pb, sp * 3 + 1, none⟩ = some (.int .u64 (q sp).f) := by rw [K.pat.hw _ (by omega), wf]
      have p2 : Wa.cell? ⟨pb, sp * 3 + 2, none⟩ = some (.int .u64 (q sp).l) := by rw [K.pat.hw _ (by omega), wl]
      clear we wf wl
      go_wp2
      refine wp_region_heldD (fun w1 : World => w1.cell? ⟨pb, sp * 3, none⟩ = some (.bool (q sp).e) ∧ w1.cell? ⟨pb, sp * 3 + 1, none⟩ = some (.int .u64 (q sp).f) ∧ w1.cell? ⟨pb, sp * 3 + 2, none⟩ = some (.int .u64 (q sp).l)) hm ?_
      have hS : (fun w1 : World => w1.cell? ⟨pb, sp * 3, none⟩ = some (.bool (q sp).e) ∧ w1.cell? ⟨pb, sp * 3 + 1, none⟩ = some (.int .u64 (q sp).f) ∧ w1.cell? ⟨pb, sp * 3 + 2, none⟩ = some (.int .u64 (q sp).l)) Wa.drew := And.intro p0 (And.intro p1 p2)
      refine wpAnyH_take (i := 0) (v := ?_) rfl (by kernel_rfl) (by kernel_rfl) (by kernel_rfl) (fun _ _ _ h => h) (.inl ⟨rfl, fun w1 hS1 => ?_⟩) hS ?_
      rotate_left
      · go_simp
        rfl
      simp only [Act.put, List.setIfInBounds_toArray, List.set_cons_zero, List.set_cons_succ]
      refine wpAnyH_take (i := 1) (v := ?_) rfl (by kernel_rfl) (by kernel_rfl) (by kernel_rfl) (fun _ _ _ h => h) (.inl ⟨rfl, fun w1 hS1 => ?_⟩) hS ?_
      rotate_left
      · go_simp
        rfl
      simp only [Act.put, List.setIfInBounds_toArray, List.set_cons_zero, List.set_cons_succ]
      refine wpAnyH_take (i := 2) (v := ?_) rfl (by kernel_rfl) (by kernel_rfl) (by kernel_rfl) (fun _ _ _ h => h) (.inl ⟨rfl, fun w1 hS1 => ?_⟩) hS ?_
      rotate_left
      · go_simp
        rfl
      simp only [Act.put, List.setIfInBounds_toArray, List.set_cons_zero, List.set_cons_succ]
      refine wpAnyH_take (i := 3) (v := ?_) rfl (by kernel_rfl) (by kernel_rfl) (by kernel_rfl) (fun _ _ _ h => h) (.inl ⟨rfl, fun w1 hS1 => ?_⟩) hS ?_
      rotate_left
      · go_simp
        rfl
      simp only [Act.put, List.setIfInBounds_toArray, List.set_cons_zero, List.set_cons_succ]
      refine wpAnyH_take (i := 5) (v := ?_) rfl (by kernel_rfl) (by kernel_rfl) (by kernel_rfl) (fun _ _ _ h => h) (.inl ⟨rfl, fun w1 hS1 => ?_⟩) hS ?_
      rotate_left
      · go_simp
        rfl
      simp only [Act.put, List.setIfInBounds_toArray, List.set_cons_zero, List.set_cons_succ]
      refine wpAnyH_take (i := 6) (v := ?_) rfl (by kernel_rfl) (by kernel_rfl) (by kernel_rfl) (fun _ _ _ h => h) (.inl ⟨rfl, fun w1 hS1 => ?_⟩) hS ?_
      rotate_left
      · go_simp
        rfl
      simp only [Act.put, List.setIfInBounds_toArray, List.set_cons_zero, List.set_cons_succ]
      refine wpAnyH_ready (rs := [4, 9]) (by kernel_rfl) (by simp) ?_
      refine AllReadyH.cons rfl (fun K' hK => ?_) ?_
      · go_simp
        refine (H35.out _).mono ?_
        rintro e w' ⟨rfl, rfl⟩
        refine hK _ _ hS ?_
        clear hK K'
        intro _
        refine wpAnyH_take (i := 7) (v := ?_) rfl (by kernel_rfl) (by kernel_rfl) (by kernel_rfl) (fun _ _ _ h => h) (.inl ⟨rfl, fun w1 hS1 => ?_⟩) hS ?_
        rotate_left
        · go_simp
          rfl
        simp only [Act.put, List.setIfInBounds_toArray, List.set_cons_zero, List.set_cons_succ]
        refine wpAnyH_take (i := 8) (v := ?_) rfl (by kernel_rfl) (by kernel_rfl) (by kernel_rfl) (fun _ _ _ h => h) (.inl ⟨rfl, fun w1 hS1 => ?_⟩) hS ?_
        rotate_left
        · obtain ⟨q0, q1, q2⟩ := hS1
          go_simp
          rfl
        simp only [Act.put, List.setIfInBounds_toArray, List.set_cons_zero, List.set_cons_succ]
        refine wpAnyH_ready (rs := [9]) (by kernel_rfl) (by simp) ?_
        refine AllReadyH.cons rfl (fun K' hK => ?_) AllReadyH.nil
        go_simp
        clear hS
        have hS : (fun w1 : World => w1.cell? ⟨pb, sp * 3, none⟩ = some (.bool (q sp).e) ∧ w1.cell? ⟨pb, sp * 3 + 1, none⟩ = some (.int .u64 (q sp).f) ∧ w1.cell? ⟨pb, sp * 3 + 2, none⟩ = some (.int .u64 (q sp).l)) (Wa.alloc (Obj.cells #[Value.bool false, Value.int IntKind.u64 0, Value.int IntKind.u64 0] 71)).drew := And.intro (cell_past1 p0) (And.intro (cell_past1 p1) (cell_past1 p2))
        refine hK _ _ hS ?_
        clear hK K'
        intro _
        refine wpAnyH_ready (rs := [10]) (by kernel_rfl) (by simp) ?_
        refine AllReadyH.cons rfl (fun K' hK => ?_) AllReadyH.nil
        go_simp
        refine hK _ _ ?_ ?_
        · exact And.intro (cell_past1 p0) (And.intro (cell_past1 p1) (cell_past1 p2))
        clear hK K'
        intro _
        refine wpAnyH_done (by kernel_rfl) ?_ _
        have Kc := K.kept (W' := (Wa.alloc (Obj.cells #[.bool (q sp).e, .int .u64 (q sp).f, .int .u64 (q sp).l] 71)).drew) (((Fr.refl [] Wa).alloc _).drew) K.elt
        have n0 := rowIs_new Wa [.bool (q sp).e, .int .u64 (q sp).f, .int .u64 (q sp).l] 71
        have d0 : (Wa.alloc (Obj.cells #[.bool (q sp).e, .int .u64 (q sp).f, .int .u64 (q sp).l] 71)).drew.cell? ⟨Wa.heap.size, 0, none⟩ = some (.bool (q sp).e) := n0 0
        have d1 : (Wa.alloc (Obj.cells #[.bool (q sp).e, .int .u64 (q sp).f, .int .u64 (q sp).l] 71)).drew.cell? ⟨Wa.heap.size, 1, none⟩ = some (.int .u64 (q sp).f) := n0 1
        clear n0 p0 p1 p2 hS
        generalize (Wa.alloc (Obj.cells #[.bool (q sp).e, .int .u64 (q sp).f, .int .u64 (q sp).l] 71)).drew = Wc at *
        generalize Wa.heap.size = nb at *
        cases he : (q sp).e
        all_goals
          rw [he] at d0
          go_wp2_with fail
          refine (Hfar.out _ _ Kc (by rw [he]; rfl)).mono ?_
          rintro e Wd ⟨rfl, Kd⟩
          have ecell := Kd.ec k (by omega)
          rw [if_neg (by omega)] at ecell
          have efz := Kd.ez k (by omega)
          have g5 : (k : Int) < (x.size : Int) + 1 := by omega
          have g6 : ((x.size + 1 : Nat) : Int) = (x.size : Int) + 1 := by omega
          go_wp2
          exact ⟨⟨(k : Int) - 1, bb, hb, d + 1, by omega, by omega, rfl, rfl, rfl, Hnx.out _ Kd⟩, by simp [intOf]⟩
      · refine AllReadyH.cons rfl (fun K' hK => ?_) AllReadyH.nil
        go_simp
        clear hS
        have hS : (fun w1 : World => w1.cell? ⟨pb, sp * 3, none⟩ = some (.bool (q sp).e) ∧ w1.cell? ⟨pb, sp * 3 + 1, none⟩ = some (.int .u64 (q sp).f) ∧ w1.cell? ⟨pb, sp * 3 + 2, none⟩ = some (.int .u64 (q sp).l)) (Wa.alloc (Obj.cells #[Value.bool false, Value.int IntKind.u64 0, Value.int IntKind.u64 0] 71)).drew := And.intro (cell_past1 p0) (And.intro (cell_past1 p1) (cell_past1 p2))
        refine hK _ _ hS ?_
        clear hK K'
        intro _
        refine wpAnyH_ready (rs := [4]) (by kernel_rfl) (by simp) ?_
        refine AllReadyH.cons rfl (fun K' hK => ?_) AllReadyH.nil
        go_simp
        refine (H35.out _).mono ?_
        rintro e w' ⟨rfl, rfl⟩
        refine hK _ _ hS ?_
        clear hK K'
        intro _
        refine wpAnyH_take (i := 7) (v := ?_) rfl (by kernel_rfl) (by kernel_rfl) (by kernel_rfl) (fun _ _ _ h => h) (.inl ⟨rfl, fun w1 hS1 => ?_⟩) hS ?_
        rotate_left
        · go_simp
          rfl
        simp only [Act.put, List.setIfInBounds_toArray, List.set_cons_zero, List.set_cons_succ]
        refine wpAnyH_take (i := 8) (v := ?_) rfl (by kernel_rfl) (by kernel_rfl) (by kernel_rfl) (fun _ _ _ h => h) (.inl ⟨rfl, fun w1 hS1 => ?_⟩) hS ?_
        rotate_left
        · obtain ⟨q0, q1, q2⟩ := hS1
          go_simp
          rfl
        simp only [Act.put, List.setIfInBounds_toArray, List.set_cons_zero, List.set_cons_succ]
        refine wpAnyH_ready (rs := [10]) (by kernel_rfl) (by simp) ?_
        refine AllReadyH.cons rfl (fun K' hK => ?_) AllReadyH.nil
        go_simp
        refine hK _ _ ?_ ?_
        · exact And.intro (cell_past1 p0) (And.intro (cell_past1 p1) (cell_past1 p2))
        clear hK K'
        intro _
        refine wpAnyH_done (by kernel_rfl) ?_ _
        have Kc := K.kept (W' := (Wa.alloc (Obj.cells #[.bool (q sp).e, .int .u64 (q sp).f, .int .u64 (q sp).l] 71)).drew) (((Fr.refl [] Wa).alloc _).drew) K.elt
        have n0 := rowIs_new Wa [.bool (q sp).e, .int .u64 (q sp).f, .int .u64 (q sp).l] 71
        have d0 : (Wa.alloc (Obj.cells #[.bool (q sp).e, .int .u64 (q sp).f, .int .u64 (q sp).l] 71)).drew.cell? ⟨Wa.heap.size, 0, none⟩ = some (.bool (q sp).e) := n0 0
        have d1 : (Wa.alloc (Obj.cells #[.bool (q sp).e, .int .u64 (q sp).f, .int .u64 (q sp).l] 71)).drew.cell? ⟨Wa.heap.size, 1, none⟩ = some (.int .u64 (q sp).f) := n0 1
        clear n0 p0 p1 p2 hS
        generalize (Wa.alloc (Obj.cells #[.bool (q sp).e, .int .u64 (q sp).f, .int .u64 (q sp).l] 71)).drew = Wc at *
        generalize Wa.heap.size = nb at *
        cases he : (q sp).e
        all_goals
          rw [he] at d0
          go_wp2_with fail
          refine (Hfar.out _ _ Kc (by rw [he]; rfl)).mono ?_
          rintro e Wd ⟨rfl, Kd⟩
          have ecell := Kd.ec k (by omega)
          rw [if_neg (by omega)] at ecell
          have efz := Kd.ez k (by omega)
          have g5 : (k : Int) < (x.size : Int) + 1 := by omega
          have g6 : ((x.size + 1 : Nat) : Int) = (x.size : Int) + 1 := by omega
          go_wp2
          exact ⟨⟨(k : Int) - 1, bb, hb, d + 1, by omega, by omega, rfl, rfl, rfl, Hnx.out _ Kd⟩, by simp [intOf]⟩
    · have g1 : ¬ ((0 : Int) ≤ p) := by omega
      obtain rfl : d = x.size + 1 := by omega
      go_wp2
      go_ret
      refine ⟨w.heap.size, rfl, ⟨Nat.le_refl _, J.tg, fun j hj => ?_⟩, J.fr⟩
      rw [J.ec j hj, if_pos (by omega)]

end Go.Proofs.YticaoekmlaipnaaDoor
