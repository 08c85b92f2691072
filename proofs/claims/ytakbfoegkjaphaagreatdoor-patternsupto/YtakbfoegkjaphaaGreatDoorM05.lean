/-
  Either of two pieces. The reader's small functions. The reader's small functions: need, plain, closes, bound.
-/
import Derived.Test.YtakbfoegkjaphaaGreatDoorM04
import Derived.Test.YtakbfoegkjaphaaGreatDoorM02
set_option linter.unusedSimpArgs false
set_option linter.unusedVariables false
namespace Go.Proofs.YtakbfoegkjaphaaGreatDoor
open Go.RowKit

def Piece.ok (q : Piece) : Prop := ∀ s, (q s).ok

/-- The cells of the result, k spots done. -/
def mixL (a b : Piece) : Nat → List Value
  | 0 => [.bool (a 0).e, .int .u64 (a 0).f, .int .u64 (a 0).l, .bool (a 1).e, .int .u64 (a 1).f, .int .u64 (a 1).l, .bool (a 2).e, .int .u64 (a 2).f, .int .u64 (a 2).l, .bool (a 3).e, .int .u64 (a 3).f, .int .u64 (a 3).l]
  | 1 => [.bool ((a 0).e || (b 0).e), .int .u64 ((a 0).f ||| (b 0).f : Nat), .int .u64 ((a 0).l ||| (b 0).l : Nat), .bool (a 1).e, .int .u64 (a 1).f, .int .u64 (a 1).l, .bool (a 2).e, .int .u64 (a 2).f, .int .u64 (a 2).l, .bool (a 3).e, .int .u64 (a 3).f, .int .u64 (a 3).l]
  | 2 => [.bool ((a 0).e || (b 0).e), .int .u64 ((a 0).f ||| (b 0).f : Nat), .int .u64 ((a 0).l ||| (b 0).l : Nat), .bool ((a 1).e || (b 1).e), .int .u64 ((a 1).f ||| (b 1).f : Nat), .int .u64 ((a 1).l ||| (b 1).l : Nat), .bool (a 2).e, .int .u64 (a 2).f, .int .u64 (a 2).l, .bool (a 3).e, .int .u64 (a 3).f, .int .u64 (a 3).l]
  | 3 => [.bool ((a 0).e || (b 0).e), .int .u64 ((a 0).f ||| (b 0).f : Nat), .int .u64 ((a 0).l ||| (b 0).l : Nat), .bool ((a 1).e || (b 1).e), .int .u64 ((a 1).f ||| (b 1).f : Nat), .int .u64 ((a 1).l ||| (b 1).l : Nat), .bool ((a 2).e || (b 2).e), .int .u64 ((a 2).f ||| (b 2).f : Nat), .int .u64 ((a 2).l ||| (b 2).l : Nat), .bool (a 3).e, .int .u64 (a 3).f, .int .u64 (a 3).l]
  | _ => [.bool ((a 0).e || (b 0).e), .int .u64 ((a 0).f ||| (b 0).f : Nat), .int .u64 ((a 0).l ||| (b 0).l : Nat), .bool ((a 1).e || (b 1).e), .int .u64 ((a 1).f ||| (b 1).f : Nat), .int .u64 ((a 1).l ||| (b 1).l : Nat), .bool ((a 2).e || (b 2).e), .int .u64 ((a 2).f ||| (b 2).f : Nat), .int .u64 ((a 2).l ||| (b 2).l : Nat), .bool ((a 3).e || (b 3).e), .int .u64 ((a 3).f ||| (b 3).f : Nat), .int .u64 ((a 3).l ||| (b 3).l : Nat)]

structure EithI (w : World) (a b : Piece) (o : List Value) (W : World) : Prop where
  fr : Fr [] w W
  sz : w.heap.size + 1 + 1 + 1 ≤ W.heap.size
  ro : RowIs W w.heap.size o
  rb : RowIs W (w.heap.size + 1) [.bool (b 0).e, .int .u64 (b 0).f, .int .u64 (b 0).l, .bool (b 1).e, .int .u64 (b 1).f, .int .u64 (b 1).l, .bool (b 2).e, .int .u64 (b 2).f, .int .u64 (b 2).l, .bool (b 3).e, .int .u64 (b 3).f, .int .u64 (b 3).l]
  rr : RowIs W (w.heap.size + 1 + 1) [.bool false, .int .u64 0, .int .u64 0, .bool false, .int .u64 0, .int .u64 0, .bool false, .int .u64 0, .int .u64 0, .bool false, .int .u64 0, .int .u64 0]
  zo : ∀ i, W.frozen? ⟨w.heap.size, i, none⟩ = false
  zr : ∀ i, W.frozen? ⟨w.heap.size + 1 + 1, i, none⟩ = false

theorem EithI.drew {w : World} {a b : Piece} {o : List Value} {W : World} (h : EithI w a b o W) : EithI w a b o W.drew := ⟨h.fr.drew, h.sz, h.ro, h.rb, h.rr, h.zo, h.zr⟩

theorem EithI.set {w : World} {a b : Piece} {o : List Value} {W : World} (h : EithI w a b o W) (k : Nat) (hk : k < o.length) (v : Value) :
    EithI w a b (o.set k v) (W.setCell ⟨w.heap.size, k, none⟩ v) :=
  ⟨h.fr.setCell (p := ⟨w.heap.size, k, none⟩) (.inr (by simp)) _, by simpa [World.setCell] using h.sz, h.ro.set k hk v, fun i => (setCell_far (by omega)).trans (h.rb i), fun i => (setCell_far (by omega)).trans (h.rr i),
    fun i => (World.frozen?_setCell _ _ _ _).trans (h.zo i), fun i => (World.frozen?_setCell _ _ _ _).trans (h.zr i)⟩

set_option maxRecDepth 100000 in
set_option maxHeartbeats 4000000 in
theorem either_any (a b : Piece) (ha : a.ok) (hb : b.ok) (w : World) : Calls Tryz.prog 125 #[pv a, pv b] w fun e w' => e = .returned (pv (eitherF a b)) ∧ Fr [] w w' := by
  have hm : Tryz.prog.follows Departure.mixedOrders = true := by kernel_rfl
  have o0 := bits_or_u64_nat (a 0).f (b 0).f (ha 0).1 (hb 0).1
  have o1 := bits_or_u64_nat (a 0).l (b 0).l (ha 0).2 (hb 0).2
  have o2 := bits_or_u64_nat (a 1).f (b 1).f (ha 1).1 (hb 1).1
  have o3 := bits_or_u64_nat (a 1).l (b 1).l (ha 1).2 (hb 1).2
  have o4 := bits_or_u64_nat (a 2).f (b 2).f (ha 2).1 (hb 2).1
  have o5 := bits_or_u64_nat (a 2).l (b 2).l (ha 2).2 (hb 2).2
  have o6 := bits_or_u64_nat (a 3).f (b 3).f (ha 3).1 (hb 3).1
  have o7 := bits_or_u64_nat (a 3).l (b 3).l (ha 3).2 (hb 3).2
  obtain ⟨W0, hW0⟩ : ∃ W0, ((w.alloc (Obj.cells #[.bool (a 0).e, .int .u64 (a 0).f, .int .u64 (a 0).l, .bool (a 1).e, .int .u64 (a 1).f, .int .u64 (a 1).l, .bool (a 2).e, .int .u64 (a 2).f, .int .u64 (a 2).l, .bool (a 3).e, .int .u64 (a 3).f, .int .u64 (a 3).l] 174)).alloc (Obj.cells #[.bool (b 0).e, .int .u64 (b 0).f, .int .u64 (b 0).l, .bool (b 1).e, .int .u64 (b 1).f, .int .u64 (b 1).l, .bool (b 2).e, .int .u64 (b 2).f, .int .u64 (b 2).l, .bool (b 3).e, .int .u64 (b 3).f, .int .u64 (b 3).l] 174)).alloc (Obj.cells #[.bool false, .int .u64 0, .int .u64 0, .bool false, .int .u64 0, .int .u64 0, .bool false, .int .u64 0, .int .u64 0, .bool false, .int .u64 0, .int .u64 0] 174) = W0 := ⟨_, rfl⟩
  have J0 : EithI w a b (mixL a b 0) W0 := by
    rw [← hW0]
    refine ⟨(((Fr.refl [] _).alloc _).alloc _).alloc _, by simp, ?_, ?_, ?_, ?_, ?_⟩
    · exact ((rowIs_new w [.bool (a 0).e, .int .u64 (a 0).f, .int .u64 (a 0).l, .bool (a 1).e, .int .u64 (a 1).f, .int .u64 (a 1).l, .bool (a 2).e, .int .u64 (a 2).f, .int .u64 (a 2).l, .bool (a 3).e, .int .u64 (a 3).f, .int .u64 (a 3).l] 174).fr (((Fr.refl [] _).alloc _).alloc _) (by simp) (by simp))
    · have := (rowIs_new (w.alloc (Obj.cells #[.bool (a 0).e, .int .u64 (a 0).f, .int .u64 (a 0).l, .bool (a 1).e, .int .u64 (a 1).f, .int .u64 (a 1).l, .bool (a 2).e, .int .u64 (a 2).f, .int .u64 (a 2).l, .bool (a 3).e, .int .u64 (a 3).f, .int .u64 (a 3).l] 174)) [.bool (b 0).e, .int .u64 (b 0).f, .int .u64 (b 0).l, .bool (b 1).e, .int .u64 (b 1).f, .int .u64 (b 1).l, .bool (b 2).e, .int .u64 (b 2).f, .int .u64 (b 2).l, .bool (b 3).e, .int .u64 (b 3).f, .int .u64 (b 3).l] 174).fr ((Fr.refl [] _).alloc (Obj.cells #[.bool false, .int .u64 0, .int .u64 0, .bool false, .int .u64 0, .int .u64 0, .bool false, .int .u64 0, .int .u64 0, .bool false, .int .u64 0, .int .u64 0] 174)) (by simp) (by simp)
      rwa [World.size_alloc] at this
    · have := (rowIs_new ((w.alloc (Obj.cells #[.bool (a 0).e, .int .u64 (a 0).f, .int .u64 (a 0).l, .bool (a 1).e, .int .u64 (a 1).f, .int .u64 (a 1).l, .bool (a 2).e, .int .u64 (a 2).f, .int .u64 (a 2).l, .bool (a 3).e, .int .u64 (a 3).f, .int .u64 (a 3).l] 174)).alloc (Obj.cells #[.bool (b 0).e, .int .u64 (b 0).f, .int .u64 (b 0).l, .bool (b 1).e, .int .u64 (b 1).f, .int .u64 (b 1).l, .bool (b 2).e, .int .u64 (b 2).f, .int .u64 (b 2).l, .bool (b 3).e, .int .u64 (b 3).f, .int .u64 (b 3).l] 174)) [.bool false, .int .u64 0, .int .u64 0, .bool false, .int .u64 0, .int .u64 0, .bool false, .int .u64 0, .int .u64 0, .bool false, .int .u64 0, .int .u64 0] 174)
      rwa [World.size_alloc, World.size_alloc] at this
    · intro i
      have := frozen_all_new w [.bool (a 0).e, .int .u64 (a 0).f, .int .u64 (a 0).l, .bool (a 1).e, .int .u64 (a 1).f, .int .u64 (a 1).l, .bool (a 2).e, .int .u64 (a 2).f, .int .u64 (a 2).l, .bool (a 3).e, .int .u64 (a 3).f, .int .u64 (a 3).l] 174 i
      exact (World.frozen?_alloc_past _ _ _ (by simp; omega)).trans ((World.frozen?_alloc_past _ _ _ (by simp)).trans this)
    · intro i
      have := frozen_all_new ((w.alloc (Obj.cells #[.bool (a 0).e, .int .u64 (a 0).f, .int .u64 (a 0).l, .bool (a 1).e, .int .u64 (a 1).f, .int .u64 (a 1).l, .bool (a 2).e, .int .u64 (a 2).f, .int .u64 (a 2).l, .bool (a 3).e, .int .u64 (a 3).f, .int .u64 (a 3).l] 174)).alloc (Obj.cells #[.bool (b 0).e, .int .u64 (b 0).f, .int .u64 (b 0).l, .bool (b 1).e, .int .u64 (b 1).f, .int .u64 (b 1).l, .bool (b 2).e, .int .u64 (b 2).f, .int .u64 (b 2).l, .bool (b 3).e, .int .u64 (b 3).f, .int .u64 (b 3).l] 174)) [.bool false, .int .u64 0, .int .u64 0, .bool false, .int .u64 0, .int .u64 0, .bool false, .int .u64 0, .int .u64 0, .bool false, .int .u64 0, .int .u64 0] 174 i
      rwa [World.size_alloc, World.size_alloc] at this
  unfold pv
  go_enter Tryz.func125, Tryz.ntmps125
  go_wp2
  clear hW0
  go_loopw [5, 6] (fun _ i wr => ∃ k : Nat, k ≤ 4 ∧ i = .int .i64 k ∧ EithI w a b (mixL a b k) wr) (fun _ i _ => 4 - (intOf i).toNat)
  case atStart => exact ⟨0, by decide, rfl, J0⟩
  case round =>
    obtain ⟨k, hk, rfl, J⟩ := hrel
    obtain rfl | rfl | rfl | rfl | rfl : k = 0 ∨ k = 1 ∨ k = 2 ∨ k = 3 ∨ k = 4 := by omega
    · have c0 : wr.cell? ⟨w.heap.size, 0, none⟩ = some (.bool (a 0).e) := J.ro 0
      have c1 : wr.cell? ⟨w.heap.size, 1, none⟩ = some (.int .u64 (a 0).f) := J.ro 1
      have c2 : wr.cell? ⟨w.heap.size, 2, none⟩ = some (.int .u64 (a 0).l) := J.ro 2
      have c3 : wr.cell? ⟨w.heap.size + 1, 0, none⟩ = some (.bool (b 0).e) := J.rb 0
      have c4 : wr.cell? ⟨w.heap.size + 1, 1, none⟩ = some (.int .u64 (b 0).f) := J.rb 1
      have c5 : wr.cell? ⟨w.heap.size + 1, 2, none⟩ = some (.int .u64 (b 0).l) := J.rb 2
      have z0 := J.zo 0
      have z1 := J.zo 1
      have z2 := J.zo 2
      have hset : ∀ x : Bool, x = ((a 0).e || (b 0).e) → (((mixL a b 0).set 0 (.bool x)).set 1 (.int .u64 ((a 0).f ||| (b 0).f : Nat))).set 2 (.int .u64 ((a 0).l ||| (b 0).l : Nat)) = mixL a b 1 := by
        rintro x rfl; rfl
      cases he : (a 0).e
      all_goals
        rw [he] at c0
        go_wp2
        refine wp_region_tail 11 hm (by kernel_rfl) ?_
        simp only [List.take_succ_cons, List.take_zero, List.drop_succ_cons, List.drop_zero]
        repeat still_step
        refine wpStill_nil ?_
        go_wp2
        refine wp_region_tail 11 hm (by kernel_rfl) ?_
        simp only [List.take_succ_cons, List.take_zero, List.drop_succ_cons, List.drop_zero]
        repeat still_step
        refine wpStill_nil ?_
        go_wp2
        refine ⟨⟨1, by decide, rfl, ?_⟩, by decide⟩
        have JJ := fun (x : Bool) (hx : x = ((a 0).e || (b 0).e)) => (hset x hx) ▸ (((J.set 0 (by simp [mixL]) (.bool x)).set 1 (by simp [mixL]) (.int .u64 ((a 0).f ||| (b 0).f : Nat))).set 2 (by simp [mixL]) (.int .u64 ((a 0).l ||| (b 0).l : Nat))).drew.drew
        exact JJ _ (by rw [he]; rfl)
    · have c0 : wr.cell? ⟨w.heap.size, 3, none⟩ = some (.bool (a 1).e) := J.ro 3
      have c1 : wr.cell? ⟨w.heap.size, 4, none⟩ = some (.int .u64 (a 1).f) := J.ro 4
      have c2 : wr.cell? ⟨w.heap.size, 5, none⟩ = some (.int .u64 (a 1).l) := J.ro 5
      have c3 : wr.cell? ⟨w.heap.size + 1, 3, none⟩ = some (.bool (b 1).e) := J.rb 3
      have c4 : wr.cell? ⟨w.heap.size + 1, 4, none⟩ = some (.int .u64 (b 1).f) := J.rb 4
      have c5 : wr.cell? ⟨w.heap.size + 1, 5, none⟩ = some (.int .u64 (b 1).l) := J.rb 5
      have z0 := J.zo 3
      have z1 := J.zo 4
      have z2 := J.zo 5
      have hset : ∀ x : Bool, x = ((a 1).e || (b 1).e) → (((mixL a b 1).set 3 (.bool x)).set 4 (.int .u64 ((a 1).f ||| (b 1).f : Nat))).set 5 (.int .u64 ((a 1).l ||| (b 1).l : Nat)) = mixL a b 2 := by
        rintro x rfl; rfl
      cases he : (a 1).e
      all_goals
        rw [he] at c0
        go_wp2
        refine wp_region_tail 11 hm (by kernel_rfl) ?_
        simp only [List.take_succ_cons, List.take_zero, List.drop_succ_cons, List.drop_zero]
        repeat still_step
        refine wpStill_nil ?_
        go_wp2
        refine wp_region_tail 11 hm (by kernel_rfl) ?_
        simp only [List.take_succ_cons, List.take_zero, List.drop_succ_cons, List.drop_zero]
        repeat still_step
        refine wpStill_nil ?_
        go_wp2
        refine ⟨⟨2, by decide, rfl, ?_⟩, by decide⟩
        have JJ := fun (x : Bool) (hx : x = ((a 1).e || (b 1).e)) => (hset x hx) ▸ (((J.set 3 (by simp [mixL]) (.bool x)).set 4 (by simp [mixL]) (.int .u64 ((a 1).f ||| (b 1).f : Nat))).set 5 (by simp [mixL]) (.int .u64 ((a 1).l ||| (b 1).l : Nat))).drew.drew
        exact JJ _ (by rw [he]; rfl)
    · have c0 : wr.cell? ⟨w.heap.size, 6, none⟩ = some (.bool (a 2).e) := J.ro 6
      have c1 : wr.cell? ⟨w.heap.size, 7, none⟩ = some (.int .u64 (a 2).f) := J.ro 7
      have c2 : wr.cell? ⟨w.heap.size, 8, none⟩ = some (.int .u64 (a 2).l) := J.ro 8
      have c3 : wr.cell? ⟨w.heap.size + 1, 6, none⟩ = some (.bool (b 2).e) := J.rb 6
      have c4 : wr.cell? ⟨w.heap.size + 1, 7, none⟩ = some (.int .u64 (b 2).f) := J.rb 7
      have c5 : wr.cell? ⟨w.heap.size + 1, 8, none⟩ = some (.int .u64 (b 2).l) := J.rb 8
      have z0 := J.zo 6
      have z1 := J.zo 7
      have z2 := J.zo 8
      have hset : ∀ x : Bool, x = ((a 2).e || (b 2).e) → (((mixL a b 2).set 6 (.bool x)).set 7 (.int .u64 ((a 2).f ||| (b 2).f : Nat))).set 8 (.int .u64 ((a 2).l ||| (b 2).l : Nat)) = mixL a b 3 := by
        rintro x rfl; rfl
      cases he : (a 2).e
      all_goals
        rw [he] at c0
        go_wp2
        refine wp_region_tail 11 hm (by kernel_rfl) ?_
        simp only [List.take_succ_cons, List.take_zero, List.drop_succ_cons, List.drop_zero]
        repeat still_step
        refine wpStill_nil ?_
        go_wp2
        refine wp_region_tail 11 hm (by kernel_rfl) ?_
        simp only [List.take_succ_cons, List.take_zero, List.drop_succ_cons, List.drop_zero]
        repeat still_step
        refine wpStill_nil ?_
        go_wp2
        refine ⟨⟨3, by decide, rfl, ?_⟩, by decide⟩
        have JJ := fun (x : Bool) (hx : x = ((a 2).e || (b 2).e)) => (hset x hx) ▸ (((J.set 6 (by simp [mixL]) (.bool x)).set 7 (by simp [mixL]) (.int .u64 ((a 2).f ||| (b 2).f : Nat))).set 8 (by simp [mixL]) (.int .u64 ((a 2).l ||| (b 2).l : Nat))).drew.drew
        exact JJ _ (by rw [he]; rfl)
    · have c0 : wr.cell? ⟨w.heap.size, 9, none⟩ = some (.bool (a 3).e) := J.ro 9
      have c1 : wr.cell? ⟨w.heap.size, 10, none⟩ = some (.int .u64 (a 3).f) := J.ro 10
      have c2 : wr.cell? ⟨w.heap.size, 11, none⟩ = some (.int .u64 (a 3).l) := J.ro 11
      have c3 : wr.cell? ⟨w.heap.size + 1, 9, none⟩ = some (.bool (b 3).e) := J.rb 9
      have c4 : wr.cell? ⟨w.heap.size + 1, 10, none⟩ = some (.int .u64 (b 3).f) := J.rb 10
      have c5 : wr.cell? ⟨w.heap.size + 1, 11, none⟩ = some (.int .u64 (b 3).l) := J.rb 11
      have z0 := J.zo 9
      have z1 := J.zo 10
      have z2 := J.zo 11
      have hset : ∀ x : Bool, x = ((a 3).e || (b 3).e) → (((mixL a b 3).set 9 (.bool x)).set 10 (.int .u64 ((a 3).f ||| (b 3).f : Nat))).set 11 (.int .u64 ((a 3).l ||| (b 3).l : Nat)) = mixL a b 4 := by
        rintro x rfl; rfl
      cases he : (a 3).e
      all_goals
        rw [he] at c0
        go_wp2
        refine wp_region_tail 11 hm (by kernel_rfl) ?_
        simp only [List.take_succ_cons, List.take_zero, List.drop_succ_cons, List.drop_zero]
        repeat still_step
        refine wpStill_nil ?_
        go_wp2
        refine wp_region_tail 11 hm (by kernel_rfl) ?_
        simp only [List.take_succ_cons, List.take_zero, List.drop_succ_cons, List.drop_zero]
        repeat still_step
        refine wpStill_nil ?_
        go_wp2
        refine ⟨⟨4, by decide, rfl, ?_⟩, by decide⟩
        have JJ := fun (x : Bool) (hx : x = ((a 3).e || (b 3).e)) => (hset x hx) ▸ (((J.set 9 (by simp [mixL]) (.bool x)).set 10 (by simp [mixL]) (.int .u64 ((a 3).f ||| (b 3).f : Nat))).set 11 (by simp [mixL]) (.int .u64 ((a 3).l ||| (b 3).l : Nat))).drew.drew
        exact JJ _ (by rw [he]; rfl)
    · have x0 : wr.cell? ⟨w.heap.size, 0, none⟩ = some (.bool ((a 0).e || (b 0).e)) := J.ro 0
      have y0 : wr.cell? ⟨w.heap.size + 1 + 1, 0, none⟩ = some (.bool false) := J.rr 0
      have z0 := J.zr 0
      have x1 : wr.cell? ⟨w.heap.size, 1, none⟩ = some (.int .u64 ((a 0).f ||| (b 0).f : Nat)) := J.ro 1
      have y1 : wr.cell? ⟨w.heap.size + 1 + 1, 1, none⟩ = some (.int .u64 0) := J.rr 1
      have z1 := J.zr 1
      have x2 : wr.cell? ⟨w.heap.size, 2, none⟩ = some (.int .u64 ((a 0).l ||| (b 0).l : Nat)) := J.ro 2
      have y2 : wr.cell? ⟨w.heap.size + 1 + 1, 2, none⟩ = some (.int .u64 0) := J.rr 2
      have z2 := J.zr 2
      have x3 : wr.cell? ⟨w.heap.size, 3, none⟩ = some (.bool ((a 1).e || (b 1).e)) := J.ro 3
      have y3 : wr.cell? ⟨w.heap.size + 1 + 1, 3, none⟩ = some (.bool false) := J.rr 3
      have z3 := J.zr 3
      have x4 : wr.cell? ⟨w.heap.size, 4, none⟩ = some (.int .u64 ((a 1).f ||| (b 1).f : Nat)) := J.ro 4
      have y4 : wr.cell? ⟨w.heap.size + 1 + 1, 4, none⟩ = some (.int .u64 0) := J.rr 4
      have z4 := J.zr 4
      have x5 : wr.cell? ⟨w.heap.size, 5, none⟩ = some (.int .u64 ((a 1).l ||| (b 1).l : Nat)) := J.ro 5
      have y5 : wr.cell? ⟨w.heap.size + 1 + 1, 5, none⟩ = some (.int .u64 0) := J.rr 5
      have z5 := J.zr 5
      have x6 : wr.cell? ⟨w.heap.size, 6, none⟩ = some (.bool ((a 2).e || (b 2).e)) := J.ro 6
      have y6 : wr.cell? ⟨w.heap.size + 1 + 1, 6, none⟩ = some (.bool false) := J.rr 6
      have z6 := J.zr 6
      have x7 : wr.cell? ⟨w.heap.size, 7, none⟩ = some (.int .u64 ((a 2).f ||| (b 2).f : Nat)) := J.ro 7
      have y7 : wr.cell? ⟨w.heap.size + 1 + 1, 7, none⟩ = some (.int .u64 0) := J.rr 7
      have z7 := J.zr 7
      have x8 : wr.cell? ⟨w.heap.size, 8, none⟩ = some (.int .u64 ((a 2).l ||| (b 2).l : Nat)) := J.ro 8
      have y8 : wr.cell? ⟨w.heap.size + 1 + 1, 8, none⟩ = some (.int .u64 0) := J.rr 8
      have z8 := J.zr 8
      have x9 : wr.cell? ⟨w.heap.size, 9, none⟩ = some (.bool ((a 3).e || (b 3).e)) := J.ro 9
      have y9 : wr.cell? ⟨w.heap.size + 1 + 1, 9, none⟩ = some (.bool false) := J.rr 9
      have z9 := J.zr 9
      have x10 : wr.cell? ⟨w.heap.size, 10, none⟩ = some (.int .u64 ((a 3).f ||| (b 3).f : Nat)) := J.ro 10
      have y10 : wr.cell? ⟨w.heap.size + 1 + 1, 10, none⟩ = some (.int .u64 0) := J.rr 10
      have z10 := J.zr 10
      have x11 : wr.cell? ⟨w.heap.size, 11, none⟩ = some (.int .u64 ((a 3).l ||| (b 3).l : Nat)) := J.ro 11
      have y11 : wr.cell? ⟨w.heap.size + 1 + 1, 11, none⟩ = some (.int .u64 0) := J.rr 11
      have z11 := J.zr 11
      go_wp2
      refine bodyPost_ret (v := pv (eitherF a b)) (by simp [results, Tryz.results125, go_sem, pv, eitherF, x0, x1, x2, x3, x4, x5, x6, x7, x8, x9, x10, x11, y0, y1, y2, y3, y4, y5, y6, y7, y8, y9, y10, y11]) rfl ⟨rfl, ?_⟩
      have hfr := far_sets wr (w.heap.size + 1 + 1) (.bool ((a 0).e || (b 0).e)) (.int .u64 ((a 0).f ||| (b 0).f : Nat)) (.int .u64 ((a 0).l ||| (b 0).l : Nat)) (.bool ((a 1).e || (b 1).e)) (.int .u64 ((a 1).f ||| (b 1).f : Nat)) (.int .u64 ((a 1).l ||| (b 1).l : Nat)) (.bool ((a 2).e || (b 2).e)) (.int .u64 ((a 2).f ||| (b 2).f : Nat)) (.int .u64 ((a 2).l ||| (b 2).l : Nat)) (.bool ((a 3).e || (b 3).e)) (.int .u64 ((a 3).f ||| (b 3).f : Nat)) (.int .u64 ((a 3).l ||| (b 3).l : Nat))
      exact J.fr.trans' hfr (by simp; omega)

end Go.Proofs.YtakbfoegkjaphaaGreatDoor

namespace Go.Proofs.YtakbfoegkjaphaaGreatDoor
open Go.RowKit

/-- The reader at work: its own cells, the pattern's. -/
structure M (w : World) (r pb : Nat) (t : ByteArray) (wh : Nat → Value) (s : St) : Prop where
  rd : RdAt w r t s.pos s.fault s.atoms pb
  pat : PatAt w pb wh s.tk s.fo
  tab : Tab w
  n1 : r ≠ pb
  n2 : r ≠ 6
  n3 : pb ≠ 6

theorem RdAt.of_block {w w' : World} {r : Nat} {t : ByteArray} {p : Int} {f : Bool} {a : Int} {pb : Nat} (h : RdAt w r t p f a pb) (hb : w'.heap[r]? = w.heap[r]?) : RdAt w' r t p f a pb :=
  ⟨(World.cell?_of_block (w := w) (a := ⟨r, 0, none⟩) hb).trans h.c0, (World.cell?_of_block (w := w) (a := ⟨r, 1, none⟩) hb).trans h.c1, (World.cell?_of_block (w := w) (a := ⟨r, 2, none⟩) hb).trans h.c2,
   (World.cell?_of_block (w := w) (a := ⟨r, 3, none⟩) hb).trans h.c3, (World.cell?_of_block (w := w) (a := ⟨r, 4, none⟩) hb).trans h.c4, (World.frozen?_of_block (w := w) (a := ⟨r, 1, none⟩) hb).trans h.f1,
   (World.frozen?_of_block (w := w) (a := ⟨r, 2, none⟩) hb).trans h.f2, (World.frozen?_of_block (w := w) (a := ⟨r, 3, none⟩) hb).trans h.f3⟩

theorem M.rlt {w : World} {r pb : Nat} {t : ByteArray} {wh : Nat → Value} {s : St} (h : M w r pb t wh s) : r < w.heap.size := lt_of_cell (a := ⟨r, 0, none⟩) h.rd.c0
theorem M.fr {S : List Nat} {w w' : World} {r pb : Nat} {t : ByteArray} {wh : Nat → Value} {s : St} (h : M w r pb t wh s) (hf : Fr S w w') (h1 : r ∉ S) (h2 : pb ∉ S) (h3 : 6 ∉ S) : M w' r pb t wh s :=
  ⟨h.rd.of_block (hf.block r h.rlt h1), h.pat.fr hf h2, h.tab.fr hf h3, h.n1, h.n2, h.n3⟩
theorem M.heap {w w' : World} {r pb : Nat} {t : ByteArray} {wh : Nat → Value} {s : St} (h : M w r pb t wh s) (hh : w'.heap = w.heap) : M w' r pb t wh s :=
  ⟨h.rd.of_block (by rw [hh]), h.pat.of_block (by rw [hh]), h.tab.of_block (by rw [hh]), h.n1, h.n2, h.n3⟩

/-- The place moves on. -/
theorem M.adv {w : World} {r pb : Nat} {t : ByteArray} {wh : Nat → Value} {s : St} (h : M w r pb t wh s) : M (w.setCell ⟨r, 1, none⟩ (.int .i64 ((s.pos : Int) + 1))) r pb t wh (advF s) := by
  have hb : ∀ c, c ≠ r → (w.setCell ⟨r, 1, none⟩ (.int .i64 ((s.pos : Int) + 1))).heap[c]? = w.heap[c]? := fun c hc => Below.heap_setCell w ⟨r, 1, none⟩ _ c hc
  exact ⟨⟨(setCell_off (by decide)).trans h.rd.c0, World.cell?_setCell_same' _ _ _ (by rw [h.rd.c1]; rfl), (setCell_off (by decide)).trans h.rd.c2, (setCell_off (by decide)).trans h.rd.c3, (setCell_off (by decide)).trans h.rd.c4,
    (World.frozen?_setCell _ _ _ _).trans h.rd.f1, (World.frozen?_setCell _ _ _ _).trans h.rd.f2, (World.frozen?_setCell _ _ _ _).trans h.rd.f3⟩, h.pat.of_block (hb _ (fun e => h.n1 e.symm)), h.tab.of_block (hb _ (fun e => h.n2 e.symm)), h.n1, h.n2, h.n3⟩
theorem M.fail {w : World} {r pb : Nat} {t : ByteArray} {wh : Nat → Value} {s : St} (h : M w r pb t wh s) : M (w.setCell ⟨r, 2, none⟩ (.bool true)) r pb t wh (failF s) := by
  have hb : ∀ c, c ≠ r → (w.setCell ⟨r, 2, none⟩ (.bool true)).heap[c]? = w.heap[c]? := fun c hc => Below.heap_setCell w ⟨r, 2, none⟩ _ c hc
  exact ⟨⟨(setCell_off (by decide)).trans h.rd.c0, (setCell_off (by decide)).trans h.rd.c1, World.cell?_setCell_same' _ _ _ (by rw [h.rd.c2]; rfl), (setCell_off (by decide)).trans h.rd.c3, (setCell_off (by decide)).trans h.rd.c4,
    (World.frozen?_setCell _ _ _ _).trans h.rd.f1, (World.frozen?_setCell _ _ _ _).trans h.rd.f2, (World.frozen?_setCell _ _ _ _).trans h.rd.f3⟩, h.pat.of_block (hb _ (fun e => h.n1 e.symm)), h.tab.of_block (hb _ (fun e => h.n2 e.symm)), h.n1, h.n2, h.n3⟩

variable {w : World} {r pb : Nat} {t : ByteArray} {wh : Nat → Value} {s : St}

theorem peek_any (h : M w r pb t wh s) (hs : t.size ≤ 50) : Calls Tryz.prog 184 #[.pointer (some ⟨r, 0, none⟩)] w fun e w' => e = .returned (.int .i64 (peekF t s)) ∧ ∃ n, w' = w.drewN n := by
  have h1 := h.rd
  unfold peekF byteAt
  cases hf : s.fault
  · rw [hf] at h1
    by_cases hk : s.pos < t.size
    · rw [if_neg (by decide), dif_pos hk]
      exact peek_byte r t s.pos s.atoms pb w h1 (by omega) hk
    · rw [if_neg (by decide), dif_neg hk]
      exact peek_end r t s.pos s.atoms pb w h1 (by omega) (by omega)
  · rw [hf] at h1
    rw [if_pos rfl]
    exact peek_fault r t s.pos s.atoms pb w h1

set_option maxHeartbeats 400000 in
theorem skip_any (b : Int) (h : M w r pb t wh s) (hs : t.size ≤ 50) (hp : s.pos ≤ 1000) : Calls Tryz.prog 124 #[.pointer (some ⟨r, 0, none⟩), .int .i64 b] w fun e w' =>
    e = .returned (.bool (skipF t s b).1) ∧ M w' r pb t wh (skipF t s b).2 ∧ Fr [r] w w' := by
  have c1 := h.rd.c1
  have f1 := h.rd.f1
  unfold skipF
  by_cases hb : peekF t s = b
  · have hne : (peekF t s != b) = false := by simp [hb]
    rw [if_pos hb]
    go_enter Tryz.func124, Tryz.ntmps124
    go_wp2_with (go_at_call 184; refine (peek_any h hs).mono ?_; rintro e w' ⟨rfl, n, rfl⟩)
    go_ret
    exact ⟨rfl, h.adv.heap rfl, ((Fr.refl [r] w).setCell (p := ⟨r, 1, none⟩) (.inl (by simp)) _).drewN n⟩
  · have hne : (peekF t s != b) = true := by simp [hb]
    rw [if_neg hb]
    go_enter Tryz.func124, Tryz.ntmps124
    go_wp2_with (go_at_call 184; refine (peek_any h hs).mono ?_; rintro e w' ⟨rfl, n, rfl⟩)
    go_ret
    exact ⟨rfl, h.heap rfl, (Fr.refl [r] w).drewN n⟩

end Go.Proofs.YtakbfoegkjaphaaGreatDoor

namespace Go.Proofs.YtakbfoegkjaphaaGreatDoor
open Go.RowKit

variable {w : World} {r pb : Nat} {t : ByteArray} {wh : Nat → Value} {s : St}

theorem failM_any (h : M w r pb t wh s) : Calls Tryz.prog 249 #[.pointer (some ⟨r, 0, none⟩)] w fun e w' => e = .returned (.tuple #[]) ∧ M w' r pb t wh (failF s) ∧ Fr [r] w w' := by
  refine (fail_any r t s.pos s.fault s.atoms pb w h.rd).mono ?_
  rintro e w' ⟨rfl, rfl⟩
  exact ⟨rfl, h.fail, (Fr.refl [r] w).setCell (p := ⟨r, 2, none⟩) (.inl (by simp)) _⟩

set_option maxHeartbeats 400000 in
theorem need_any (b : Int) (h : M w r pb t wh s) (hs : t.size ≤ 50) (hp : s.pos ≤ 1000) : Calls Tryz.prog 239 #[.pointer (some ⟨r, 0, none⟩), .int .i64 b] w fun e w' =>
    e = .returned (.tuple #[]) ∧ M w' r pb t wh (needF t s b) ∧ Fr [r] w w' := by
  have hk := skip_any b h hs hp
  unfold needF
  unfold skipF at hk
  by_cases hb : peekF t s = b
  · rw [if_pos hb] at hk ⊢
    go_enter Tryz.func239, Tryz.ntmps239
    go_wp2_with fail
    refine hk.mono ?_
    rintro e w1 ⟨rfl, h1, f1⟩
    go_wp2
    go_end0
    exact ⟨rfl, h1, f1⟩
  · rw [if_neg hb] at hk ⊢
    go_enter Tryz.func239, Tryz.ntmps239
    go_wp2_with fail
    refine hk.mono ?_
    rintro e w1 ⟨rfl, h1, f1⟩
    go_wp2_with fail
    refine (failM_any h1).mono ?_
    rintro e w2 ⟨rfl, h2, f2⟩
    go_wp2
    go_end0
    exact ⟨rfl, h2, f1.trans f2⟩

theorem skip_pos (b : Int) : s.pos ≤ (skipF t s b).2.pos ∧ (skipF t s b).2.pos ≤ s.pos + 1 := by
  unfold skipF; split <;> simp [advF]

set_option maxHeartbeats 400000 in
theorem plain_any (h : M w r pb t wh s) (hs : t.size ≤ 50) (hp : s.pos ≤ 900) : Calls Tryz.prog 243 #[.pointer (some ⟨r, 0, none⟩)] w fun e w' =>
    e = .returned (.int .i64 (plainF t s).1) ∧ M w' r pb t wh (plainF t s).2 ∧ Fr [r] w w' := by
  have hsp := skip_pos (t := t) (s := s) 92
  have hk := skip_any 92 h hs (by omega)
  unfold plainF
  generalize (skipF t s 92).1 = b1 at *
  generalize (skipF t s 92).2 = s1 at *
  by_cases hb : peekF t s1 = -1
  · have he : (peekF t s1 == -1) = true := by simp [hb]
    rw [if_pos hb]
    clear hb
    go_enter Tryz.func243, Tryz.ntmps243
    go_wp2_with fail
    refine hk.mono ?_
    rintro e w1 ⟨rfl, h1, f1⟩
    go_wp2_with fail
    refine (peek_any h1 hs).mono ?_
    rintro e w2 ⟨rfl, n, rfl⟩
    go_wp2_with fail
    refine (failM_any (h1.heap (w' := w1.drewN n) rfl)).mono ?_
    rintro e w2 ⟨rfl, h2, f2⟩
    go_wp2
    go_ret
    exact ⟨rfl, h2, f1.trans ((f1.drewN n).trans f2 |> fun _ => (((Fr.refl [r] w1).drewN n).trans f2))⟩
  · have he : (peekF t s1 == -1) = false := by simpa using hb
    rw [if_neg hb]
    clear hb
    go_enter Tryz.func243, Tryz.ntmps243
    go_wp2_with fail
    refine hk.mono ?_
    rintro e w1 ⟨rfl, h1, f1⟩
    have c1 := h1.rd.c1
    have z1 := h1.rd.f1
    go_wp2_with fail
    refine (peek_any h1 hs).mono ?_
    rintro e w2 ⟨rfl, n, rfl⟩
    go_wp2
    go_ret
    exact ⟨rfl, h1.adv.heap rfl, (f1.setCell (p := ⟨r, 1, none⟩) (.inl (by simp)) _).drewN n⟩

set_option maxHeartbeats 400000 in
theorem closes_any (k : Nat) (h : M w r pb t wh s) (hs : t.size ≤ 50) (hk : k ≤ 1000) : Calls Tryz.prog 256 #[.pointer (some ⟨r, 0, none⟩), .int .i64 k] w fun e w' =>
    e = .returned (.bool (closesF t k)) ∧ w' = w := by
  have c0 := h.rd.c0
  unfold closesF byteAt
  by_cases hlt : k < t.size
  · have hd : decide ((k : Int) < (t.size : Int)) = true := by simp; omega
    have hl : (k : Int) < t.size := by omega
    rw [dif_pos hlt]
    go_enter Tryz.func256, Tryz.ntmps256
    go_wp2
    go_ret
    refine ⟨congrArg (fun x => Ending.returned (Value.bool x)) ?_, rfl⟩
    rw [Bool.eq_iff_iff]; simp
  · have hd : decide ((k : Int) < (t.size : Int)) = false := by simp; omega
    rw [dif_neg hlt]
    go_enter Tryz.func256, Tryz.ntmps256
    go_wp2
    go_ret
    exact ⟨rfl, rfl⟩

set_option maxHeartbeats 400000 in
theorem bound_any (least : Int) (h : M w r pb t wh s) (hs : t.size ≤ 50) (hp : s.pos ≤ 900) : Calls Tryz.prog 255 #[.pointer (some ⟨r, 0, none⟩), .int .i64 least] w fun e w' =>
    e = .returned (.int .i64 (boundF t s least).1) ∧ M w' r pb t wh (boundF t s least).2 ∧ Fr [r] w w' := by
  unfold boundF
  by_cases h93 : peekF t s = 93
  · have he : (peekF t s == 93) = true := by simp [h93]
    have hpk := peek_any h hs
    rw [if_pos h93]
    clear h93
    go_enter Tryz.func255, Tryz.ntmps255
    go_wp2_with fail
    refine hpk.mono ?_
    rintro e w1 ⟨rfl, n, rfl⟩
    go_wp2_with fail
    refine (failM_any (h.heap (w' := w.drewN n) rfl)).mono ?_
    rintro e w2 ⟨rfl, h2, f2⟩
    go_wp2
    go_ret
    exact ⟨rfl, h2, ((Fr.refl [r] w).drewN n).trans f2⟩
  · have he0 : (peekF t s == 93) = false := by simpa using h93
    have hpk := peek_any h hs
    rw [if_neg h93]
    clear h93
    have hsp := skip_pos (t := t) (s := s) 92
    have hk := fun (W : World) (hW : M W r pb t wh s) => skip_any 92 hW hs (by omega)
    generalize (skipF t s 92).1 = b1 at *
    generalize (skipF t s 92).2 = s1 at *
    have Hk := (show Hid _ from hk)
    clear hk
    by_cases hb : peekF t s1 < least
    · rw [if_pos hb]
      go_enter Tryz.func255, Tryz.ntmps255
      go_wp2_with fail
      refine hpk.mono ?_
      rintro e w1 ⟨rfl, n, rfl⟩
      go_wp2_with fail
      refine (Hk.out _ (h.heap (w' := w.drewN n) rfl)).mono ?_
      rintro e w1 ⟨rfl, h1, f1⟩
      go_wp2_with fail
      refine (peek_any h1 hs).mono ?_
      rintro e w2 ⟨rfl, m, rfl⟩
      go_wp2_with fail
      refine (failM_any (h1.heap (w' := w1.drewN m) rfl)).mono ?_
      rintro e w2 ⟨rfl, h2, f2⟩
      go_wp2
      go_ret
      exact ⟨rfl, h2, ((((Fr.refl [r] w).drewN n).trans f1).drewN m).trans f2⟩
    · rw [if_neg hb]
      go_enter Tryz.func255, Tryz.ntmps255
      go_wp2_with fail
      refine hpk.mono ?_
      rintro e w1 ⟨rfl, n, rfl⟩
      go_wp2_with fail
      refine (Hk.out _ (h.heap (w' := w.drewN n) rfl)).mono ?_
      rintro e w1 ⟨rfl, h1, f1⟩
      have c1 := h1.rd.c1
      have z1 := h1.rd.f1
      go_wp2_with fail
      refine (peek_any h1 hs).mono ?_
      rintro e w2 ⟨rfl, m, rfl⟩
      go_wp2
      go_ret
      exact ⟨rfl, h1.adv.heap rfl, ((((Fr.refl [r] w).drewN n).trans f1).setCell (p := ⟨r, 1, none⟩) (.inl (by simp)) _).drewN m⟩

end Go.Proofs.YtakbfoegkjaphaaGreatDoor

