/-
  Either of two pieces.
-/
import Derived.Test.YticaoekmlaipnaaDoorWi
set_option linter.unusedSimpArgs false
set_option linter.unusedVariables false
namespace Go.Proofs.YticaoekmlaipnaaDoor
open Go.RowKit

def Piece.ok (q : Piece) : Prop := ∀ s, (q s).ok

/-- The cells of the result, k spots done. -/
def mixL (a b : Piece) : Nat → List Value
  | 0 => [.bool (a 0).e, .int .u64 (a 0).f, .int .u64 (a 0).l, .bool (a 1).e, .int .u64 (a 1).f, .int .u64 (a 1).l, .bool (a 2).e, .int .u64 (a 2).f, .int .u64 (a 2).l, .bool (a 3).e, .int .u64 (a 3).f, .int .u64 (a 3).l]
  | 1 => [.bool ((a 0).e || (b 0).e), .int .u64 ((a 0).f ||| (b 0).f : Nat), .int .u64 ((a 0).l ||| (b 0).l : Nat), .bool (a 1).e, .int .u64 (a 1).f, .int .u64 (a 1).l, .bool (a 2).e, .int .u64 (a 2).f, .int .u64 (a 2).l, .bool (a 3).e, .int .u64 (a 3).f, .int .u64 (a 3).l]
  | 2 => [.bool ((a 0).e || (b 0).e), .int .u64 ((a 0).f ||| (b 0).f : Nat), .int .u64 ((a 0).l ||| (b 0).l : Nat), .bool ((a 1).e || (b 1).e), .int .u64 ((a 1).f ||| (b 1).f : Nat), .int .u64 ((a 1).l ||| (b 1).l : Nat), .bool (a 2).e, .int .u64 (a 2).f, .int .u64 (a 2).l, .bool (a 3).e, .int .u64 (a 3).f, .int .u64 (a 3).l]
  | 3 => [.bool ((a 0).e || (b 0).e), .int .u64 ((a 0).f ||| (b 0).f : Nat), .int .u64 ((a 0).l ||| (b 0).l : Nat), .bool ((a 1).e || (b 1).e), .int .u64 ((a 1).f ||| (b 1).f : Nat), .int .u64 ((a 1).l ||| (b 1).l : Nat), .bool ((a 2).e || (b 2).e), .int .u64 ((a 2).f ||| (b 2).f : Nat), .int .u64 ((a 2).l ||| (b 2).l : Nat), .bool (a 3).e, .int .u64 (a 3).f, .int .u64 (a 3).l]
  | _ => [.bool ((a 0).e || (b 0).e), .int .u64 ((a 0).f ||| (b 0).f : Nat), .int .u64 ((a 0).l ||| (b 0).l : Nat), .bool ((a 1).e || (b 1).e), .int .u64 ((a 1).f ||| (b 1).f : Nat), .int .u64 ((a 1).l ||| (b 1).l : Nat), .bool ((a 2).e || (b 2).e), .int .u64 ((a 2).f ||| (b 2).f : Nat), .int .u64 ((a 2).l ||| (b 2).l : Nat), .bool ((a 3).e || (b 3).e), .int .u64 ((a 3).f ||| (b 3).f : Nat), .int .u64 ((a 3).l ||| (b 3).l : Nat)]

structure EithI (w : World) (a b : Piece) (o : List Value) (W : World) : Prop where
  fr : Fr [] w W
  sz : w.heap.size + 1 + 1 + 1 ≤ W.heap.size
  ro : RowIs W w.heap.size o
  rb : RowIs W (w.heap.size + 1) [.bool (b 0).e, .int .u64 (b 0).f, .int .u64 (b 0).l, .bool (b 1).e, .int .u64 (b 1).f, .int .u64 (b 1).l, .bool (b 2).e, .int .u64 (b 2).f, .int .u64 (b 2).l, .bool (b 3).e, .int .u64 (b 3).f, .int .u64 (b 3).l]
  rr : RowIs W (w.heap.size + 1 + 1) [.bool false, .int .u64 0, .int .u64 0, .bool false, .int .u64 0, .int .u64 0, .bool false, .int .u64 0, .int .u64 0, .bool false, .int .u64 0, .int .u64 0]
  zo : ∀ i, W.frozen? ⟨w.heap.size, i, none⟩ = false
  zr : ∀ i, W.frozen? ⟨w.heap.size + 1 + 1, i, none⟩ = false

theorem EithI.drew {w : World} {a b : Piece} {o : List Value} {W : World} (h : EithI w a b o W) : EithI w a b o W.drew := ⟨h.fr.drew, h.sz, h.ro, h.rb, h.rr, h.zo, h.zr⟩

theorem EithI.set {w : World} {a b : Piece} {o : List Value} {W : World} (h : EithI w a b o W) (k : Nat) (hk : k < o.length) (v : Value) :
    EithI w a b (o.set k v) (W.setCell ⟨w.heap.size, k, none⟩ v) :=
  ⟨h.fr.setCell (p := ⟨w.heap.size, k, none⟩) (.inr (by simp)) _, by simpa [World.setCell] using h.sz, h.ro.set k hk v, fun i => (setCell_far (by omega)).trans (h.rb i), fun i => (setCell_far (by omega)).trans (h.rr i),
    fun i => (World.frozen?_setCell _ _ _ _).trans (h.zo i), fun i => (World.frozen?_setCell _ _ _ _).trans (h.zr i)⟩

set_option maxRecDepth 100000 in
set_option maxHeartbeats 4000000 in
theorem either_any (a b : Piece) (ha : a.ok) (hb : b.ok) (w : World) : Calls Tryd.prog 54 #[pv a, pv b] w fun e w' => e = .returned (pv (eitherF a b)) ∧ Fr [] w w' := by
  have hm : Tryd.prog.follows Departure.mixedOrders = true := by kernel_rfl
  have o0 := bits_or_u64_nat (a 0).f (b 0).f (ha 0).1 (hb 0).1
  have o1 := bits_or_u64_nat (a 0).l (b 0).l (ha 0).2 (hb 0).2
  have o2 := bits_or_u64_nat (a 1).f (b 1).f (ha 1).1 (hb 1).1
  have o3 := bits_or_u64_nat (a 1).l (b 1).l (ha 1).2 (hb 1).2
  have o4 := bits_or_u64_nat (a 2).f (b 2).f (ha 2).1 (hb 2).1
  have o5 := bits_or_u64_nat (a 2).l (b 2).l (ha 2).2 (hb 2).2
  have o6 := bits_or_u64_nat (a 3).f (b 3).f (ha 3).1 (hb 3).1
  have o7 := bits_or_u64_nat (a 3).l (b 3).l (ha 3).2 (hb 3).2
  obtain ⟨W0, hW0⟩ : ∃ W0, ((w.alloc (Obj.cells #[.bool (a 0).e, .int .u64 (a 0).f, .int .u64 (a 0).l, .bool (a 1).e, .int .u64 (a 1).f, .int .u64 (a 1).l, .bool (a 2).e, .int .u64 (a 2).f, .int .u64 (a 2).l, .bool (a 3).e, .int .u64 (a 3).f, .int .u64 (a 3).l] 73)).alloc (Obj.cells #[.bool (b 0).e, .int .u64 (b 0).f, .int .u64 (b 0).l, .bool (b 1).e, .int .u64 (b 1).f, .int .u64 (b 1).l, .bool (b 2).e, .int .u64 (b 2).f, .int .u64 (b 2).l, .bool (b 3).e, .int .u64 (b 3).f, .int .u64 (b 3).l] 73)).alloc (Obj.cells #[.bool false, .int .u64 0, .int .u64 0, .bool false, .int .u64 0, .int .u64 0, .bool false, .int .u64 0, .int .u64 0, .bool false, .int .u64 0, .int .u64 0] 73) = W0 := ⟨_, rfl⟩
  have J0 : EithI w a b (mixL a b 0) W0 := by
    rw [← hW0]
    refine ⟨(((Fr.refl [] _).alloc _).alloc _).alloc _, by simp, ?_, ?_, ?_, ?_, ?_⟩
    · exact ((rowIs_new w [.bool (a 0).e, .int .u64 (a 0).f, .int .u64 (a 0).l, .bool (a 1).e, .int .u64 (a 1).f, .int .u64 (a 1).l, .bool (a 2).e, .int .u64 (a 2).f, .int .u64 (a 2).l, .bool (a 3).e, .int .u64 (a 3).f, .int .u64 (a 3).l] 73).fr (((Fr.refl [] _).alloc _).alloc _) (by simp) (by simp))
    · have := (rowIs_new (w.alloc (Obj.cells #[.bool (a 0).e, .int .u64 (a 0).f, .int .u64 (a 0).l, .bool (a 1).e, .int .u64 (a 1).f, .int .u64 (a 1).l, .bool (a 2).e, .int .u64 (a 2).f, .int .u64 (a 2).l, .bool (a 3).e, .int .u64 (a 3).f, .int .u64 (a 3).l] 73)) [.bool (b 0).e, .int .u64 (b 0).f, .int .u64 (b 0).l, .bool (b 1).e, .int .u64 (b 1).f, .int .u64 (b 1).l, .bool (b 2).e, .int .u64 (b 2).f, .int .u64 (b 2).l, .bool (b 3).e, .int .u64 (b 3).f, .int .u64 (b 3).l] 73).fr ((Fr.refl [] _).alloc (Obj.cells #[.bool false, .int .u64 0, .int .u64 0, .bool false, .int .u64 0, .int .u64 0, .bool false, .int .u64 0, .int .u64 0, .bool false, .int .u64 0, .int .u64 0] 73)) (by simp) (by simp)
      rwa [World.size_alloc] at this
    · have := (rowIs_new ((w.alloc (Obj.cells #[.bool (a 0).e, .int .u64 (a 0).f, .int .u64 (a 0).l, .bool (a 1).e, .int .u64 (a 1).f, .int .u64 (a 1).l, .bool (a 2).e, .int .u64 (a 2).f, .int .u64 (a 2).l, .bool (a 3).e, .int .u64 (a 3).f, .int .u64 (a 3).l] 73)).alloc (Obj.cells #[.bool (b 0).e, .int .u64 (b 0).f, .int .u64 (b 0).l, .bool (b 1).e, .int .u64 (b 1).f, .int .u64 (b 1).l, .bool (b 2).e, .int .u64 (b 2).f, .int .u64 (b 2).l, .bool (b 3).e, .int .u64 (b 3).f, .int .u64 (b 3).l] 73)) [.bool false, .int .u64 0, .int .u64 0, .bool false, .int .u64 0, .int .u64 0, .bool false, .int .u64 0, .int .u64 0, .bool false, .int .u64 0, .int .u64 0] 73)
      rwa [World.size_alloc, World.size_alloc] at this
    · intro i
      have := frozen_all_new w [.bool (a 0).e, .int .u64 (a 0).f, .int .u64 (a 0).l, .bool (a 1).e, .int .u64 (a 1).f, .int .u64 (a 1).l, .bool (a 2).e, .int .u64 (a 2).f, .int .u64 (a 2).l, .bool (a 3).e, .int .u64 (a 3).f, .int .u64 (a 3).l] 73 i
      exact (World.frozen?_alloc_past _ _ _ (by simp; omega)).trans ((World.frozen?_alloc_past _ _ _ (by simp)).trans this)
    · intro i
      have := frozen_all_new ((w.alloc (Obj.cells #[.bool (a 0).e, .int .u64 (a 0).f, .int .u64 (a 0).l, .bool (a 1).e, .int .u64 (a 1).f, .int .u64 (a 1).l, .bool (a 2).e, .int .u64 (a 2).f, .int .u64 (a 2).l, .bool (a 3).e, .int .u64 (a 3).f, .int .u64 (a 3).l] 73)).alloc (Obj.cells #[.bool (b 0).e, .int .u64 (b 0).f, .int .u64 (b 0).l, .bool (b 1).e, .int .u64 (b 1).f, .int .u64 (b 1).l, .bool (b 2).e, .int .u64 (b 2).f, .int .u64 (b 2).l, .bool (b 3).e, .int .u64 (b 3).f, .int .u64 (b 3).l] 73)) [.bool false, .int .u64 0, .int .u64 0, .bool false, .int .u64 0, .int .u64 0, .bool false, .int .u64 0, .int .u64 0, .bool false, .int .u64 0, .int .u64 0] 73 i
      rwa [World.size_alloc, World.size_alloc] at this
  unfold pv
  go_enter Tryd.func54, Tryd.ntmps54
  go_wp2
  clear hW0
  go_loopw [5, 6] (fun _ i wr => ∃ k : Nat, k ≤ 4 ∧ i = .int .i64 k ∧ EithI w a b (mixL a b k) wr) (fun _ i _ => 4 - (intOf i).toNat)
  case atStart => exact ⟨0, by decide, rfl, J0⟩
  case round =>
    obtain ⟨k, hk, rfl, J⟩ := hrel
    obtain rfl | rfl | rfl | rfl | rfl : k = 0 ∨ k = 1 ∨ k = 2 ∨ k = 3 ∨ k = 4 := by omega
    · have c0 : wr.cell? ⟨w.heap.size, 0, none⟩ = some (.bool (a 0).e) := J.ro 0
      have c1 : wr.cell? ⟨w.heap.size, 1, none⟩ = some (.int .u64 (a 0).f) := J.ro 1
      have c2 : wr.cell? ⟨w.heap.size, 2, none⟩ = some (.int .u64 (a 0).l) := J.ro 2
      have c3 : wr.cell? ⟨w.heap.size + 1, 0, none⟩ = some (.bool (b 0).e) := J.rb 0
      have c4 : wr.cell? ⟨w.heap.size + 1, 1, none⟩ = some (.int .u64 (b 0).f) := J.rb 1
      have c5 : wr.cell? ⟨w.heap.size + 1, 2, none⟩ = some (.int .u64 (b 0).l) := J.rb 2
      have z0 := J.zo 0
      have z1 := J.zo 1
      have z2 := J.zo 2
      have hset : ∀ x : Bool, x = ((a 0).e || (b 0).e) → (((mixL a b 0).set 0 (.bool x)).set 1 (.int .u64 ((a 0).f ||| (b 0).f : Nat))).set 2 (.int .u64 ((a 0).l ||| (b 0).l : Nat)) = mixL a b 1 := by
        rintro x rfl; rfl
      cases he : (a 0).e
      all_goals
        rw [he] at c0
        go_wp2
        refine wp_region_tail 11 hm (by kernel_rfl) ?_
        simp only [List.take_succ_cons, List.take_zero, List.drop_succ_cons, List.drop_zero]
        repeat still_step
        refine wpStill_nil ?_
        go_wp2
        refine wp_region_tail 11 hm (by kernel_rfl) ?_
        simp only [List.take_succ_cons, List.take_zero, List.drop_succ_cons, List.drop_zero]
        repeat still_step
        refine wpStill_nil ?_
        go_wp2
        refine ⟨⟨1, by decide, rfl, ?_⟩, by decide⟩
        have JJ := fun (x : Bool) (hx : x = ((a 0).e || (b 0).e)) => (hset x hx) ▸ (((J.set 0 (by simp [mixL]) (.bool x)).set 1 (by simp [mixL]) (.int .u64 ((a 0).f ||| (b 0).f : Nat))).set 2 (by simp [mixL]) (.int .u64 ((a 0).l ||| (b 0).l : Nat))).drew.drew
        exact JJ _ (by rw [he]; rfl)
    · have c0 : wr.cell? ⟨w.heap.size, 3, none⟩ = some (.bool (a 1).e) := J.ro 3
      have c1 : wr.cell? ⟨w.heap.size, 4, none⟩ = some (.int .u64 (a 1).f) := J.ro 4
      have c2 : wr.cell? ⟨w.heap.size, 5, none⟩ = some (.int .u64 (a 1).l) := J.ro 5
      have c3 : wr.cell? ⟨w.heap.size + 1, 3, none⟩ = some (.bool (b 1).e) := J.rb 3
      have c4 : wr.cell? ⟨w.heap.size + 1, 4, none⟩ = some (.int .u64 (b 1).f) := J.rb 4
      have c5 : wr.cell? ⟨w.heap.size + 1, 5, none⟩ = some (.int .u64 (b 1).l) := J.rb 5
      have z0 := J.zo 3
      have z1 := J.zo 4
      have z2 := J.zo 5
      have hset : ∀ x : Bool, x = ((a 1).e || (b 1).e) → (((mixL a b 1).set 3 (.bool x)).set 4 (.int .u64 ((a 1).f ||| (b 1).f : Nat))).set 5 (.int .u64 ((a 1).l ||| (b 1).l : Nat)) = mixL a b 2 := by
        rintro x rfl; rfl
      cases he : (a 1).e
      all_goals
        rw [he] at c0
        go_wp2
        refine wp_region_tail 11 hm (by kernel_rfl) ?_
        simp only [List.take_succ_cons, List.take_zero, List.drop_succ_cons, List.drop_zero]
        repeat still_step
        refine wpStill_nil ?_
        go_wp2
        refine wp_region_tail 11 hm (by kernel_rfl) ?_
        simp only [List.take_succ_cons, List.take_zero, List.drop_succ_cons, List.drop_zero]
        repeat still_step
        refine wpStill_nil ?_
        go_wp2
        refine ⟨⟨2, by decide, rfl, ?_⟩, by decide⟩
        have JJ := fun (x : Bool) (hx : x = ((a 1).e || (b 1).e)) => (hset x hx) ▸ (((J.set 3 (by simp [mixL]) (.bool x)).set 4 (by simp [mixL]) (.int .u64 ((a 1).f ||| (b 1).f : Nat))).set 5 (by simp [mixL]) (.int .u64 ((a 1).l ||| (b 1).l : Nat))).drew.drew
        exact JJ _ (by rw [he]; rfl)
    · have c0 : wr.cell? ⟨w.heap.size, 6, none⟩ = some (.bool (a 2).e) := J.ro 6
      have c1 : wr.cell? ⟨w.heap.size, 7, none⟩ = some (.int .u64 (a 2).f) := J.ro 7
      have c2 : wr.cell? ⟨w.heap.size, 8, none⟩ = some (.int .u64 (a 2).l) := J.ro 8
      have c3 : wr.cell? ⟨w.heap.size + 1, 6, none⟩ = some (.bool (b 2).e) := J.rb 6
      have c4 : wr.cell? ⟨w.heap.size + 1, 7, none⟩ = some (.int .u64 (b 2).f) := J.rb 7
      have c5 : wr.cell? ⟨w.heap.size + 1, 8, none⟩ = some (.int .u64 (b 2).l) := J.rb 8
      have z0 := J.zo 6
      have z1 := J.zo 7
      have z2 := J.zo 8
      have hset : ∀ x : Bool, x = ((a 2).e || (b 2).e) → (((mixL a b 2).set 6 (.bool x)).set 7 (.int .u64 ((a 2).f ||| (b 2).f : Nat))).set 8 (.int .u64 ((a 2).l ||| (b 2).l : Nat)) = mixL a b 3 := by
        rintro x rfl; rfl
      cases he : (a 2).e
      all_goals
        rw [he] at c0
        go_wp2
        refine wp_region_tail 11 hm (by kernel_rfl) ?_
        simp only [List.take_succ_cons, List.take_zero, List.drop_succ_cons, List.drop_zero]
        repeat still_step
        refine wpStill_nil ?_
        go_wp2
        refine wp_region_tail 11 hm (by kernel_rfl) ?_
        simp only [List.take_succ_cons, List.take_zero, List.drop_succ_cons, List.drop_zero]
        repeat still_step
        refine wpStill_nil ?_
        go_wp2
        refine ⟨⟨3, by decide, rfl, ?_⟩, by decide⟩
        have JJ := fun (x : Bool) (hx : x = ((a 2).e || (b 2).e)) => (hset x hx) ▸ (((J.set 6 (by simp [mixL]) (.bool x)).set 7 (by simp [mixL]) (.int .u64 ((a 2).f ||| (b 2).f : Nat))).set 8 (by simp [mixL]) (.int .u64 ((a 2).l ||| (b 2).l : Nat))).drew.drew
        exact JJ _ (by rw [he]; rfl)
    · have c0 : wr.cell? ⟨w.heap.size, 9, none⟩ = some (.bool (a 3).e) := J.ro 9
      have c1 : wr.cell? ⟨w.heap.size, 10, none⟩ = some (.int .u64 (a 3).f) := J.ro 10
      have c2 : wr.cell? ⟨w.heap.size, 11, none⟩ = some (.int .u64 (a 3).l) := J.ro 11
      have c3 : wr.cell? ⟨w.heap.size + 1, 9, none⟩ = some (.bool (b 3).e) := J.rb 9
      have c4 : wr.cell? ⟨w.heap.size + 1, 10, none⟩ = some (.int .u64 (b 3).f) := J.rb 10
      have c5 : wr.cell? ⟨w.heap.size + 1, 11, none⟩ = some (.int .u64 (b 3).l) := J.rb 11
      have z0 := J.zo 9
      have z1 := J.zo 10
      have z2 := J.zo 11
      have hset : ∀ x : Bool, x = ((a 3).e || (b 3).e) → (((mixL a b 3).set 9 (.bool x)).set 10 (.int .u64 ((a 3).f ||| (b 3).f : Nat))).set 11 (.int .u64 ((a 3).l ||| (b 3).l : Nat)) = mixL a b 4 := by
        rintro x rfl; rfl
      cases he : (a 3).e
      all_goals
        rw [he] at c0
        go_wp2
        refine wp_region_tail 11 hm (by kernel_rfl) ?_
        simp only [List.take_succ_cons, List.take_zero, List.drop_succ_cons, List.drop_zero]
        repeat still_step
        refine wpStill_nil ?_
        go_wp2
        refine wp_region_tail 11 hm (by kernel_rfl) ?_
        simp only [List.take_succ_cons, List.take_zero, List.drop_succ_cons, List.drop_zero]
        repeat still_step
        refine wpStill_nil ?_
        go_wp2
        refine ⟨⟨4, by decide, rfl, ?_⟩, by decide⟩
        have JJ := fun (x : Bool) (hx : x = ((a 3).e || (b 3).e)) => (hset x hx) ▸ (((J.set 9 (by simp [mixL]) (.bool x)).set 10 (by simp [mixL]) (.int .u64 ((a 3).f ||| (b 3).f : Nat))).set 11 (by simp [mixL]) (.int .u64 ((a 3).l ||| (b 3).l : Nat))).drew.drew
        exact JJ _ (by rw [he]; rfl)
    · have x0 : wr.cell? ⟨w.heap.size, 0, none⟩ = some (.bool ((a 0).e || (b 0).e)) := J.ro 0
      have y0 : wr.cell? ⟨w.heap.size + 1 + 1, 0, none⟩ = some (.bool false) := J.rr 0
      have z0 := J.zr 0
      have x1 : wr.cell? ⟨w.heap.size, 1, none⟩ = some (.int .u64 ((a 0).f ||| (b 0).f : Nat)) := J.ro 1
      have y1 : wr.cell? ⟨w.heap.size + 1 + 1, 1, none⟩ = some (.int .u64 0) := J.rr 1
      have z1 := J.zr 1
      have x2 : wr.cell? ⟨w.heap.size, 2, none⟩ = some (.int .u64 ((a 0).l ||| (b 0).l : Nat)) := J.ro 2
      have y2 : wr.cell? ⟨w.heap.size + 1 + 1, 2, none⟩ = some (.int .u64 0) := J.rr 2
      have z2 := J.zr 2
      have x3 : wr.cell? ⟨w.heap.size, 3, none⟩ = some (.bool ((a 1).e || (b 1).e)) := J.ro 3
      have y3 : wr.cell? ⟨w.heap.size + 1 + 1, 3, none⟩ = some (.bool false) := J.rr 3
      have z3 := J.zr 3
      have x4 : wr.cell? ⟨w.heap.size, 4, none⟩ = some (.int .u64 ((a 1).f ||| (b 1).f : Nat)) := J.ro 4
      have y4 : wr.cell? ⟨w.heap.size + 1 + 1, 4, none⟩ = some (.int .u64 0) := J.rr 4
      have z4 := J.zr 4
      have x5 : wr.cell? ⟨w.heap.size, 5, none⟩ = some (.int .u64 ((a 1).l ||| (b 1).l : Nat)) := J.ro 5
      have y5 : wr.cell? ⟨w.heap.size + 1 + 1, 5, none⟩ = some (.int .u64 0) := J.rr 5
      have z5 := J.zr 5
      have x6 : wr.cell? ⟨w.heap.size, 6, none⟩ = some (.bool ((a 2).e || (b 2).e)) := J.ro 6
      have y6 : wr.cell? ⟨w.heap.size + 1 + 1, 6, none⟩ = some (.bool false) := J.rr 6
      have z6 := J.zr 6
      have x7 : wr.cell? ⟨w.heap.size, 7, none⟩ = some (.int .u64 ((a 2).f ||| (b 2).f : Nat)) := J.ro 7
      have y7 : wr.cell? ⟨w.heap.size + 1 + 1, 7, none⟩ = some (.int .u64 0) := J.rr 7
      have z7 := J.zr 7
      have x8 : wr.cell? ⟨w.heap.size, 8, none⟩ = some (.int .u64 ((a 2).l ||| (b 2).l : Nat)) := J.ro 8
      have y8 : wr.cell? ⟨w.heap.size + 1 + 1, 8, none⟩ = some (.int .u64 0) := J.rr 8
      have z8 := J.zr 8
      have x9 : wr.cell? ⟨w.heap.size, 9, none⟩ = some (.bool ((a 3).e || (b 3).e)) := J.ro 9
      have y9 : wr.cell? ⟨w.heap.size + 1 + 1, 9, none⟩ = some (.bool false) := J.rr 9
      have z9 := J.zr 9
      have x10 : wr.cell? ⟨w.heap.size, 10, none⟩ = some (.int .u64 ((a 3).f ||| (b 3).f : Nat)) := J.ro 10
      have y10 : wr.cell? ⟨w.heap.size + 1 + 1, 10, none⟩ = some (.int .u64 0) := J.rr 10
      have z10 := J.zr 10
      have x11 : wr.cell? ⟨w.heap.size, 11, none⟩ = some (.int .u64 ((a 3).l ||| (b 3).l : Nat)) := J.ro 11
      have y11 : wr.cell? ⟨w.heap.size + 1 + 1, 11, none⟩ = some (.int .u64 0) := J.rr 11
      have z11 := J.zr 11
      go_wp2
      refine bodyPost_ret (v := pv (eitherF a b)) (by simp [results, Tryd.results54, go_sem, pv, eitherF, x0, x1, x2, x3, x4, x5, x6, x7, x8, x9, x10, x11, y0, y1, y2, y3, y4, y5, y6, y7, y8, y9, y10, y11]) rfl ⟨rfl, ?_⟩
      have hfr := far_sets wr (w.heap.size + 1 + 1) (.bool ((a 0).e || (b 0).e)) (.int .u64 ((a 0).f ||| (b 0).f : Nat)) (.int .u64 ((a 0).l ||| (b 0).l : Nat)) (.bool ((a 1).e || (b 1).e)) (.int .u64 ((a 1).f ||| (b 1).f : Nat)) (.int .u64 ((a 1).l ||| (b 1).l : Nat)) (.bool ((a 2).e || (b 2).e)) (.int .u64 ((a 2).f ||| (b 2).f : Nat)) (.int .u64 ((a 2).l ||| (b 2).l : Nat)) (.bool ((a 3).e || (b 3).e)) (.int .u64 ((a 3).f ||| (b 3).f : Nat)) (.int .u64 ((a 3).l ||| (b 3).l : Nat))
      exact J.fr.trans' hfr (by simp; omega)

end Go.Proofs.YticaoekmlaipnaaDoor
