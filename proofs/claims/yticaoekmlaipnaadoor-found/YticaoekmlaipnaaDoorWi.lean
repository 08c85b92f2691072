/-
  A piece behind another.
-/
import Derived.Test.YticaoekmlaipnaaDoorWh
set_option linter.unusedSimpArgs false
set_option linter.unusedVariables false
namespace Go.Proofs.YticaoekmlaipnaaDoor
open Go.RowKit

theorem frozen_all_new (W : World) (l : List Value) (t : TypeId) (i : Nat) : (W.alloc (.cells l.toArray t)).frozen? ⟨W.heap.size, i, none⟩ = false := by
  have h := World.alloc_heap_new W (.cells l.toArray t)
  unfold World.frozen?; rw [h]; simp

theorem far_sets (W : World) (b : Nat) (v0 v1 v2 v3 v4 v5 v6 v7 v8 v9 v10 v11 : Value) : Fr [b] W ((((((((((((W.setCell { block := b, off := 0 } v0).setCell { block := b, off := 1 } v1).setCell { block := b, off := 2 } v2).setCell { block := b, off := 3 } v3).setCell { block := b, off := 4 } v4).setCell { block := b, off := 5 } v5).setCell { block := b, off := 6 } v6).setCell { block := b, off := 7 } v7).setCell { block := b, off := 8 } v8).setCell { block := b, off := 9 } v9).setCell { block := b, off := 10 } v10).setCell { block := b, off := 11 } v11) :=
  (((((((((((((Fr.refl [b] W).setCell (p := ⟨b, 0, none⟩) (.inl (by simp)) v0).setCell (p := ⟨b, 1, none⟩) (.inl (by simp)) v1).setCell (p := ⟨b, 2, none⟩) (.inl (by simp)) v2).setCell (p := ⟨b, 3, none⟩) (.inl (by simp)) v3).setCell (p := ⟨b, 4, none⟩) (.inl (by simp)) v4).setCell (p := ⟨b, 5, none⟩) (.inl (by simp)) v5).setCell (p := ⟨b, 6, none⟩) (.inl (by simp)) v6).setCell (p := ⟨b, 7, none⟩) (.inl (by simp)) v7).setCell (p := ⟨b, 8, none⟩) (.inl (by simp)) v8).setCell (p := ⟨b, 9, none⟩) (.inl (by simp)) v9).setCell (p := ⟨b, 10, none⟩) (.inl (by simp)) v10).setCell (p := ⟨b, 11, none⟩) (.inl (by simp)) v11)

/-- What the rounds of a join keep. -/
structure JoinI (w : World) (pb : Nat) (a b : Piece) (o : List Value) (wh : Nat → Value) (tk : Nat → Nat) (fo : Nat → Nat → Nat) (W : World) : Prop where
  fr : Fr [pb] w W
  sz : w.heap.size + 1 + 1 + 1 + 1 ≤ W.heap.size
  ra : RowIs W w.heap.size [.bool (a 0).e, .int .u64 (a 0).f, .int .u64 (a 0).l, .bool (a 1).e, .int .u64 (a 1).f, .int .u64 (a 1).l, .bool (a 2).e, .int .u64 (a 2).f, .int .u64 (a 2).l, .bool (a 3).e, .int .u64 (a 3).f, .int .u64 (a 3).l]
  rb : RowIs W (w.heap.size + 1) [.bool (b 0).e, .int .u64 (b 0).f, .int .u64 (b 0).l, .bool (b 1).e, .int .u64 (b 1).f, .int .u64 (b 1).l, .bool (b 2).e, .int .u64 (b 2).f, .int .u64 (b 2).l, .bool (b 3).e, .int .u64 (b 3).f, .int .u64 (b 3).l]
  rr : RowIs W (w.heap.size + 1 + 1) [.bool false, .int .u64 0, .int .u64 0, .bool false, .int .u64 0, .int .u64 0, .bool false, .int .u64 0, .int .u64 0, .bool false, .int .u64 0, .int .u64 0]
  ro : RowIs W (w.heap.size + 1 + 1 + 1) o
  zr : ∀ i, W.frozen? ⟨w.heap.size + 1 + 1, i, none⟩ = false
  zo : ∀ i, W.frozen? ⟨w.heap.size + 1 + 1 + 1, i, none⟩ = false
  pat : PatAt W pb wh tk fo
  tab : Tab W

theorem JoinI.kept {w : World} {pb : Nat} {a b : Piece} {o : List Value} {wh : Nat → Value} {tk : Nat → Nat} {fo fo' : Nat → Nat → Nat} {W W' : World} (h : JoinI w pb a b o wh tk fo W) (hf : Fr [pb] W W') (hP : PatAt W' pb wh tk fo') (hlt : pb < w.heap.size) (hpb : pb ≠ 0) : JoinI w pb a b o wh tk fo' W' := by
  have hs := h.sz
  exact ⟨h.fr.trans hf, Nat.le_trans hs hf.size, h.ra.fr hf (by simp; omega) (by omega), h.rb.fr hf (by simp; omega) (by omega), h.rr.fr hf (by simp; omega) (by omega), h.ro.fr hf (by simp; omega) (by omega),
      fun i => (hf.frozen (p := ⟨w.heap.size + 1 + 1, i, none⟩) (by simp; omega) (by simp; omega)).trans (h.zr i), fun i => (hf.frozen (p := ⟨w.heap.size + 1 + 1 + 1, i, none⟩) (by simp; omega) (by simp; omega)).trans (h.zo i), hP, h.tab.fr hf (by simpa using fun e => hpb e.symm)⟩

theorem JoinI.set {w : World} {pb : Nat} {a b : Piece} {o : List Value} {wh : Nat → Value} {tk : Nat → Nat} {fo : Nat → Nat → Nat} {W : World} (h : JoinI w pb a b o wh tk fo W) (hlt : pb < w.heap.size) (k : Nat) (hk : k < o.length) (v : Value) :
    JoinI w pb a b (o.set k v) wh tk fo (W.setCell ⟨w.heap.size + 1 + 1 + 1, k, none⟩ v) := by
  have hb : ∀ c, c ≠ w.heap.size + 1 + 1 + 1 → (W.setCell ⟨w.heap.size + 1 + 1 + 1, k, none⟩ v).heap[c]? = W.heap[c]? := fun c hc => Below.heap_setCell W ⟨w.heap.size + 1 + 1 + 1, k, none⟩ _ c hc
  exact ⟨h.fr.setCell (p := ⟨w.heap.size + 1 + 1 + 1, k, none⟩) (.inr (by simp; omega)) _, by simpa [World.setCell] using h.sz, fun i => (setCell_far (by omega)).trans (h.ra i), fun i => (setCell_far (by omega)).trans (h.rb i), fun i => (setCell_far (by omega)).trans (h.rr i),
    h.ro.set k hk v, fun i => (World.frozen?_setCell _ _ _ _).trans (h.zr i), fun i => (World.frozen?_setCell _ _ _ _).trans (h.zo i), h.pat.of_block (hb _ (by omega)), h.tab.of_block (hb _ (by omega))⟩

set_option maxRecDepth 100000 in
set_option maxHeartbeats 4000000 in
theorem join_any (pb : Nat) (a b : Piece) (w : World) (wh : Nat → Value) (tk : Nat → Nat) (fo : Nat → Nat → Nat)
    (hl : ∀ s, (a s).l < 1125899906842624) (hok : ∀ s, (a s).ok) (hbk : ∀ s, (b s).ok) (hP : PatAt w pb wh tk fo) (hfo : ∀ s c, fo s c < 18446744073709551616) (hT : Tab w) (hpb : pb ≠ 0) :
    Calls Tryd.prog 83 #[.pointer (some ⟨pb, 0, none⟩), pv a, pv b] w fun e w' => e = .returned (pv (joinF a b)) ∧ PatAt w' pb wh tk (tieP fo a b) ∧ Fr [pb] w w' := by
  have hm : Tryd.prog.follows Departure.mixedOrders = true := by kernel_rfl
  have hlt := hP.lt
  obtain ⟨W0, hW0⟩ : ∃ W0, (((w.alloc (Obj.cells #[.bool (a 0).e, .int .u64 (a 0).f, .int .u64 (a 0).l, .bool (a 1).e, .int .u64 (a 1).f, .int .u64 (a 1).l, .bool (a 2).e, .int .u64 (a 2).f, .int .u64 (a 2).l, .bool (a 3).e, .int .u64 (a 3).f, .int .u64 (a 3).l] 73)).alloc (Obj.cells #[.bool (b 0).e, .int .u64 (b 0).f, .int .u64 (b 0).l, .bool (b 1).e, .int .u64 (b 1).f, .int .u64 (b 1).l, .bool (b 2).e, .int .u64 (b 2).f, .int .u64 (b 2).l, .bool (b 3).e, .int .u64 (b 3).f, .int .u64 (b 3).l] 73)).alloc (Obj.cells #[.bool false, .int .u64 0, .int .u64 0, .bool false, .int .u64 0, .int .u64 0, .bool false, .int .u64 0, .int .u64 0, .bool false, .int .u64 0, .int .u64 0] 73)).alloc (Obj.cells #[.bool false, .int .u64 0, .int .u64 0, .bool false, .int .u64 0, .int .u64 0, .bool false, .int .u64 0, .int .u64 0, .bool false, .int .u64 0, .int .u64 0] 73) = W0 := ⟨_, rfl⟩
  have J0 : JoinI w pb a b [.bool false, .int .u64 0, .int .u64 0, .bool false, .int .u64 0, .int .u64 0, .bool false, .int .u64 0, .int .u64 0, .bool false, .int .u64 0, .int .u64 0] wh tk fo W0 := by
    rw [← hW0]
    have g0 : ∀ S, Fr S w ((((w.alloc (Obj.cells #[.bool (a 0).e, .int .u64 (a 0).f, .int .u64 (a 0).l, .bool (a 1).e, .int .u64 (a 1).f, .int .u64 (a 1).l, .bool (a 2).e, .int .u64 (a 2).f, .int .u64 (a 2).l, .bool (a 3).e, .int .u64 (a 3).f, .int .u64 (a 3).l] 73)).alloc (Obj.cells #[.bool (b 0).e, .int .u64 (b 0).f, .int .u64 (b 0).l, .bool (b 1).e, .int .u64 (b 1).f, .int .u64 (b 1).l, .bool (b 2).e, .int .u64 (b 2).f, .int .u64 (b 2).l, .bool (b 3).e, .int .u64 (b 3).f, .int .u64 (b 3).l] 73)).alloc (Obj.cells #[.bool false, .int .u64 0, .int .u64 0, .bool false, .int .u64 0, .int .u64 0, .bool false, .int .u64 0, .int .u64 0, .bool false, .int .u64 0, .int .u64 0] 73)).alloc (Obj.cells #[.bool false, .int .u64 0, .int .u64 0, .bool false, .int .u64 0, .int .u64 0, .bool false, .int .u64 0, .int .u64 0, .bool false, .int .u64 0, .int .u64 0] 73)) := fun S => ((((Fr.refl S _).alloc _).alloc _).alloc _).alloc _
    refine ⟨g0 _, by simp, ?_, ?_, ?_, ?_, ?_, ?_, hP.fr (g0 []) (by simp), hT.fr (g0 []) (by simp)⟩
    · exact ((rowIs_new w [.bool (a 0).e, .int .u64 (a 0).f, .int .u64 (a 0).l, .bool (a 1).e, .int .u64 (a 1).f, .int .u64 (a 1).l, .bool (a 2).e, .int .u64 (a 2).f, .int .u64 (a 2).l, .bool (a 3).e, .int .u64 (a 3).f, .int .u64 (a 3).l] 73).fr ((((Fr.refl [] _).alloc _).alloc _).alloc _) (by simp) (by simp))
    · have := (rowIs_new (w.alloc (Obj.cells #[.bool (a 0).e, .int .u64 (a 0).f, .int .u64 (a 0).l, .bool (a 1).e, .int .u64 (a 1).f, .int .u64 (a 1).l, .bool (a 2).e, .int .u64 (a 2).f, .int .u64 (a 2).l, .bool (a 3).e, .int .u64 (a 3).f, .int .u64 (a 3).l] 73)) [.bool (b 0).e, .int .u64 (b 0).f, .int .u64 (b 0).l, .bool (b 1).e, .int .u64 (b 1).f, .int .u64 (b 1).l, .bool (b 2).e, .int .u64 (b 2).f, .int .u64 (b 2).l, .bool (b 3).e, .int .u64 (b 3).f, .int .u64 (b 3).l] 73).fr (((Fr.refl [] _).alloc (Obj.cells #[.bool false, .int .u64 0, .int .u64 0, .bool false, .int .u64 0, .int .u64 0, .bool false, .int .u64 0, .int .u64 0, .bool false, .int .u64 0, .int .u64 0] 73)).alloc (Obj.cells #[.bool false, .int .u64 0, .int .u64 0, .bool false, .int .u64 0, .int .u64 0, .bool false, .int .u64 0, .int .u64 0, .bool false, .int .u64 0, .int .u64 0] 73)) (by simp) (by simp)
      rwa [World.size_alloc] at this
    · have := (rowIs_new ((w.alloc (Obj.cells #[.bool (a 0).e, .int .u64 (a 0).f, .int .u64 (a 0).l, .bool (a 1).e, .int .u64 (a 1).f, .int .u64 (a 1).l, .bool (a 2).e, .int .u64 (a 2).f, .int .u64 (a 2).l, .bool (a 3).e, .int .u64 (a 3).f, .int .u64 (a 3).l] 73)).alloc (Obj.cells #[.bool (b 0).e, .int .u64 (b 0).f, .int .u64 (b 0).l, .bool (b 1).e, .int .u64 (b 1).f, .int .u64 (b 1).l, .bool (b 2).e, .int .u64 (b 2).f, .int .u64 (b 2).l, .bool (b 3).e, .int .u64 (b 3).f, .int .u64 (b 3).l] 73)) [.bool false, .int .u64 0, .int .u64 0, .bool false, .int .u64 0, .int .u64 0, .bool false, .int .u64 0, .int .u64 0, .bool false, .int .u64 0, .int .u64 0] 73).fr ((Fr.refl [] _).alloc (Obj.cells #[.bool false, .int .u64 0, .int .u64 0, .bool false, .int .u64 0, .int .u64 0, .bool false, .int .u64 0, .int .u64 0, .bool false, .int .u64 0, .int .u64 0] 73)) (by simp) (by simp)
      rwa [World.size_alloc, World.size_alloc] at this
    · have := (rowIs_new (((w.alloc (Obj.cells #[.bool (a 0).e, .int .u64 (a 0).f, .int .u64 (a 0).l, .bool (a 1).e, .int .u64 (a 1).f, .int .u64 (a 1).l, .bool (a 2).e, .int .u64 (a 2).f, .int .u64 (a 2).l, .bool (a 3).e, .int .u64 (a 3).f, .int .u64 (a 3).l] 73)).alloc (Obj.cells #[.bool (b 0).e, .int .u64 (b 0).f, .int .u64 (b 0).l, .bool (b 1).e, .int .u64 (b 1).f, .int .u64 (b 1).l, .bool (b 2).e, .int .u64 (b 2).f, .int .u64 (b 2).l, .bool (b 3).e, .int .u64 (b 3).f, .int .u64 (b 3).l] 73)).alloc (Obj.cells #[.bool false, .int .u64 0, .int .u64 0, .bool false, .int .u64 0, .int .u64 0, .bool false, .int .u64 0, .int .u64 0, .bool false, .int .u64 0, .int .u64 0] 73)) [.bool false, .int .u64 0, .int .u64 0, .bool false, .int .u64 0, .int .u64 0, .bool false, .int .u64 0, .int .u64 0, .bool false, .int .u64 0, .int .u64 0] 73)
      rwa [World.size_alloc, World.size_alloc, World.size_alloc] at this
    · intro i
      have := frozen_all_new ((w.alloc (Obj.cells #[.bool (a 0).e, .int .u64 (a 0).f, .int .u64 (a 0).l, .bool (a 1).e, .int .u64 (a 1).f, .int .u64 (a 1).l, .bool (a 2).e, .int .u64 (a 2).f, .int .u64 (a 2).l, .bool (a 3).e, .int .u64 (a 3).f, .int .u64 (a 3).l] 73)).alloc (Obj.cells #[.bool (b 0).e, .int .u64 (b 0).f, .int .u64 (b 0).l, .bool (b 1).e, .int .u64 (b 1).f, .int .u64 (b 1).l, .bool (b 2).e, .int .u64 (b 2).f, .int .u64 (b 2).l, .bool (b 3).e, .int .u64 (b 3).f, .int .u64 (b 3).l] 73)) [.bool false, .int .u64 0, .int .u64 0, .bool false, .int .u64 0, .int .u64 0, .bool false, .int .u64 0, .int .u64 0, .bool false, .int .u64 0, .int .u64 0] 73 i
      rw [World.size_alloc, World.size_alloc] at this
      exact (World.frozen?_alloc_past _ _ _ (by simp)).trans this
    · intro i
      have := frozen_all_new (((w.alloc (Obj.cells #[.bool (a 0).e, .int .u64 (a 0).f, .int .u64 (a 0).l, .bool (a 1).e, .int .u64 (a 1).f, .int .u64 (a 1).l, .bool (a 2).e, .int .u64 (a 2).f, .int .u64 (a 2).l, .bool (a 3).e, .int .u64 (a 3).f, .int .u64 (a 3).l] 73)).alloc (Obj.cells #[.bool (b 0).e, .int .u64 (b 0).f, .int .u64 (b 0).l, .bool (b 1).e, .int .u64 (b 1).f, .int .u64 (b 1).l, .bool (b 2).e, .int .u64 (b 2).f, .int .u64 (b 2).l, .bool (b 3).e, .int .u64 (b 3).f, .int .u64 (b 3).l] 73)).alloc (Obj.cells #[.bool false, .int .u64 0, .int .u64 0, .bool false, .int .u64 0, .int .u64 0, .bool false, .int .u64 0, .int .u64 0, .bool false, .int .u64 0, .int .u64 0] 73)) [.bool false, .int .u64 0, .int .u64 0, .bool false, .int .u64 0, .int .u64 0, .bool false, .int .u64 0, .int .u64 0, .bool false, .int .u64 0, .int .u64 0] 73 i
      rwa [World.size_alloc, World.size_alloc, World.size_alloc] at this
  have b0 := hfo
  unfold pv
  go_enter Tryd.func83, Tryd.ntmps83
  go_wp2
  clear hW0
  refine wp_loop_rounds 5 ?_
  rw [rounds_succ]
  have c0a : W0.cell? ⟨w.heap.size, 2, none⟩ = some (.int .u64 (a 0).l) := J0.ra 2
  have c0b : W0.cell? ⟨w.heap.size + 1, 1, none⟩ = some (.int .u64 (b 0).f) := J0.rb 1
  go_wp2
  refine wp_region_tail 10 hm (by kernel_rfl) ?_
  simp only [List.take_succ_cons, List.take_zero, List.drop_succ_cons, List.drop_zero]
  repeat still_step
  refine wpStill_nil ?_
  go_wp2_with fail
  refine (tie_any pb 0 (a 0).l (b 0).f (by decide) (hl 0) (hbk 0).1 W0.drew wh tk _ (J0.pat.of_block rfl) b0 (J0.tab.of_block rfl) hpb).mono ?_
  rintro e V0 ⟨rfl, P0, f0⟩
  have f0 : Fr [pb] W0 V0 := ⟨f0.os, f0.tape, f0.output, f0.size, f0.block⟩
  have K0 := J0.kept f0 P0 hlt hpb
  have b1 := tieF_lt (sp := 0) (src := (a 0).l) b0 (hbk 0).1
  clear c0a c0b
  go_wp2
  refine wp_region_heldD (fun w1 => w1.cell? ⟨w.heap.size, 0, none⟩ = some (.bool (a 0).e) ∧ w1.cell? ⟨w.heap.size, 1, none⟩ = some (.int .u64 (a 0).f) ∧ w1.cell? ⟨w.heap.size, 2, none⟩ = some (.int .u64 (a 0).l) ∧
    w1.cell? ⟨w.heap.size + 1, 0, none⟩ = some (.bool (b 0).e) ∧ w1.cell? ⟨w.heap.size + 1, 1, none⟩ = some (.int .u64 (b 0).f) ∧ w1.cell? ⟨w.heap.size + 1, 2, none⟩ = some (.int .u64 (b 0).l)) hm ?_
  have hS := And.intro (K0.ra 0) (And.intro (K0.ra 1) (And.intro (K0.ra 2) (And.intro (K0.rb 0) (And.intro (K0.rb 1) (K0.rb 2)))))
  refine wpAnyH_take (i := 0) (v := ?_) rfl (by kernel_rfl) (by kernel_rfl) (by kernel_rfl) (fun _ _ _ h => h) (.inl ⟨rfl, fun w1 hS1 => ?_⟩) hS ?_
  rotate_left
  · obtain ⟨s1, s2, s3, s4, s5, s6⟩ := hS1
    go_simp
    rfl
  simp only [Act.put, List.setIfInBounds_toArray, List.set_cons_zero, List.set_cons_succ]
  refine wpAnyH_take (i := 1) (v := ?_) rfl (by kernel_rfl) (by kernel_rfl) (by kernel_rfl) (fun _ _ _ h => h) (.inl ⟨rfl, fun w1 hS1 => ?_⟩) hS ?_
  rotate_left
  · obtain ⟨s1, s2, s3, s4, s5, s6⟩ := hS1
    go_simp
    rfl
  simp only [Act.put, List.setIfInBounds_toArray, List.set_cons_zero, List.set_cons_succ]
  refine wpAnyH_take (i := 2) (v := ?_) rfl (by kernel_rfl) (by kernel_rfl) (by kernel_rfl) (fun _ _ _ h => h) (.inl ⟨rfl, fun w1 hS1 => ?_⟩) hS ?_
  rotate_left
  · obtain ⟨s1, s2, s3, s4, s5, s6⟩ := hS1
    go_simp
    rfl
  simp only [Act.put, List.setIfInBounds_toArray, List.set_cons_zero, List.set_cons_succ]
  refine wpAnyH_take (i := 3) (v := ?_) rfl (by kernel_rfl) (by kernel_rfl) (by kernel_rfl) (fun _ _ _ h => h) (.inl ⟨rfl, fun w1 hS1 => ?_⟩) hS ?_
  rotate_left
  · obtain ⟨s1, s2, s3, s4, s5, s6⟩ := hS1
    go_simp
    rfl
  simp only [Act.put, List.setIfInBounds_toArray, List.set_cons_zero, List.set_cons_succ]
  refine wpAnyH_take (i := 4) (v := ?_) rfl (by kernel_rfl) (by kernel_rfl) (by kernel_rfl) (fun _ _ _ h => h) (.inl ⟨rfl, fun w1 hS1 => ?_⟩) hS ?_
  rotate_left
  · obtain ⟨s1, s2, s3, s4, s5, s6⟩ := hS1
    go_simp
    rfl
  simp only [Act.put, List.setIfInBounds_toArray, List.set_cons_zero, List.set_cons_succ]
  refine wpAnyH_take (i := 5) (v := ?_) rfl (by kernel_rfl) (by kernel_rfl) (by kernel_rfl) (fun _ _ _ h => h) (.inl ⟨rfl, fun w1 hS1 => ?_⟩) hS ?_
  rotate_left
  · obtain ⟨s1, s2, s3, s4, s5, s6⟩ := hS1
    go_simp
    rfl
  simp only [Act.put, List.setIfInBounds_toArray, List.set_cons_zero, List.set_cons_succ]
  refine wpAnyH_take (i := 6) (v := ?_) rfl (by kernel_rfl) (by kernel_rfl) (by kernel_rfl) (fun _ _ _ h => h) (.inl ⟨rfl, fun w1 hS1 => ?_⟩) hS ?_
  rotate_left
  · obtain ⟨s1, s2, s3, s4, s5, s6⟩ := hS1
    go_simp
    rfl
  simp only [Act.put, List.setIfInBounds_toArray, List.set_cons_zero, List.set_cons_succ]
  refine wpAnyH_ready (rs := [7]) (by kernel_rfl) (by simp) ?_
  refine AllReadyH.cons rfl (fun K hK => ?_) AllReadyH.nil
  go_simp
  have hj := joined_any (a 0) (b 0) (hok 0) (hbk 0) V0.drew
  unfold ev at hj
  refine hj.mono ?_
  rintro e U0 ⟨rfl, g0⟩
  have g0 : Fr [] V0 U0 := ⟨g0.os, g0.tape, g0.output, g0.size, g0.block⟩
  have L0 := K0.kept (g0.mono (by simp)) (K0.pat.fr g0 (by simp)) hlt hpb
  clear hj hS
  have hS := And.intro (L0.ra 0) (And.intro (L0.ra 1) (And.intro (L0.ra 2) (And.intro (L0.rb 0) (And.intro (L0.rb 1) (L0.rb 2)))))
  refine hK _ _ hS ?_
  clear hK K
  intro _
  refine wpAnyH_take (i := 8) (v := ?_) rfl (by kernel_rfl) (by kernel_rfl) (by kernel_rfl) (fun _ _ _ h => h) (.inl ⟨rfl, fun w1 hS1 => ?_⟩) hS ?_
  rotate_left
  · go_simp
    rfl
  simp only [Act.put, List.setIfInBounds_toArray, List.set_cons_zero, List.set_cons_succ]
  have e0 : U0.cell? ⟨w.heap.size + 1 + 1 + 1, 0, none⟩ = some (.bool false) := L0.ro 0
  have e1 : U0.cell? ⟨w.heap.size + 1 + 1 + 1, 1, none⟩ = some (.int .u64 0) := L0.ro 1
  have e2 : U0.cell? ⟨w.heap.size + 1 + 1 + 1, 2, none⟩ = some (.int .u64 0) := L0.ro 2
  have e3 := L0.zo 0
  have e4 := L0.zo 1
  have e5 := L0.zo 2
  refine wpAnyH_ready (rs := [9]) (by kernel_rfl) (by simp) ?_
  refine AllReadyH.cons rfl (fun K hK => ?_) AllReadyH.nil
  go_simp
  clear hS e0 e1 e2 e3 e4 e5
  have J1 := ((L0.set hlt 0 (by simp) (.bool (joinedF (a 0) (b 0)).e)).set hlt 1 (by simp) (.int .u64 (joinedF (a 0) (b 0)).f)).set hlt 2 (by simp) (.int .u64 (joinedF (a 0) (b 0)).l)
  clear J0 K0 L0
  generalize ((U0.setCell { block := w.heap.size + 1 + 1 + 1, off := 0 } (Value.bool (joinedF (a 0) (b 0)).e)).setCell
          { block := w.heap.size + 1 + 1 + 1, off := 1 } (Value.int IntKind.u64 ↑(joinedF (a 0) (b 0)).f)).setCell
      { block := w.heap.size + 1 + 1 + 1, off := 2 } (Value.int IntKind.u64 ↑(joinedF (a 0) (b 0)).l) = W1 at *
  refine hK _ _ ⟨J1.ra 0, J1.ra 1, J1.ra 2, J1.rb 0, J1.rb 1, J1.rb 2⟩ ?_
  clear hK K
  intro _
  refine wpAnyH_done (by kernel_rfl) ?_ _
  go_wp2
  rw [rounds_succ]
  have c1a : W1.cell? ⟨w.heap.size, 5, none⟩ = some (.int .u64 (a 1).l) := J1.ra 5
  have c1b : W1.cell? ⟨w.heap.size + 1, 4, none⟩ = some (.int .u64 (b 1).f) := J1.rb 4
  go_wp2
  refine wp_region_tail 10 hm (by kernel_rfl) ?_
  simp only [List.take_succ_cons, List.take_zero, List.drop_succ_cons, List.drop_zero]
  repeat still_step
  refine wpStill_nil ?_
  go_wp2_with fail
  refine (tie_any pb 1 (a 1).l (b 1).f (by decide) (hl 1) (hbk 1).1 W1.drew wh tk _ (J1.pat.of_block rfl) b1 (J1.tab.of_block rfl) hpb).mono ?_
  rintro e V1 ⟨rfl, P1, f1⟩
  have f1 : Fr [pb] W1 V1 := ⟨f1.os, f1.tape, f1.output, f1.size, f1.block⟩
  have K1 := J1.kept f1 P1 hlt hpb
  have b2 := tieF_lt (sp := 1) (src := (a 1).l) b1 (hbk 1).1
  clear c1a c1b
  go_wp2
  refine wp_region_heldD (fun w1 => w1.cell? ⟨w.heap.size, 3, none⟩ = some (.bool (a 1).e) ∧ w1.cell? ⟨w.heap.size, 4, none⟩ = some (.int .u64 (a 1).f) ∧ w1.cell? ⟨w.heap.size, 5, none⟩ = some (.int .u64 (a 1).l) ∧
    w1.cell? ⟨w.heap.size + 1, 3, none⟩ = some (.bool (b 1).e) ∧ w1.cell? ⟨w.heap.size + 1, 4, none⟩ = some (.int .u64 (b 1).f) ∧ w1.cell? ⟨w.heap.size + 1, 5, none⟩ = some (.int .u64 (b 1).l)) hm ?_
  have hS := And.intro (K1.ra 3) (And.intro (K1.ra 4) (And.intro (K1.ra 5) (And.intro (K1.rb 3) (And.intro (K1.rb 4) (K1.rb 5)))))
  refine wpAnyH_take (i := 0) (v := ?_) rfl (by kernel_rfl) (by kernel_rfl) (by kernel_rfl) (fun _ _ _ h => h) (.inl ⟨rfl, fun w1 hS1 => ?_⟩) hS ?_
  rotate_left
  · obtain ⟨s1, s2, s3, s4, s5, s6⟩ := hS1
    go_simp
    rfl
  simp only [Act.put, List.setIfInBounds_toArray, List.set_cons_zero, List.set_cons_succ]
  refine wpAnyH_take (i := 1) (v := ?_) rfl (by kernel_rfl) (by kernel_rfl) (by kernel_rfl) (fun _ _ _ h => h) (.inl ⟨rfl, fun w1 hS1 => ?_⟩) hS ?_
  rotate_left
  · obtain ⟨s1, s2, s3, s4, s5, s6⟩ := hS1
    go_simp
    rfl
  simp only [Act.put, List.setIfInBounds_toArray, List.set_cons_zero, List.set_cons_succ]
  refine wpAnyH_take (i := 2) (v := ?_) rfl (by kernel_rfl) (by kernel_rfl) (by kernel_rfl) (fun _ _ _ h => h) (.inl ⟨rfl, fun w1 hS1 => ?_⟩) hS ?_
  rotate_left
  · obtain ⟨s1, s2, s3, s4, s5, s6⟩ := hS1
    go_simp
    rfl
  simp only [Act.put, List.setIfInBounds_toArray, List.set_cons_zero, List.set_cons_succ]
  refine wpAnyH_take (i := 3) (v := ?_) rfl (by kernel_rfl) (by kernel_rfl) (by kernel_rfl) (fun _ _ _ h => h) (.inl ⟨rfl, fun w1 hS1 => ?_⟩) hS ?_
  rotate_left
  · obtain ⟨s1, s2, s3, s4, s5, s6⟩ := hS1
    go_simp
    rfl
  simp only [Act.put, List.setIfInBounds_toArray, List.set_cons_zero, List.set_cons_succ]
  refine wpAnyH_take (i := 4) (v := ?_) rfl (by kernel_rfl) (by kernel_rfl) (by kernel_rfl) (fun _ _ _ h => h) (.inl ⟨rfl, fun w1 hS1 => ?_⟩) hS ?_
  rotate_left
  · obtain ⟨s1, s2, s3, s4, s5, s6⟩ := hS1
    go_simp
    rfl
  simp only [Act.put, List.setIfInBounds_toArray, List.set_cons_zero, List.set_cons_succ]
  refine wpAnyH_take (i := 5) (v := ?_) rfl (by kernel_rfl) (by kernel_rfl) (by kernel_rfl) (fun _ _ _ h => h) (.inl ⟨rfl, fun w1 hS1 => ?_⟩) hS ?_
  rotate_left
  · obtain ⟨s1, s2, s3, s4, s5, s6⟩ := hS1
    go_simp
    rfl
  simp only [Act.put, List.setIfInBounds_toArray, List.set_cons_zero, List.set_cons_succ]
  refine wpAnyH_take (i := 6) (v := ?_) rfl (by kernel_rfl) (by kernel_rfl) (by kernel_rfl) (fun _ _ _ h => h) (.inl ⟨rfl, fun w1 hS1 => ?_⟩) hS ?_
  rotate_left
  · obtain ⟨s1, s2, s3, s4, s5, s6⟩ := hS1
    go_simp
    rfl
  simp only [Act.put, List.setIfInBounds_toArray, List.set_cons_zero, List.set_cons_succ]
  refine wpAnyH_ready (rs := [7]) (by kernel_rfl) (by simp) ?_
  refine AllReadyH.cons rfl (fun K hK => ?_) AllReadyH.nil
  go_simp
  have hj := joined_any (a 1) (b 1) (hok 1) (hbk 1) V1.drew
  unfold ev at hj
  refine hj.mono ?_
  rintro e U1 ⟨rfl, g1⟩
  have g1 : Fr [] V1 U1 := ⟨g1.os, g1.tape, g1.output, g1.size, g1.block⟩
  have L1 := K1.kept (g1.mono (by simp)) (K1.pat.fr g1 (by simp)) hlt hpb
  clear hj hS
  have hS := And.intro (L1.ra 3) (And.intro (L1.ra 4) (And.intro (L1.ra 5) (And.intro (L1.rb 3) (And.intro (L1.rb 4) (L1.rb 5)))))
  refine hK _ _ hS ?_
  clear hK K
  intro _
  refine wpAnyH_take (i := 8) (v := ?_) rfl (by kernel_rfl) (by kernel_rfl) (by kernel_rfl) (fun _ _ _ h => h) (.inl ⟨rfl, fun w1 hS1 => ?_⟩) hS ?_
  rotate_left
  · go_simp
    rfl
  simp only [Act.put, List.setIfInBounds_toArray, List.set_cons_zero, List.set_cons_succ]
  have e0 : U1.cell? ⟨w.heap.size + 1 + 1 + 1, 3, none⟩ = some (.bool false) := L1.ro 3
  have e1 : U1.cell? ⟨w.heap.size + 1 + 1 + 1, 4, none⟩ = some (.int .u64 0) := L1.ro 4
  have e2 : U1.cell? ⟨w.heap.size + 1 + 1 + 1, 5, none⟩ = some (.int .u64 0) := L1.ro 5
  have e3 := L1.zo 3
  have e4 := L1.zo 4
  have e5 := L1.zo 5
  refine wpAnyH_ready (rs := [9]) (by kernel_rfl) (by simp) ?_
  refine AllReadyH.cons rfl (fun K hK => ?_) AllReadyH.nil
  go_simp
  clear hS e0 e1 e2 e3 e4 e5
  have J2 := ((L1.set hlt 3 (by simp) (.bool (joinedF (a 1) (b 1)).e)).set hlt 4 (by simp) (.int .u64 (joinedF (a 1) (b 1)).f)).set hlt 5 (by simp) (.int .u64 (joinedF (a 1) (b 1)).l)
  clear J1 K1 L1
  generalize ((U1.setCell { block := w.heap.size + 1 + 1 + 1, off := 3 } (Value.bool (joinedF (a 1) (b 1)).e)).setCell
          { block := w.heap.size + 1 + 1 + 1, off := 4 } (Value.int IntKind.u64 ↑(joinedF (a 1) (b 1)).f)).setCell
      { block := w.heap.size + 1 + 1 + 1, off := 5 } (Value.int IntKind.u64 ↑(joinedF (a 1) (b 1)).l) = W2 at *
  refine hK _ _ ⟨J2.ra 3, J2.ra 4, J2.ra 5, J2.rb 3, J2.rb 4, J2.rb 5⟩ ?_
  clear hK K
  intro _
  refine wpAnyH_done (by kernel_rfl) ?_ _
  go_wp2
  rw [rounds_succ]
  have c2a : W2.cell? ⟨w.heap.size, 8, none⟩ = some (.int .u64 (a 2).l) := J2.ra 8
  have c2b : W2.cell? ⟨w.heap.size + 1, 7, none⟩ = some (.int .u64 (b 2).f) := J2.rb 7
  go_wp2
  refine wp_region_tail 10 hm (by kernel_rfl) ?_
  simp only [List.take_succ_cons, List.take_zero, List.drop_succ_cons, List.drop_zero]
  repeat still_step
  refine wpStill_nil ?_
  go_wp2_with fail
  refine (tie_any pb 2 (a 2).l (b 2).f (by decide) (hl 2) (hbk 2).1 W2.drew wh tk _ (J2.pat.of_block rfl) b2 (J2.tab.of_block rfl) hpb).mono ?_
  rintro e V2 ⟨rfl, P2, f2⟩
  have f2 : Fr [pb] W2 V2 := ⟨f2.os, f2.tape, f2.output, f2.size, f2.block⟩
  have K2 := J2.kept f2 P2 hlt hpb
  have b3 := tieF_lt (sp := 2) (src := (a 2).l) b2 (hbk 2).1
  clear c2a c2b
  go_wp2
  refine wp_region_heldD (fun w1 => w1.cell? ⟨w.heap.size, 6, none⟩ = some (.bool (a 2).e) ∧ w1.cell? ⟨w.heap.size, 7, none⟩ = some (.int .u64 (a 2).f) ∧ w1.cell? ⟨w.heap.size, 8, none⟩ = some (.int .u64 (a 2).l) ∧
    w1.cell? ⟨w.heap.size + 1, 6, none⟩ = some (.bool (b 2).e) ∧ w1.cell? ⟨w.heap.size + 1, 7, none⟩ = some (.int .u64 (b 2).f) ∧ w1.cell? ⟨w.heap.size + 1, 8, none⟩ = some (.int .u64 (b 2).l)) hm ?_
  have hS := And.intro (K2.ra 6) (And.intro (K2.ra 7) (And.intro (K2.ra 8) (And.intro (K2.rb 6) (And.intro (K2.rb 7) (K2.rb 8)))))
  refine wpAnyH_take (i := 0) (v := ?_) rfl (by kernel_rfl) (by kernel_rfl) (by kernel_rfl) (fun _ _ _ h => h) (.inl ⟨rfl, fun w1 hS1 => ?_⟩) hS ?_
  rotate_left
  · obtain ⟨s1, s2, s3, s4, s5, s6⟩ := hS1
    go_simp
    rfl
  simp only [Act.put, List.setIfInBounds_toArray, List.set_cons_zero, List.set_cons_succ]
  refine wpAnyH_take (i := 1) (v := ?_) rfl (by kernel_rfl) (by kernel_rfl) (by kernel_rfl) (fun _ _ _ h => h) (.inl ⟨rfl, fun w1 hS1 => ?_⟩) hS ?_
  rotate_left
  · obtain ⟨s1, s2, s3, s4, s5, s6⟩ := hS1
    go_simp
    rfl
  simp only [Act.put, List.setIfInBounds_toArray, List.set_cons_zero, List.set_cons_succ]
  refine wpAnyH_take (i := 2) (v := ?_) rfl (by kernel_rfl) (by kernel_rfl) (by kernel_rfl) (fun _ _ _ h => h) (.inl ⟨rfl, fun w1 hS1 => ?_⟩) hS ?_
  rotate_left
  · obtain ⟨s1, s2, s3, s4, s5, s6⟩ := hS1
    go_simp
    rfl
  simp only [Act.put, List.setIfInBounds_toArray, List.set_cons_zero, List.set_cons_succ]
  refine wpAnyH_take (i := 3) (v := ?_) rfl (by kernel_rfl) (by kernel_rfl) (by kernel_rfl) (fun _ _ _ h => h) (.inl ⟨rfl, fun w1 hS1 => ?_⟩) hS ?_
  rotate_left
  · obtain ⟨s1, s2, s3, s4, s5, s6⟩ := hS1
    go_simp
    rfl
  simp only [Act.put, List.setIfInBounds_toArray, List.set_cons_zero, List.set_cons_succ]
  refine wpAnyH_take (i := 4) (v := ?_) rfl (by kernel_rfl) (by kernel_rfl) (by kernel_rfl) (fun _ _ _ h => h) (.inl ⟨rfl, fun w1 hS1 => ?_⟩) hS ?_
  rotate_left
  · obtain ⟨s1, s2, s3, s4, s5, s6⟩ := hS1
    go_simp
    rfl
  simp only [Act.put, List.setIfInBounds_toArray, List.set_cons_zero, List.set_cons_succ]
  refine wpAnyH_take (i := 5) (v := ?_) rfl (by kernel_rfl) (by kernel_rfl) (by kernel_rfl) (fun _ _ _ h => h) (.inl ⟨rfl, fun w1 hS1 => ?_⟩) hS ?_
  rotate_left
  · obtain ⟨s1, s2, s3, s4, s5, s6⟩ := hS1
    go_simp
    rfl
  simp only [Act.put, List.setIfInBounds_toArray, List.set_cons_zero, List.set_cons_succ]
  refine wpAnyH_take (i := 6) (v := ?_) rfl (by kernel_rfl) (by kernel_rfl) (by kernel_rfl) (fun _ _ _ h => h) (.inl ⟨rfl, fun w1 hS1 => ?_⟩) hS ?_
  rotate_left
  · obtain ⟨s1, s2, s3, s4, s5, s6⟩ := hS1
    go_simp
    rfl
  simp only [Act.put, List.setIfInBounds_toArray, List.set_cons_zero, List.set_cons_succ]
  refine wpAnyH_ready (rs := [7]) (by kernel_rfl) (by simp) ?_
  refine AllReadyH.cons rfl (fun K hK => ?_) AllReadyH.nil
  go_simp
  have hj := joined_any (a 2) (b 2) (hok 2) (hbk 2) V2.drew
  unfold ev at hj
  refine hj.mono ?_
  rintro e U2 ⟨rfl, g2⟩
  have g2 : Fr [] V2 U2 := ⟨g2.os, g2.tape, g2.output, g2.size, g2.block⟩
  have L2 := K2.kept (g2.mono (by simp)) (K2.pat.fr g2 (by simp)) hlt hpb
  clear hj hS
  have hS := And.intro (L2.ra 6) (And.intro (L2.ra 7) (And.intro (L2.ra 8) (And.intro (L2.rb 6) (And.intro (L2.rb 7) (L2.rb 8)))))
  refine hK _ _ hS ?_
  clear hK K
  intro _
  refine wpAnyH_take (i := 8) (v := ?_) rfl (by kernel_rfl) (by kernel_rfl) (by kernel_rfl) (fun _ _ _ h => h) (.inl ⟨rfl, fun w1 hS1 => ?_⟩) hS ?_
  rotate_left
  · go_simp
    rfl
  simp only [Act.put, List.setIfInBounds_toArray, List.set_cons_zero, List.set_cons_succ]
  have e0 : U2.cell? ⟨w.heap.size + 1 + 1 + 1, 6, none⟩ = some (.bool false) := L2.ro 6
  have e1 : U2.cell? ⟨w.heap.size + 1 + 1 + 1, 7, none⟩ = some (.int .u64 0) := L2.ro 7
  have e2 : U2.cell? ⟨w.heap.size + 1 + 1 + 1, 8, none⟩ = some (.int .u64 0) := L2.ro 8
  have e3 := L2.zo 6
  have e4 := L2.zo 7
  have e5 := L2.zo 8
  refine wpAnyH_ready (rs := [9]) (by kernel_rfl) (by simp) ?_
  refine AllReadyH.cons rfl (fun K hK => ?_) AllReadyH.nil
  go_simp
  clear hS e0 e1 e2 e3 e4 e5
  have J3 := ((L2.set hlt 6 (by simp) (.bool (joinedF (a 2) (b 2)).e)).set hlt 7 (by simp) (.int .u64 (joinedF (a 2) (b 2)).f)).set hlt 8 (by simp) (.int .u64 (joinedF (a 2) (b 2)).l)
  clear J2 K2 L2
  generalize ((U2.setCell { block := w.heap.size + 1 + 1 + 1, off := 6 } (Value.bool (joinedF (a 2) (b 2)).e)).setCell
          { block := w.heap.size + 1 + 1 + 1, off := 7 } (Value.int IntKind.u64 ↑(joinedF (a 2) (b 2)).f)).setCell
      { block := w.heap.size + 1 + 1 + 1, off := 8 } (Value.int IntKind.u64 ↑(joinedF (a 2) (b 2)).l) = W3 at *
  refine hK _ _ ⟨J3.ra 6, J3.ra 7, J3.ra 8, J3.rb 6, J3.rb 7, J3.rb 8⟩ ?_
  clear hK K
  intro _
  refine wpAnyH_done (by kernel_rfl) ?_ _
  go_wp2
  rw [rounds_succ]
  have c3a : W3.cell? ⟨w.heap.size, 11, none⟩ = some (.int .u64 (a 3).l) := J3.ra 11
  have c3b : W3.cell? ⟨w.heap.size + 1, 10, none⟩ = some (.int .u64 (b 3).f) := J3.rb 10
  go_wp2
  refine wp_region_tail 10 hm (by kernel_rfl) ?_
  simp only [List.take_succ_cons, List.take_zero, List.drop_succ_cons, List.drop_zero]
  repeat still_step
  refine wpStill_nil ?_
  go_wp2_with fail
  refine (tie_any pb 3 (a 3).l (b 3).f (by decide) (hl 3) (hbk 3).1 W3.drew wh tk _ (J3.pat.of_block rfl) b3 (J3.tab.of_block rfl) hpb).mono ?_
  rintro e V3 ⟨rfl, P3, f3⟩
  have f3 : Fr [pb] W3 V3 := ⟨f3.os, f3.tape, f3.output, f3.size, f3.block⟩
  have K3 := J3.kept f3 P3 hlt hpb
  have b4 := tieF_lt (sp := 3) (src := (a 3).l) b3 (hbk 3).1
  clear c3a c3b
  go_wp2
  refine wp_region_heldD (fun w1 => w1.cell? ⟨w.heap.size, 9, none⟩ = some (.bool (a 3).e) ∧ w1.cell? ⟨w.heap.size, 10, none⟩ = some (.int .u64 (a 3).f) ∧ w1.cell? ⟨w.heap.size, 11, none⟩ = some (.int .u64 (a 3).l) ∧
    w1.cell? ⟨w.heap.size + 1, 9, none⟩ = some (.bool (b 3).e) ∧ w1.cell? ⟨w.heap.size + 1, 10, none⟩ = some (.int .u64 (b 3).f) ∧ w1.cell? ⟨w.heap.size + 1, 11, none⟩ = some (.int .u64 (b 3).l)) hm ?_
  have hS := And.intro (K3.ra 9) (And.intro (K3.ra 10) (And.intro (K3.ra 11) (And.intro (K3.rb 9) (And.intro (K3.rb 10) (K3.rb 11)))))
  refine wpAnyH_take (i := 0) (v := ?_) rfl (by kernel_rfl) (by kernel_rfl) (by kernel_rfl) (fun _ _ _ h => h) (.inl ⟨rfl, fun w1 hS1 => ?_⟩) hS ?_
  rotate_left
  · obtain ⟨s1, s2, s3, s4, s5, s6⟩ := hS1
    go_simp
    rfl
  simp only [Act.put, List.setIfInBounds_toArray, List.set_cons_zero, List.set_cons_succ]
  refine wpAnyH_take (i := 1) (v := ?_) rfl (by kernel_rfl) (by kernel_rfl) (by kernel_rfl) (fun _ _ _ h => h) (.inl ⟨rfl, fun w1 hS1 => ?_⟩) hS ?_
  rotate_left
  · obtain ⟨s1, s2, s3, s4, s5, s6⟩ := hS1
    go_simp
    rfl
  simp only [Act.put, List.setIfInBounds_toArray, List.set_cons_zero, List.set_cons_succ]
  refine wpAnyH_take (i := 2) (v := ?_) rfl (by kernel_rfl) (by kernel_rfl) (by kernel_rfl) (fun _ _ _ h => h) (.inl ⟨rfl, fun w1 hS1 => ?_⟩) hS ?_
  rotate_left
  · obtain ⟨s1, s2, s3, s4, s5, s6⟩ := hS1
    go_simp
    rfl
  simp only [Act.put, List.setIfInBounds_toArray, List.set_cons_zero, List.set_cons_succ]
  refine wpAnyH_take (i := 3) (v := ?_) rfl (by kernel_rfl) (by kernel_rfl) (by kernel_rfl) (fun _ _ _ h => h) (.inl ⟨rfl, fun w1 hS1 => ?_⟩) hS ?_
  rotate_left
  · obtain ⟨s1, s2, s3, s4, s5, s6⟩ := hS1
    go_simp
    rfl
  simp only [Act.put, List.setIfInBounds_toArray, List.set_cons_zero, List.set_cons_succ]
  refine wpAnyH_take (i := 4) (v := ?_) rfl (by kernel_rfl) (by kernel_rfl) (by kernel_rfl) (fun _ _ _ h => h) (.inl ⟨rfl, fun w1 hS1 => ?_⟩) hS ?_
  rotate_left
  · obtain ⟨s1, s2, s3, s4, s5, s6⟩ := hS1
    go_simp
    rfl
  simp only [Act.put, List.setIfInBounds_toArray, List.set_cons_zero, List.set_cons_succ]
  refine wpAnyH_take (i := 5) (v := ?_) rfl (by kernel_rfl) (by kernel_rfl) (by kernel_rfl) (fun _ _ _ h => h) (.inl ⟨rfl, fun w1 hS1 => ?_⟩) hS ?_
  rotate_left
  · obtain ⟨s1, s2, s3, s4, s5, s6⟩ := hS1
    go_simp
    rfl
  simp only [Act.put, List.setIfInBounds_toArray, List.set_cons_zero, List.set_cons_succ]
  refine wpAnyH_take (i := 6) (v := ?_) rfl (by kernel_rfl) (by kernel_rfl) (by kernel_rfl) (fun _ _ _ h => h) (.inl ⟨rfl, fun w1 hS1 => ?_⟩) hS ?_
  rotate_left
  · obtain ⟨s1, s2, s3, s4, s5, s6⟩ := hS1
    go_simp
    rfl
  simp only [Act.put, List.setIfInBounds_toArray, List.set_cons_zero, List.set_cons_succ]
  refine wpAnyH_ready (rs := [7]) (by kernel_rfl) (by simp) ?_
  refine AllReadyH.cons rfl (fun K hK => ?_) AllReadyH.nil
  go_simp
  have hj := joined_any (a 3) (b 3) (hok 3) (hbk 3) V3.drew
  unfold ev at hj
  refine hj.mono ?_
  rintro e U3 ⟨rfl, g3⟩
  have g3 : Fr [] V3 U3 := ⟨g3.os, g3.tape, g3.output, g3.size, g3.block⟩
  have L3 := K3.kept (g3.mono (by simp)) (K3.pat.fr g3 (by simp)) hlt hpb
  clear hj hS
  have hS := And.intro (L3.ra 9) (And.intro (L3.ra 10) (And.intro (L3.ra 11) (And.intro (L3.rb 9) (And.intro (L3.rb 10) (L3.rb 11)))))
  refine hK _ _ hS ?_
  clear hK K
  intro _
  refine wpAnyH_take (i := 8) (v := ?_) rfl (by kernel_rfl) (by kernel_rfl) (by kernel_rfl) (fun _ _ _ h => h) (.inl ⟨rfl, fun w1 hS1 => ?_⟩) hS ?_
  rotate_left
  · go_simp
    rfl
  simp only [Act.put, List.setIfInBounds_toArray, List.set_cons_zero, List.set_cons_succ]
  have e0 : U3.cell? ⟨w.heap.size + 1 + 1 + 1, 9, none⟩ = some (.bool false) := L3.ro 9
  have e1 : U3.cell? ⟨w.heap.size + 1 + 1 + 1, 10, none⟩ = some (.int .u64 0) := L3.ro 10
  have e2 : U3.cell? ⟨w.heap.size + 1 + 1 + 1, 11, none⟩ = some (.int .u64 0) := L3.ro 11
  have e3 := L3.zo 9
  have e4 := L3.zo 10
  have e5 := L3.zo 11
  refine wpAnyH_ready (rs := [9]) (by kernel_rfl) (by simp) ?_
  refine AllReadyH.cons rfl (fun K hK => ?_) AllReadyH.nil
  go_simp
  clear hS e0 e1 e2 e3 e4 e5
  have J4 := ((L3.set hlt 9 (by simp) (.bool (joinedF (a 3) (b 3)).e)).set hlt 10 (by simp) (.int .u64 (joinedF (a 3) (b 3)).f)).set hlt 11 (by simp) (.int .u64 (joinedF (a 3) (b 3)).l)
  clear J3 K3 L3
  generalize ((U3.setCell { block := w.heap.size + 1 + 1 + 1, off := 9 } (Value.bool (joinedF (a 3) (b 3)).e)).setCell
          { block := w.heap.size + 1 + 1 + 1, off := 10 } (Value.int IntKind.u64 ↑(joinedF (a 3) (b 3)).f)).setCell
      { block := w.heap.size + 1 + 1 + 1, off := 11 } (Value.int IntKind.u64 ↑(joinedF (a 3) (b 3)).l) = W4 at *
  refine hK _ _ ⟨J4.ra 9, J4.ra 10, J4.ra 11, J4.rb 9, J4.rb 10, J4.rb 11⟩ ?_
  clear hK K
  intro _
  refine wpAnyH_done (by kernel_rfl) ?_ _
  go_wp2
  rw [rounds_succ]
  have x0 : W4.cell? ⟨w.heap.size + 1 + 1 + 1, 0, none⟩ = some (.bool (joinedF (a 0) (b 0)).e) := J4.ro 0
  have y0 : W4.cell? ⟨w.heap.size + 1 + 1, 0, none⟩ = some (.bool false) := J4.rr 0
  have z0 := J4.zr 0
  have x1 : W4.cell? ⟨w.heap.size + 1 + 1 + 1, 1, none⟩ = some (.int .u64 (joinedF (a 0) (b 0)).f) := J4.ro 1
  have y1 : W4.cell? ⟨w.heap.size + 1 + 1, 1, none⟩ = some (.int .u64 0) := J4.rr 1
  have z1 := J4.zr 1
  have x2 : W4.cell? ⟨w.heap.size + 1 + 1 + 1, 2, none⟩ = some (.int .u64 (joinedF (a 0) (b 0)).l) := J4.ro 2
  have y2 : W4.cell? ⟨w.heap.size + 1 + 1, 2, none⟩ = some (.int .u64 0) := J4.rr 2
  have z2 := J4.zr 2
  have x3 : W4.cell? ⟨w.heap.size + 1 + 1 + 1, 3, none⟩ = some (.bool (joinedF (a 1) (b 1)).e) := J4.ro 3
  have y3 : W4.cell? ⟨w.heap.size + 1 + 1, 3, none⟩ = some (.bool false) := J4.rr 3
  have z3 := J4.zr 3
  have x4 : W4.cell? ⟨w.heap.size + 1 + 1 + 1, 4, none⟩ = some (.int .u64 (joinedF (a 1) (b 1)).f) := J4.ro 4
  have y4 : W4.cell? ⟨w.heap.size + 1 + 1, 4, none⟩ = some (.int .u64 0) := J4.rr 4
  have z4 := J4.zr 4
  have x5 : W4.cell? ⟨w.heap.size + 1 + 1 + 1, 5, none⟩ = some (.int .u64 (joinedF (a 1) (b 1)).l) := J4.ro 5
  have y5 : W4.cell? ⟨w.heap.size + 1 + 1, 5, none⟩ = some (.int .u64 0) := J4.rr 5
  have z5 := J4.zr 5
  have x6 : W4.cell? ⟨w.heap.size + 1 + 1 + 1, 6, none⟩ = some (.bool (joinedF (a 2) (b 2)).e) := J4.ro 6
  have y6 : W4.cell? ⟨w.heap.size + 1 + 1, 6, none⟩ = some (.bool false) := J4.rr 6
  have z6 := J4.zr 6
  have x7 : W4.cell? ⟨w.heap.size + 1 + 1 + 1, 7, none⟩ = some (.int .u64 (joinedF (a 2) (b 2)).f) := J4.ro 7
  have y7 : W4.cell? ⟨w.heap.size + 1 + 1, 7, none⟩ = some (.int .u64 0) := J4.rr 7
  have z7 := J4.zr 7
  have x8 : W4.cell? ⟨w.heap.size + 1 + 1 + 1, 8, none⟩ = some (.int .u64 (joinedF (a 2) (b 2)).l) := J4.ro 8
  have y8 : W4.cell? ⟨w.heap.size + 1 + 1, 8, none⟩ = some (.int .u64 0) := J4.rr 8
  have z8 := J4.zr 8
  have x9 : W4.cell? ⟨w.heap.size + 1 + 1 + 1, 9, none⟩ = some (.bool (joinedF (a 3) (b 3)).e) := J4.ro 9
  have y9 : W4.cell? ⟨w.heap.size + 1 + 1, 9, none⟩ = some (.bool false) := J4.rr 9
  have z9 := J4.zr 9
  have x10 : W4.cell? ⟨w.heap.size + 1 + 1 + 1, 10, none⟩ = some (.int .u64 (joinedF (a 3) (b 3)).f) := J4.ro 10
  have y10 : W4.cell? ⟨w.heap.size + 1 + 1, 10, none⟩ = some (.int .u64 0) := J4.rr 10
  have z10 := J4.zr 10
  have x11 : W4.cell? ⟨w.heap.size + 1 + 1 + 1, 11, none⟩ = some (.int .u64 (joinedF (a 3) (b 3)).l) := J4.ro 11
  have y11 : W4.cell? ⟨w.heap.size + 1 + 1, 11, none⟩ = some (.int .u64 0) := J4.rr 11
  have z11 := J4.zr 11
  go_wp2
  refine bodyPost_ret (v := pv (joinF a b)) (by simp [results, Tryd.results83, go_sem, pv, joinF, x0, x1, x2, x3, x4, x5, x6, x7, x8, x9, x10, x11, y0, y1, y2, y3, y4, y5, y6, y7, y8, y9, y10, y11]) rfl ⟨rfl, ?_, ?_⟩
  · have hfr := far_sets W4 (w.heap.size + 1 + 1) (.bool (joinedF (a 0) (b 0)).e) (.int .u64 (joinedF (a 0) (b 0)).f) (.int .u64 (joinedF (a 0) (b 0)).l) (.bool (joinedF (a 1) (b 1)).e) (.int .u64 (joinedF (a 1) (b 1)).f) (.int .u64 (joinedF (a 1) (b 1)).l) (.bool (joinedF (a 2) (b 2)).e) (.int .u64 (joinedF (a 2) (b 2)).f) (.int .u64 (joinedF (a 2) (b 2)).l) (.bool (joinedF (a 3) (b 3)).e) (.int .u64 (joinedF (a 3) (b 3)).f) (.int .u64 (joinedF (a 3) (b 3)).l)
    exact (J4.pat.fr hfr (by simp; omega)).congr (fun _ _ => rfl) (fun s c hs _ => tieP_four fo a b s c hs)
  · have hfr := far_sets W4 (w.heap.size + 1 + 1) (.bool (joinedF (a 0) (b 0)).e) (.int .u64 (joinedF (a 0) (b 0)).f) (.int .u64 (joinedF (a 0) (b 0)).l) (.bool (joinedF (a 1) (b 1)).e) (.int .u64 (joinedF (a 1) (b 1)).f) (.int .u64 (joinedF (a 1) (b 1)).l) (.bool (joinedF (a 2) (b 2)).e) (.int .u64 (joinedF (a 2) (b 2)).f) (.int .u64 (joinedF (a 2) (b 2)).l) (.bool (joinedF (a 3) (b 3)).e) (.int .u64 (joinedF (a 3) (b 3)).f) (.int .u64 (joinedF (a 3) (b 3)).l)
    exact J4.fr.trans' hfr (by simp; omega)

end Go.Proofs.YticaoekmlaipnaaDoor
