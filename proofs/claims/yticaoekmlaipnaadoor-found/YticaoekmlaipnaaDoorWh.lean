/-
  A piece behind itself; a piece behind another.
-/
import Derived.Test.YticaoekmlaipnaaDoorWf
set_option linter.unusedSimpArgs false
set_option linter.unusedVariables false
namespace Go.Proofs.YticaoekmlaipnaaDoor
open Go.RowKit


theorem tieF_lt {fo : Nat → Nat → Nat} {sp src dst : Nat} (hfo : ∀ s a, fo s a < 18446744073709551616) (hdst : dst < 18446744073709551616) (s a : Nat) : tieF fo sp src dst s a < 18446744073709551616 := by
  unfold tieF
  split
  · exact Nat.or_lt_two_pow (n := 64) (hfo s a) hdst
  · exact hfo s a

theorem tieP_four (fo : Nat → Nat → Nat) (q r : Piece) (s a : Nat) (hs : s < 4) :
    tieF (tieF (tieF (tieF fo 0 (q 0).l (r 0).f) 1 (q 1).l (r 1).f) 2 (q 2).l (r 2).f) 3 (q 3).l (r 3).f s a = tieP fo q r s a := by
  obtain rfl | rfl | rfl | rfl : s = 0 ∨ s = 1 ∨ s = 2 ∨ s = 3 := by omega
  all_goals simp [tieF, tieP]

/-- A block's cells, as a list. -/
def RowIs (W : World) (b : Nat) (l : List Value) : Prop := ∀ i, W.cell? ⟨b, i, none⟩ = l[i]?
theorem RowIs.fr {S : List Nat} {w w' : World} {b : Nat} {l : List Value} (h : RowIs w b l) (hf : Fr S w w') (hb : b ∉ S) (hlt : b < w.heap.size) : RowIs w' b l := fun i => (hf.cell (p := ⟨b, i, none⟩) hlt hb).trans (h i)
theorem RowIs.set {w : World} {b : Nat} {l : List Value} (h : RowIs w b l) (k : Nat) (hk : k < l.length) (v : Value) : RowIs (w.setCell ⟨b, k, none⟩ v) b (l.set k v) := fun i => by
  by_cases e : k = i
  · subst e
    rw [List.getElem?_set_self hk]
    exact World.cell?_setCell_same' _ _ _ (by rw [h k, List.getElem?_eq_getElem hk]; rfl)
  · rw [List.getElem?_set_ne e]; exact (setCell_off e).trans (h i)
theorem rowIs_new (W : World) (l : List Value) (t : TypeId) : RowIs (W.alloc (.cells l.toArray t)) W.heap.size l := fun i => by
  have h := World.alloc_heap_new W (.cells l.toArray t)
  unfold World.cell?; rw [h]; simp

set_option maxRecDepth 100000 in
set_option maxHeartbeats 2000000 in
theorem repeat_any (pb : Nat) (q : Piece) (w : World) (wh : Nat → Value) (tk : Nat → Nat) (fo : Nat → Nat → Nat)
    (hl : ∀ s, (q s).l < 1125899906842624) (hf : ∀ s, (q s).f < 18446744073709551616) (hP : PatAt w pb wh tk fo) (hfo : ∀ s a, fo s a < 18446744073709551616) (hT : Tab w) (hpb : pb ≠ 0) :
    Calls Tryd.prog 97 #[.pointer (some ⟨pb, 0, none⟩), pv q] w fun e w' => e = .returned (.tuple #[]) ∧ PatAt w' pb wh tk (tieP fo q q) ∧ Fr [pb] w w' := by
  have hm : Tryd.prog.follows Departure.mixedOrders = true := by kernel_rfl
  have hlt := hP.lt
  obtain ⟨W0, hW0⟩ : ∃ W0, w.alloc (Obj.cells #[.bool (q 0).e, .int .u64 (q 0).f, .int .u64 (q 0).l, .bool (q 1).e, .int .u64 (q 1).f, .int .u64 (q 1).l, .bool (q 2).e, .int .u64 (q 2).f, .int .u64 (q 2).l, .bool (q 3).e, .int .u64 (q 3).f, .int .u64 (q 3).l] 73) = W0 := ⟨_, rfl⟩
  have f0 : Fr [pb] w W0 := by rw [← hW0]; exact (Fr.refl _ _).alloc _
  have g0 : Fr [] w W0 := by rw [← hW0]; exact (Fr.refl _ _).alloc _
  have r0 : RowIs W0 w.heap.size [.bool (q 0).e, .int .u64 (q 0).f, .int .u64 (q 0).l, .bool (q 1).e, .int .u64 (q 1).f, .int .u64 (q 1).l, .bool (q 2).e, .int .u64 (q 2).f, .int .u64 (q 2).l, .bool (q 3).e, .int .u64 (q 3).f, .int .u64 (q 3).l] := by rw [← hW0]; exact rowIs_new w _ 73
  have z0 : W0.heap.size = w.heap.size + 1 := by rw [← hW0]; simp
  have P0 := hP.fr g0 (by simp)
  have T0 := hT.fr g0 (by simp)
  have b0 := hfo
  unfold pv
  go_enter Tryd.func97, Tryd.ntmps97
  go_wp2
  clear hW0
  refine wp_loop_rounds 5 ?_
  rw [rounds_succ]
  have c0a : W0.cell? ⟨w.heap.size, 2, none⟩ = some (.int .u64 (q 0).l) := r0 2
  have c0b : W0.cell? ⟨w.heap.size, 1, none⟩ = some (.int .u64 (q 0).f) := r0 1
  go_wp2
  refine wp_region_tail 10 hm (by kernel_rfl) ?_
  simp only [List.take_succ_cons, List.take_zero, List.drop_succ_cons, List.drop_zero]
  repeat still_step
  refine wpStill_nil ?_
  go_wp2_with fail
  refine (tie_any pb 0 (q 0).l (q 0).f (by decide) (hl 0) (hf 0) W0.drew wh tk _ (P0.of_block rfl) b0 (T0.of_block rfl) hpb).mono ?_
  rintro e W1 ⟨rfl, P1, f1'⟩
  have f1' : Fr [pb] W0 W1 := ⟨f1'.os, f1'.tape, f1'.output, f1'.size, f1'.block⟩
  have f1 := f0.trans f1'
  have r1 := r0.fr f1' (by simp; omega) (lt_of_cell c0a)
  have T1 := T0.fr f1' (by simpa using fun e => hpb e.symm)
  have b1 := tieF_lt (sp := 0) (src := (q 0).l) b0 (hf 0)
  go_wp2
  rw [rounds_succ]
  have c1a : W1.cell? ⟨w.heap.size, 5, none⟩ = some (.int .u64 (q 1).l) := r1 5
  have c1b : W1.cell? ⟨w.heap.size, 4, none⟩ = some (.int .u64 (q 1).f) := r1 4
  go_wp2
  refine wp_region_tail 10 hm (by kernel_rfl) ?_
  simp only [List.take_succ_cons, List.take_zero, List.drop_succ_cons, List.drop_zero]
  repeat still_step
  refine wpStill_nil ?_
  go_wp2_with fail
  refine (tie_any pb 1 (q 1).l (q 1).f (by decide) (hl 1) (hf 1) W1.drew wh tk _ (P1.of_block rfl) b1 (T1.of_block rfl) hpb).mono ?_
  rintro e W2 ⟨rfl, P2, f2'⟩
  have f2' : Fr [pb] W1 W2 := ⟨f2'.os, f2'.tape, f2'.output, f2'.size, f2'.block⟩
  have f2 := f1.trans f2'
  have r2 := r1.fr f2' (by simp; omega) (lt_of_cell c1a)
  have T2 := T1.fr f2' (by simpa using fun e => hpb e.symm)
  have b2 := tieF_lt (sp := 1) (src := (q 1).l) b1 (hf 1)
  go_wp2
  rw [rounds_succ]
  have c2a : W2.cell? ⟨w.heap.size, 8, none⟩ = some (.int .u64 (q 2).l) := r2 8
  have c2b : W2.cell? ⟨w.heap.size, 7, none⟩ = some (.int .u64 (q 2).f) := r2 7
  go_wp2
  refine wp_region_tail 10 hm (by kernel_rfl) ?_
  simp only [List.take_succ_cons, List.take_zero, List.drop_succ_cons, List.drop_zero]
  repeat still_step
  refine wpStill_nil ?_
  go_wp2_with fail
  refine (tie_any pb 2 (q 2).l (q 2).f (by decide) (hl 2) (hf 2) W2.drew wh tk _ (P2.of_block rfl) b2 (T2.of_block rfl) hpb).mono ?_
  rintro e W3 ⟨rfl, P3, f3'⟩
  have f3' : Fr [pb] W2 W3 := ⟨f3'.os, f3'.tape, f3'.output, f3'.size, f3'.block⟩
  have f3 := f2.trans f3'
  have r3 := r2.fr f3' (by simp; omega) (lt_of_cell c2a)
  have T3 := T2.fr f3' (by simpa using fun e => hpb e.symm)
  have b3 := tieF_lt (sp := 2) (src := (q 2).l) b2 (hf 2)
  go_wp2
  rw [rounds_succ]
  have c3a : W3.cell? ⟨w.heap.size, 11, none⟩ = some (.int .u64 (q 3).l) := r3 11
  have c3b : W3.cell? ⟨w.heap.size, 10, none⟩ = some (.int .u64 (q 3).f) := r3 10
  go_wp2
  refine wp_region_tail 10 hm (by kernel_rfl) ?_
  simp only [List.take_succ_cons, List.take_zero, List.drop_succ_cons, List.drop_zero]
  repeat still_step
  refine wpStill_nil ?_
  go_wp2_with fail
  refine (tie_any pb 3 (q 3).l (q 3).f (by decide) (hl 3) (hf 3) W3.drew wh tk _ (P3.of_block rfl) b3 (T3.of_block rfl) hpb).mono ?_
  rintro e W4 ⟨rfl, P4, f4'⟩
  have f4' : Fr [pb] W3 W4 := ⟨f4'.os, f4'.tape, f4'.output, f4'.size, f4'.block⟩
  have f4 := f3.trans f4'
  have r4 := r3.fr f4' (by simp; omega) (lt_of_cell c3a)
  have T4 := T3.fr f4' (by simpa using fun e => hpb e.symm)
  have b4 := tieF_lt (sp := 3) (src := (q 3).l) b3 (hf 3)
  go_wp2
  rw [rounds_succ]
  go_wp2
  go_end0
  exact ⟨rfl, P4.congr (fun _ _ => rfl) (fun s a hs _ => tieP_four fo q q s a hs), f4⟩

end Go.Proofs.YticaoekmlaipnaaDoor
