/-
  Read: a pattern is read.
-/
import Derived.Test.YticaoekmlaipnaaDoorWu
set_option linter.unusedSimpArgs false
set_option linter.unusedVariables false
namespace Go.Proofs.YticaoekmlaipnaaDoor
open Go.RowKit

def st0 : St := ⟨0, false, 0, fun _ => 0, fun _ _ => 0⟩
/-- What is read of a text. -/
def readF (t : ByteArray) : Piece × St := altF t 400 st0
def readOk (t : ByteArray) : Bool := !(readF t).2.fault && decide (t.size ≤ (readF t).2.pos)

theorem st0_inv (t : ByteArray) : Inv t st0 := ⟨Nat.zero_le _, Nat.le_refl _, fun _ => Nat.one_pos, fun _ _ => Nat.one_pos⟩

/-- The first cells of a pattern that hold a piece. -/
def whF (q : Piece) : Nat → Value := fun i => ([.bool (q 0).e, .int .u64 (q 0).f, .int .u64 (q 0).l, .bool (q 1).e, .int .u64 (q 1).f, .int .u64 (q 1).l, .bool (q 2).e, .int .u64 (q 2).f, .int .u64 (q 2).l, .bool (q 3).e, .int .u64 (q 3).f, .int .u64 (q 3).l] : List Value).getD i (.bool false)
def wh0 : Nat → Value := fun i => ([Value.bool false, Value.int .u64 0, Value.int .u64 0, Value.bool false, Value.int .u64 0, Value.int .u64 0, Value.bool false, Value.int .u64 0, Value.int .u64 0, Value.bool false, Value.int .u64 0, Value.int .u64 0] : List Value).getD i (.bool false)

set_option maxHeartbeats 400000 in
theorem read_long (t : ByteArray) (w : World) (h : 50 < t.size) (hs : t.size ≤ maxLen) :
    Calls Tryd.prog 26 #[.string t] w fun e w' => e = .returned (.tuple #[.pointer none, .int .i64 0, .int .i64 1]) ∧ w' = w := by
  unfold maxLen at hs
  have g1 : (50 : Int) < t.size := by omega
  go_enter Tryd.func26, Tryd.ntmps26
  go_wp2
  go_ret3
  exact ⟨rfl, rfl⟩

theorem zero62 : Tryd.zeroCells78 = (([Value.bool false, Value.int .u64 0, Value.int .u64 0, Value.bool false, Value.int .u64 0, Value.int .u64 0, Value.bool false, Value.int .u64 0, Value.int .u64 0, Value.bool false, Value.int .u64 0, Value.int .u64 0] : List Value) ++ List.replicate 456 (Value.int .u64 0)).toArray := by kernel_rfl

theorem PatAt.new (W : World) : PatAt (W.alloc (.cells Tryd.zeroCells78 78)) W.heap.size wh0 (fun _ => 0) (fun _ _ => 0) := by
  have h := World.alloc_heap_new W (.cells Tryd.zeroCells78 78)
  rw [zero62] at h ⊢
  have hc : ∀ i, (W.alloc (.cells (([Value.bool false, Value.int .u64 0, Value.int .u64 0, Value.bool false, Value.int .u64 0, Value.int .u64 0, Value.bool false, Value.int .u64 0, Value.int .u64 0, Value.bool false, Value.int .u64 0, Value.int .u64 0] : List Value) ++ List.replicate 456 (Value.int .u64 0)).toArray 78)).cell? ⟨W.heap.size, i, none⟩ = (([Value.bool false, Value.int .u64 0, Value.int .u64 0, Value.bool false, Value.int .u64 0, Value.int .u64 0, Value.bool false, Value.int .u64 0, Value.int .u64 0, Value.bool false, Value.int .u64 0, Value.int .u64 0] : List Value) ++ List.replicate 456 (Value.int .u64 0))[i]? := fun i => by
    unfold World.cell?; rw [h]; exact List.getElem?_toArray
  have hz : ∀ i, 12 ≤ i → i < 468 → (([Value.bool false, Value.int .u64 0, Value.int .u64 0, Value.bool false, Value.int .u64 0, Value.int .u64 0, Value.bool false, Value.int .u64 0, Value.int .u64 0, Value.bool false, Value.int .u64 0, Value.int .u64 0] : List Value) ++ List.replicate 456 (Value.int .u64 0))[i]? = some (Value.int .u64 0) := fun i h1 h2 => by
    rw [List.getElem?_append_right (by simpa using h1), List.getElem?_replicate, if_pos (by simp; omega)]
  refine ⟨fun i hi => ?_, fun b hb => ?_, fun s a hs ha => ?_, fun i hi => ?_⟩
  · rw [hc, List.getElem?_append_left (by simpa using hi)]
    unfold wh0
    rw [List.getD_eq_getElem?_getD, List.getElem?_eq_getElem (by simpa using hi)]
    rfl
  · rw [hc, hz _ (by omega) (by omega)]; rfl
  · rw [hc, hz _ (by omega) (by omega)]; rfl
  · unfold World.frozen?; rw [h]; simp

theorem PatAt.setWhole {w : World} {pb : Nat} {wh : Nat → Value} {tk : Nat → Nat} {fo : Nat → Nat → Nat} (h : PatAt w pb wh tk fo) (q : Piece) : PatAt ((((((((((((w.setCell { block := pb, off := 0 } (.bool (q 0).e)).setCell { block := pb, off := 1 } (.int .u64 (q 0).f)).setCell { block := pb, off := 2 } (.int .u64 (q 0).l)).setCell { block := pb, off := 3 } (.bool (q 1).e)).setCell { block := pb, off := 4 } (.int .u64 (q 1).f)).setCell { block := pb, off := 5 } (.int .u64 (q 1).l)).setCell { block := pb, off := 6 } (.bool (q 2).e)).setCell { block := pb, off := 7 } (.int .u64 (q 2).f)).setCell { block := pb, off := 8 } (.int .u64 (q 2).l)).setCell { block := pb, off := 9 } (.bool (q 3).e)).setCell { block := pb, off := 10 } (.int .u64 (q 3).f)).setCell { block := pb, off := 11 } (.int .u64 (q 3).l)) pb (whF q) tk fo := by
  have hr : ∀ i, 12 ≤ i → ((((((((((((w.setCell { block := pb, off := 0 } (.bool (q 0).e)).setCell { block := pb, off := 1 } (.int .u64 (q 0).f)).setCell { block := pb, off := 2 } (.int .u64 (q 0).l)).setCell { block := pb, off := 3 } (.bool (q 1).e)).setCell { block := pb, off := 4 } (.int .u64 (q 1).f)).setCell { block := pb, off := 5 } (.int .u64 (q 1).l)).setCell { block := pb, off := 6 } (.bool (q 2).e)).setCell { block := pb, off := 7 } (.int .u64 (q 2).f)).setCell { block := pb, off := 8 } (.int .u64 (q 2).l)).setCell { block := pb, off := 9 } (.bool (q 3).e)).setCell { block := pb, off := 10 } (.int .u64 (q 3).f)).setCell { block := pb, off := 11 } (.int .u64 (q 3).l)).cell? ⟨pb, i, none⟩ = w.cell? ⟨pb, i, none⟩ := fun i hi => by
    rw [setCell_off (by omega)]
    rw [setCell_off (by omega)]
    rw [setCell_off (by omega)]
    rw [setCell_off (by omega)]
    rw [setCell_off (by omega)]
    rw [setCell_off (by omega)]
    rw [setCell_off (by omega)]
    rw [setCell_off (by omega)]
    rw [setCell_off (by omega)]
    rw [setCell_off (by omega)]
    rw [setCell_off (by omega)]
    rw [setCell_off (by omega)]
  refine ⟨fun i hi => ?_, fun b hb => (hr _ (by omega)).trans (h.ht b hb), fun s a hs ha => (hr _ (by omega)).trans (h.hf s a hs ha), fun i hi => (frozen_sets w pb (.bool (q 0).e) (.int .u64 (q 0).f) (.int .u64 (q 0).l) (.bool (q 1).e) (.int .u64 (q 1).f) (.int .u64 (q 1).l) (.bool (q 2).e) (.int .u64 (q 2).f) (.int .u64 (q 2).l) (.bool (q 3).e) (.int .u64 (q 3).f) (.int .u64 (q 3).l) _).trans (h.fz i hi)⟩
  have hex : ∀ j, j < 12 → (w.cell? ⟨pb, j, none⟩).isSome = true := fun j hj => by rw [h.hw j hj]; rfl
  obtain rfl | rfl | rfl | rfl | rfl | rfl | rfl | rfl | rfl | rfl | rfl | rfl : i = 0 ∨ i = 1 ∨ i = 2 ∨ i = 3 ∨ i = 4 ∨ i = 5 ∨ i = 6 ∨ i = 7 ∨ i = 8 ∨ i = 9 ∨ i = 10 ∨ i = 11 := by omega
  all_goals
    repeat rw [setCell_off (by decide)]
    rw [World.cell?_setCell_same' _ _ _ ?_]
    · rfl
    · repeat rw [setCell_off (by decide)]
      exact hex _ (by decide)

/-- What Read leaves. -/
def ReadPost (w : World) (ok : Bool) (q : Piece) (s : St) (e : Ending) (w' : World) : Prop := Fr [] w w' ∧
  if ok = true then ∃ pb, w.heap.size ≤ pb ∧ e = .returned (.tuple #[.pointer (some ⟨pb, 0, none⟩), .int .i64 0, .int .i64 0]) ∧ PatAt w' pb (whF q) s.tk s.fo
  else e = .returned (.tuple #[.pointer none, .int .i64 s.pos, .int .i64 2])

set_option maxRecDepth 100000 in
set_option maxHeartbeats 1000000 in
theorem read_any (t : ByteArray) (w : World) (hs : t.size ≤ 50) (hT : Tab w) :
    Calls Tryd.prog 26 #[.string t] w (ReadPost w (readOk t) (readF t).1 (readF t).2) := by
  have hm : Tryd.prog.follows Departure.mixedOrders = true := by kernel_rfl
  have g1 : ¬ ((50 : Int) < t.size) := by omega
  have hw0 := hT.lt
  have hal := fun (W : World) (r pb : Nat) (hW : M W r pb t wh0 st0) => (said_all 400).1 W r pb t wh0 st0 hW (st0_inv t) hs (by simp [st0]; omega)
  unfold Post at hal
  have gv := (givesAll t 400).alt st0 (st0_inv t)
  have gpos := gv.inv.pos
  unfold readOk
  change ∀ (W : World) (r pb : Nat), M W r pb t wh0 st0 → Calls Tryd.prog 39 _ W fun e w' => e = Ending.returned (pv (readF t).1) ∧ M w' r pb t wh0 (readF t).2 ∧ Fr [r, pb] W w' at hal
  change (readF t).2.pos ≤ t.size at gpos
  obtain ⟨q, hq⟩ : ∃ q, (readF t).1 = q := ⟨_, rfl⟩
  obtain ⟨s1, hs1⟩ : ∃ q, (readF t).2 = q := ⟨_, rfl⟩
  simp only [hq, hs1] at hal gpos ⊢
  clear hq hs1 gv
  have Hal : Hid _ := hal
  clear hal
  have f0 : Fr [] w ((w.alloc (Obj.cells Tryd.zeroCells78 78)).alloc (Obj.cells #[Value.string t, Value.int IntKind.i64 0, Value.bool false, Value.int IntKind.i64 0, Value.pointer (some { block := w.heap.size, off := 0 })] 80)) := ((Fr.refl [] _).alloc _).alloc _
  have m0 : M ((w.alloc (Obj.cells Tryd.zeroCells78 78)).alloc (Obj.cells #[Value.string t, Value.int IntKind.i64 0, Value.bool false, Value.int IntKind.i64 0, Value.pointer (some { block := w.heap.size, off := 0 })] 80)) (w.heap.size + 1) w.heap.size t wh0 st0 := by
    have hr := rowIs_new (w.alloc (Obj.cells Tryd.zeroCells78 78)) [Value.string t, Value.int IntKind.i64 0, Value.bool false, Value.int IntKind.i64 0, Value.pointer (some { block := w.heap.size, off := 0 })] 80
    have hz := frozen_all_new (w.alloc (Obj.cells Tryd.zeroCells78 78)) [Value.string t, Value.int IntKind.i64 0, Value.bool false, Value.int IntKind.i64 0, Value.pointer (some { block := w.heap.size, off := 0 })] 80
    rw [World.size_alloc] at hr hz
    exact ⟨⟨hr 0, hr 1, hr 2, hr 3, hr 4, hz 1, hz 2, hz 3⟩, (PatAt.new w).fr ((Fr.refl [] _).alloc _) (by simp), hT.fr f0 (by simp), by omega, by omega, by omega⟩
  go_enter Tryd.func26, Tryd.ntmps26
  go_wp2
  generalize (w.alloc (Obj.cells Tryd.zeroCells78 78)).alloc (Obj.cells #[Value.string t, Value.int IntKind.i64 0, Value.bool false, Value.int IntKind.i64 0, Value.pointer (some { block := w.heap.size, off := 0 })] 80) = W0 at *
  refine wp_region_heldD (fun w1 => w1.cell? ⟨w.heap.size + 1, 4, none⟩ = some (.pointer (some ⟨w.heap.size, 0, none⟩))) hm ?_
  have hS : (fun w1 : World => w1.cell? ⟨w.heap.size + 1, 4, none⟩ = some (.pointer (some ⟨w.heap.size, 0, none⟩))) W0.drew := m0.rd.c4
  refine wpAnyH_take (i := 0) (v := ?_) rfl (by kernel_rfl) (by kernel_rfl) (by kernel_rfl) (fun _ _ _ h => h) (.inl ⟨rfl, fun w1 hS1 => ?_⟩) hS ?_
  rotate_left
  · have s4 : w1.cell? ⟨w.heap.size + 1, 4, none⟩ = some (.pointer (some ⟨w.heap.size, 0, none⟩)) := hS1
    go_simp
    rfl
  simp only [Act.put, List.setIfInBounds_toArray, List.set_cons_zero, List.set_cons_succ]
  refine wpAnyH_take (i := 1) (v := ?_) rfl (by kernel_rfl) (by kernel_rfl) (by kernel_rfl) (fun _ _ _ h => h) (.inl ⟨rfl, fun w1 hS1 => ?_⟩) hS ?_
  rotate_left
  · have s4 : w1.cell? ⟨w.heap.size + 1, 4, none⟩ = some (.pointer (some ⟨w.heap.size, 0, none⟩)) := hS1
    go_simp
    rfl
  simp only [Act.put, List.setIfInBounds_toArray, List.set_cons_zero, List.set_cons_succ]
  refine wpAnyH_ready (rs := [2]) (by kernel_rfl) (by simp) ?_
  refine AllReadyH.cons rfl (fun K hK => ?_) AllReadyH.nil
  go_simp
  refine (Hal.out _ _ _ (m0.heap (w' := W0.drew) rfl)).mono ?_
  rintro e Wa ⟨rfl, ma, fa⟩
  have fa : Fr [w.heap.size + 1, w.heap.size] W0 Wa := ⟨fa.os, fa.tape, fa.output, fa.size, fa.block⟩
  have Fa : Fr [] w Wa := f0.trans' fa (by simp)
  unfold pv
  clear hS
  have hS := ma.rd.c4
  refine hK _ _ hS ?_
  clear hK K
  intro _
  refine wpAnyH_take (i := 3) (v := ?_) rfl (by kernel_rfl) (by kernel_rfl) (by kernel_rfl) (fun _ _ _ h => h) (.inl ⟨rfl, fun w1 hS1 => ?_⟩) hS ?_
  rotate_left
  · go_simp
    rfl
  simp only [Act.put, List.setIfInBounds_toArray, List.set_cons_zero, List.set_cons_succ]
  refine wpAnyH_take (i := 4) (v := ?_) rfl (by kernel_rfl) (by kernel_rfl) (by kernel_rfl) (fun _ _ _ h => h) (.inl ⟨rfl, fun w1 hS1 => ?_⟩) hS ?_
  rotate_left
  · go_simp
    rfl
  simp only [Act.put, List.setIfInBounds_toArray, List.set_cons_zero, List.set_cons_succ]
  have y0 : Wa.cell? ⟨w.heap.size, 0, none⟩ = some (.bool false) := ma.pat.hw 0 (by decide)
  have z0 := ma.pat.fz 0 (by decide)
  have y1 : Wa.cell? ⟨w.heap.size, 1, none⟩ = some (.int .u64 0) := ma.pat.hw 1 (by decide)
  have z1 := ma.pat.fz 1 (by decide)
  have y2 : Wa.cell? ⟨w.heap.size, 2, none⟩ = some (.int .u64 0) := ma.pat.hw 2 (by decide)
  have z2 := ma.pat.fz 2 (by decide)
  have y3 : Wa.cell? ⟨w.heap.size, 3, none⟩ = some (.bool false) := ma.pat.hw 3 (by decide)
  have z3 := ma.pat.fz 3 (by decide)
  have y4 : Wa.cell? ⟨w.heap.size, 4, none⟩ = some (.int .u64 0) := ma.pat.hw 4 (by decide)
  have z4 := ma.pat.fz 4 (by decide)
  have y5 : Wa.cell? ⟨w.heap.size, 5, none⟩ = some (.int .u64 0) := ma.pat.hw 5 (by decide)
  have z5 := ma.pat.fz 5 (by decide)
  have y6 : Wa.cell? ⟨w.heap.size, 6, none⟩ = some (.bool false) := ma.pat.hw 6 (by decide)
  have z6 := ma.pat.fz 6 (by decide)
  have y7 : Wa.cell? ⟨w.heap.size, 7, none⟩ = some (.int .u64 0) := ma.pat.hw 7 (by decide)
  have z7 := ma.pat.fz 7 (by decide)
  have y8 : Wa.cell? ⟨w.heap.size, 8, none⟩ = some (.int .u64 0) := ma.pat.hw 8 (by decide)
  have z8 := ma.pat.fz 8 (by decide)
  have y9 : Wa.cell? ⟨w.heap.size, 9, none⟩ = some (.bool false) := ma.pat.hw 9 (by decide)
  have z9 := ma.pat.fz 9 (by decide)
  have y10 : Wa.cell? ⟨w.heap.size, 10, none⟩ = some (.int .u64 0) := ma.pat.hw 10 (by decide)
  have z10 := ma.pat.fz 10 (by decide)
  have y11 : Wa.cell? ⟨w.heap.size, 11, none⟩ = some (.int .u64 0) := ma.pat.hw 11 (by decide)
  have z11 := ma.pat.fz 11 (by decide)
  refine wpAnyH_ready (rs := [5]) (by kernel_rfl) (by simp) ?_
  refine AllReadyH.cons rfl (fun K hK => ?_) AllReadyH.nil
  go_simp
  clear y0 z0 y1 z1 y2 z2 y3 z3 y4 z4 y5 z5 y6 z6 y7 z7 y8 z8 y9 z9 y10 z10 y11 z11
  have Pb := ma.pat.setWhole q
  have fb := far_sets Wa w.heap.size (.bool (q 0).e) (.int .u64 (q 0).f) (.int .u64 (q 0).l) (.bool (q 1).e) (.int .u64 (q 1).f) (.int .u64 (q 1).l) (.bool (q 2).e) (.int .u64 (q 2).f) (.int .u64 (q 2).l) (.bool (q 3).e) (.int .u64 (q 3).f) (.int .u64 (q 3).l)
  have rb := ma.rd.of_block (fb.block (w.heap.size + 1) ma.rlt (by simp))
  have Fb : Fr [] w ((((((((((((Wa.setCell { block := w.heap.size, off := 0 } (.bool (q 0).e)).setCell { block := w.heap.size, off := 1 } (.int .u64 (q 0).f)).setCell { block := w.heap.size, off := 2 } (.int .u64 (q 0).l)).setCell { block := w.heap.size, off := 3 } (.bool (q 1).e)).setCell { block := w.heap.size, off := 4 } (.int .u64 (q 1).f)).setCell { block := w.heap.size, off := 5 } (.int .u64 (q 1).l)).setCell { block := w.heap.size, off := 6 } (.bool (q 2).e)).setCell { block := w.heap.size, off := 7 } (.int .u64 (q 2).f)).setCell { block := w.heap.size, off := 8 } (.int .u64 (q 2).l)).setCell { block := w.heap.size, off := 9 } (.bool (q 3).e)).setCell { block := w.heap.size, off := 10 } (.int .u64 (q 3).f)).setCell { block := w.heap.size, off := 11 } (.int .u64 (q 3).l)) := Fa.trans' fb (by simp)
  generalize ((((((((((((Wa.setCell { block := w.heap.size, off := 0 } (.bool (q 0).e)).setCell { block := w.heap.size, off := 1 } (.int .u64 (q 0).f)).setCell { block := w.heap.size, off := 2 } (.int .u64 (q 0).l)).setCell { block := w.heap.size, off := 3 } (.bool (q 1).e)).setCell { block := w.heap.size, off := 4 } (.int .u64 (q 1).f)).setCell { block := w.heap.size, off := 5 } (.int .u64 (q 1).l)).setCell { block := w.heap.size, off := 6 } (.bool (q 2).e)).setCell { block := w.heap.size, off := 7 } (.int .u64 (q 2).f)).setCell { block := w.heap.size, off := 8 } (.int .u64 (q 2).l)).setCell { block := w.heap.size, off := 9 } (.bool (q 3).e)).setCell { block := w.heap.size, off := 10 } (.int .u64 (q 3).f)).setCell { block := w.heap.size, off := 11 } (.int .u64 (q 3).l)) = Wb at *
  refine hK _ _ rb.c4 ?_
  clear hK K hS
  intro _
  refine wpAnyH_done (by kernel_rfl) ?_ _
  have c2 := rb.c2
  have c1 := rb.c1
  have c4 := rb.c4
  have g2 : (s1.pos : Int) ≤ 50 := by omega
  cases hf : s1.fault
  · rw [hf] at c2
    by_cases hlt : s1.pos < t.size
    · have g3 : decide ((s1.pos : Int) < (t.size : Int)) = true := by simp; omega
      go_wp2
      refine wp_region_lex hm (by kernel_rfl) ?_
      repeat still_step
      refine wpStill_nil ?_
      go_wp2
      go_ret3
      refine ⟨Fb.drew, ?_⟩
      rw [if_neg (by rw [hf]; simp; omega)]
      rfl
    · have g3 : decide ((s1.pos : Int) < (t.size : Int)) = false := by simp; omega
      go_wp2
      go_ret3
      refine ⟨Fb, ?_⟩
      rw [if_pos (by rw [hf]; simp; omega)]
      exact ⟨w.heap.size, Nat.le_refl _, rfl, Pb⟩
  · rw [hf] at c2
    go_wp2
    refine wp_region_lex hm (by kernel_rfl) ?_
    repeat still_step
    refine wpStill_nil ?_
    go_wp2
    go_ret3
    refine ⟨Fb.drew, ?_⟩
    rw [if_neg (by rw [hf]; simp)]
    rfl

end Go.Proofs.YticaoekmlaipnaaDoor
