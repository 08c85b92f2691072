/-
  A part: an atom with what stands behind it.
-/
import Derived.Test.YticaoekmlaipnaaDoorWr
set_option linter.unusedSimpArgs false
set_option linter.unusedVariables false
namespace Go.Proofs.YticaoekmlaipnaaDoor
open Go.RowKit

structure PartI (w : World) (r pb : Nat) (t : ByteArray) (wh : Nat → Value) (ob : Nat) (X : Piece × St) (m : Nat) (q : Piece) (s1 : St) (W : World) : Prop where
  wk : Work w r pb t wh ob q s1 W
  eq : Hid (partLF t m q s1 = X)
  inv : Inv t s1
  pb : PB s1.atoms q
  fuel : 6 * (t.size - s1.pos) + 1 ≤ m

set_option maxRecDepth 100000 in
set_option maxHeartbeats 4000000 in
theorem part_said (n : Nat) (hA : SaidAtom n) : SaidPart (n + 1) := by
  intro w r pb t wh s h hi hs hp hn
  have hm : Tryd.prog.follows Departure.mixedOrders = true := by kernel_rfl
  have hrl := h.rlt
  have hpl := h.pat.lt
  rw [partF_s]
  have gv := (givesAll t n).atom s hi hp
  have hat := fun (W : World) (hW : M W r pb t wh s) => hA W r pb t wh s hW hi hs hp (by omega)
  unfold Post at hat ⊢
  obtain ⟨q0, hq0⟩ : ∃ q, (atomF t n s).1 = q := ⟨_, rfl⟩
  obtain ⟨s0, hs0⟩ : ∃ q, (atomF t n s).2 = q := ⟨_, rfl⟩
  have gi := gv.inv
  have gp := gv.pb
  have gl := gv.le
  simp only [hq0, hs0] at hat gi gp gl ⊢
  clear hq0 hs0 gv
  obtain ⟨X, hX⟩ : ∃ X, partLF t n q0 s0 = X := ⟨_, rfl⟩
  rw [hX]
  have HX : Hid (partLF t n q0 s0 = X) := hX
  have Hat := (show Hid _ from hat)
  clear hX hat
  have f0 : Fr [] w (w.alloc (Obj.cells #[.bool false, .int .u64 0, .int .u64 0, .bool false, .int .u64 0, .int .u64 0, .bool false, .int .u64 0, .int .u64 0, .bool false, .int .u64 0, .int .u64 0] 73)) := (Fr.refl [] _).alloc _
  have m0 := h.fr f0 (by simp) (by simp) (by simp)
  have R0 := Res.new w
  go_enter Tryd.func84, Tryd.ntmps84
  go_wp2_with fail
  refine (Hat.out _ m0).mono ?_
  rintro e w1 ⟨rfl, m1, f1⟩
  have R1 := R0.fr f1 (by simp; omega)
  have F1 : Fr [r, pb] w w1 := (f0.mono (by simp)).trans f1
  have f2 : Fr [] w1 (w1.alloc (Obj.cells #[.bool (q0 0).e, .int .u64 (q0 0).f, .int .u64 (q0 0).l, .bool (q0 1).e, .int .u64 (q0 1).f, .int .u64 (q0 1).l, .bool (q0 2).e, .int .u64 (q0 2).f, .int .u64 (q0 2).l, .bool (q0 3).e, .int .u64 (q0 3).f, .int .u64 (q0 3).l] 73)) := (Fr.refl [] _).alloc _
  have K0 : Work w r pb t wh w1.heap.size q0 s0 (w1.alloc (Obj.cells #[.bool (q0 0).e, .int .u64 (q0 0).f, .int .u64 (q0 0).l, .bool (q0 1).e, .int .u64 (q0 1).f, .int .u64 (q0 1).l, .bool (q0 2).e, .int .u64 (q0 2).f, .int .u64 (q0 2).l, .bool (q0 3).e, .int .u64 (q0 3).f, .int .u64 (q0 3).l] 73)) :=
    ⟨m1.fr f2 (by simp) (by simp) (by simp), Out.new w1 q0, R1.fr f2 (by simp), F1.trans (f2.mono (by simp)), R1.lt, hrl, hpl⟩
  clear m0 R0 f0 m1 R1 F1 f1 f2
  unfold pv
  go_wp2
  generalize w1.heap.size = ob at *
  generalize w1.alloc (Obj.cells #[.bool (q0 0).e, .int .u64 (q0 0).f, .int .u64 (q0 0).l, .bool (q0 1).e, .int .u64 (q0 1).f, .int .u64 (q0 1).l, .bool (q0 2).e, .int .u64 (q0 2).f, .int .u64 (q0 2).l, .bool (q0 3).e, .int .u64 (q0 3).f, .int .u64 (q0 3).l] 73) = W2 at *
  go_loopg [6] n (fun m _ wr => ∃ q s1, PartI w r pb t wh ob X m q s1 wr)
  case atStart => exact ⟨q0, s0, K0, HX, gi, gp, by omega⟩
  case round =>
    obtain ⟨q, s1, J⟩ := hrel
    clear K0 HX Hat
    have heq := J.eq.out
    have hfu := J.fuel
    obtain ⟨m', rfl⟩ : ∃ m', gk = m' + 1 := ⟨gk - 1, by omega⟩
    rw [partLF_s] at heq
    have hpk := peek_any J.wk.m hs
    have hpos := J.inv.pos
    have hat := J.inv.at_
    by_cases c42 : peekF t s1 = 42
    · rw [if_pos c42] at heq
      have hp1 := (peek_ne (t := t) (s := s1) (by rw [c42]; decide)).2
      have Heq : Hid _ := heq
      have H42 : Hid _ := c42
      have e42 : (peekF t s1 == 42) = true := by simp [c42]
      clear heq c42
      go_wp2_with fail
      refine hpk.mono ?_
      rintro e w5 ⟨rfl, n5, rfl⟩
      have K0 : Work w r pb t wh ob q s1 (wr.drewN n5) := J.wk.heap rfl rfl rfl rfl
      generalize wr.drewN n5 = Wa at *
      have c4 := K0.m.rd.c4
      have x0 : Wa.cell? ⟨ob, 0, none⟩ = some (.bool (q 0).e) := K0.out.rr 0
      have x1 : Wa.cell? ⟨ob, 1, none⟩ = some (.int .u64 (q 0).f) := K0.out.rr 1
      have x2 : Wa.cell? ⟨ob, 2, none⟩ = some (.int .u64 (q 0).l) := K0.out.rr 2
      have x3 : Wa.cell? ⟨ob, 3, none⟩ = some (.bool (q 1).e) := K0.out.rr 3
      have x4 : Wa.cell? ⟨ob, 4, none⟩ = some (.int .u64 (q 1).f) := K0.out.rr 4
      have x5 : Wa.cell? ⟨ob, 5, none⟩ = some (.int .u64 (q 1).l) := K0.out.rr 5
      have x6 : Wa.cell? ⟨ob, 6, none⟩ = some (.bool (q 2).e) := K0.out.rr 6
      have x7 : Wa.cell? ⟨ob, 7, none⟩ = some (.int .u64 (q 2).f) := K0.out.rr 7
      have x8 : Wa.cell? ⟨ob, 8, none⟩ = some (.int .u64 (q 2).l) := K0.out.rr 8
      have x9 : Wa.cell? ⟨ob, 9, none⟩ = some (.bool (q 3).e) := K0.out.rr 9
      have x10 : Wa.cell? ⟨ob, 10, none⟩ = some (.int .u64 (q 3).f) := K0.out.rr 10
      have x11 : Wa.cell? ⟨ob, 11, none⟩ = some (.int .u64 (q 3).l) := K0.out.rr 11
      go_wp2
      refine wp_region_tail 5 hm (by kernel_rfl) ?_
      simp only [List.take_succ_cons, List.take_zero, List.drop_succ_cons, List.drop_zero]
      repeat still_step
      refine wpStill_nil ?_
      go_wp2_with fail
      have hrep := repeat_any pb q Wa.drew wh s1.tk s1.fo (fun x => J.pb.l50 (by omega) x) (fun x => (J.pb.ok (by omega) x).1) (K0.m.pat.of_block rfl) (J.inv.fo64 hs) (K0.m.tab.of_block rfl) K0.m.n3
      unfold pv at hrep
      refine hrep.mono ?_
      rintro e Wb ⟨rfl, Pb, fb⟩
      have fb : Fr [pb] Wa Wb := ⟨fb.os, fb.tape, fb.output, fb.size, fb.block⟩
      have Kb := K0.tie Pb fb
      clear hrep c4 x0 x1 x2 x3 x4 x5 x6 x7 x8 x9 x10 x11
      go_wp2
      refine wp_region_heldD (fun _ => True) hm ?_
      have hS : (fun _ : World => True) Wb.drew := trivial
      refine wpAnyH_ready (rs := [0, 1]) (by kernel_rfl) (by simp) ?_
      refine AllReadyH.cons rfl (fun K hK => ?_) ?_
      · have x0 : Wb.cell? ⟨ob, 0, none⟩ = some (.bool (q 0).e) := Kb.out.rr 0
        have x1 : Wb.cell? ⟨ob, 1, none⟩ = some (.int .u64 (q 0).f) := Kb.out.rr 1
        have x2 : Wb.cell? ⟨ob, 2, none⟩ = some (.int .u64 (q 0).l) := Kb.out.rr 2
        have x3 : Wb.cell? ⟨ob, 3, none⟩ = some (.bool (q 1).e) := Kb.out.rr 3
        have x4 : Wb.cell? ⟨ob, 4, none⟩ = some (.int .u64 (q 1).f) := Kb.out.rr 4
        have x5 : Wb.cell? ⟨ob, 5, none⟩ = some (.int .u64 (q 1).l) := Kb.out.rr 5
        have x6 : Wb.cell? ⟨ob, 6, none⟩ = some (.bool (q 2).e) := Kb.out.rr 6
        have x7 : Wb.cell? ⟨ob, 7, none⟩ = some (.int .u64 (q 2).f) := Kb.out.rr 7
        have x8 : Wb.cell? ⟨ob, 8, none⟩ = some (.int .u64 (q 2).l) := Kb.out.rr 8
        have x9 : Wb.cell? ⟨ob, 9, none⟩ = some (.bool (q 3).e) := Kb.out.rr 9
        have x10 : Wb.cell? ⟨ob, 10, none⟩ = some (.int .u64 (q 3).f) := Kb.out.rr 10
        have x11 : Wb.cell? ⟨ob, 11, none⟩ = some (.int .u64 (q 3).l) := Kb.out.rr 11
        go_simp
        clear x0 x1 x2 x3 x4 x5 x6 x7 x8 x9 x10 x11
        refine hK _ _ hS ?_
        clear hK K
        intro _
        refine wpAnyH_ready (rs := [1]) (by kernel_rfl) (by simp) ?_
        refine AllReadyH.cons rfl (fun K hK => ?_) AllReadyH.nil
        go_simp
        have hnt := nothing_any Wb.drew
        unfold pv at hnt
        refine hnt.mono ?_
        rintro e V1 ⟨rfl, fv⟩
        have fv : Fr [] Wb V1 := ⟨fv.os, fv.tape, fv.output, fv.size, fv.block⟩
        have K1 := Kb.kept fv
        clear hnt
        clear hS
        have hS := trivial
        refine hK _ _ hS ?_
        clear hK K
        intro _
        refine wpAnyH_ready (rs := [2]) (by kernel_rfl) (by simp) ?_
        refine AllReadyH.cons rfl (fun K hK => ?_) AllReadyH.nil
        go_simp
        have hei := either_any q nothingF (J.pb.ok (by omega)) ((PB.nothing 0).ok (by decide)) V1
        unfold pv at hei
        refine hei.mono ?_
        rintro e V2 ⟨rfl, fu⟩
        have K2 := K1.kept fu
        clear hei
        clear hS
        have hS := trivial
        refine hK _ _ hS ?_
        clear hK K
        intro _
        have x0 : V2.cell? ⟨ob, 0, none⟩ = some (.bool (q 0).e) := K2.out.rr 0
        have xz0 := K2.out.zr 0
        have x1 : V2.cell? ⟨ob, 1, none⟩ = some (.int .u64 (q 0).f) := K2.out.rr 1
        have xz1 := K2.out.zr 1
        have x2 : V2.cell? ⟨ob, 2, none⟩ = some (.int .u64 (q 0).l) := K2.out.rr 2
        have xz2 := K2.out.zr 2
        have x3 : V2.cell? ⟨ob, 3, none⟩ = some (.bool (q 1).e) := K2.out.rr 3
        have xz3 := K2.out.zr 3
        have x4 : V2.cell? ⟨ob, 4, none⟩ = some (.int .u64 (q 1).f) := K2.out.rr 4
        have xz4 := K2.out.zr 4
        have x5 : V2.cell? ⟨ob, 5, none⟩ = some (.int .u64 (q 1).l) := K2.out.rr 5
        have xz5 := K2.out.zr 5
        have x6 : V2.cell? ⟨ob, 6, none⟩ = some (.bool (q 2).e) := K2.out.rr 6
        have xz6 := K2.out.zr 6
        have x7 : V2.cell? ⟨ob, 7, none⟩ = some (.int .u64 (q 2).f) := K2.out.rr 7
        have xz7 := K2.out.zr 7
        have x8 : V2.cell? ⟨ob, 8, none⟩ = some (.int .u64 (q 2).l) := K2.out.rr 8
        have xz8 := K2.out.zr 8
        have x9 : V2.cell? ⟨ob, 9, none⟩ = some (.bool (q 3).e) := K2.out.rr 9
        have xz9 := K2.out.zr 9
        have x10 : V2.cell? ⟨ob, 10, none⟩ = some (.int .u64 (q 3).f) := K2.out.rr 10
        have xz10 := K2.out.zr 10
        have x11 : V2.cell? ⟨ob, 11, none⟩ = some (.int .u64 (q 3).l) := K2.out.rr 11
        have xz11 := K2.out.zr 11
        refine wpAnyH_ready (rs := [3]) (by kernel_rfl) (by simp) ?_
        refine AllReadyH.cons rfl (fun K hK => ?_) AllReadyH.nil
        go_simp
        clear x0 x1 x2 x3 x4 x5 x6 x7 x8 x9 x10 x11 xz0 xz1 xz2 xz3 xz4 xz5 xz6 xz7 xz8 xz9 xz10 xz11
        have K3 := K2.set (eitherF q nothingF)
        generalize ((((((((((((V2.setCell { block := ob, off := 0 } (.bool ((eitherF q nothingF) 0).e)).setCell { block := ob, off := 1 } (.int .u64 ((eitherF q nothingF) 0).f)).setCell { block := ob, off := 2 } (.int .u64 ((eitherF q nothingF) 0).l)).setCell { block := ob, off := 3 } (.bool ((eitherF q nothingF) 1).e)).setCell { block := ob, off := 4 } (.int .u64 ((eitherF q nothingF) 1).f)).setCell { block := ob, off := 5 } (.int .u64 ((eitherF q nothingF) 1).l)).setCell { block := ob, off := 6 } (.bool ((eitherF q nothingF) 2).e)).setCell { block := ob, off := 7 } (.int .u64 ((eitherF q nothingF) 2).f)).setCell { block := ob, off := 8 } (.int .u64 ((eitherF q nothingF) 2).l)).setCell { block := ob, off := 9 } (.bool ((eitherF q nothingF) 3).e)).setCell { block := ob, off := 10 } (.int .u64 ((eitherF q nothingF) 3).f)).setCell { block := ob, off := 11 } (.int .u64 ((eitherF q nothingF) 3).l)) = V3 at *
        refine hK _ _ trivial ?_
        clear hK K
        intro _
        refine wpAnyH_done (by kernel_rfl) ?_ _
        have heq' : Hid _ := Heq.out
        have c42' : Hid _ := H42.out
        have c1 := K3.m.rd.c1
        have z1 := K3.m.rd.f1
        go_wp2
        go_roundg m'
        case measure => omega
        case rel =>
          have hin := (J.inv.tie (q := q) J.pb).adv (s := { s1 with fo := tieP s1.fo q q }) (by rw [peek_tie, c42'.out]; decide)
          exact ⟨eitherF q nothingF, _, K3.adv, heq'.out, hin, J.pb.either (PB.nothing _), by simp [advF]; omega⟩
      · refine AllReadyH.cons rfl (fun K hK => ?_) AllReadyH.nil
        go_simp
        have hnt := nothing_any Wb.drew
        unfold pv at hnt
        refine hnt.mono ?_
        rintro e V1 ⟨rfl, fv⟩
        have fv : Fr [] Wb V1 := ⟨fv.os, fv.tape, fv.output, fv.size, fv.block⟩
        have K1 := Kb.kept fv
        clear hnt
        clear hS
        have hS := trivial
        refine hK _ _ hS ?_
        clear hK K
        intro _
        have x0 : V1.cell? ⟨ob, 0, none⟩ = some (.bool (q 0).e) := K1.out.rr 0
        have x1 : V1.cell? ⟨ob, 1, none⟩ = some (.int .u64 (q 0).f) := K1.out.rr 1
        have x2 : V1.cell? ⟨ob, 2, none⟩ = some (.int .u64 (q 0).l) := K1.out.rr 2
        have x3 : V1.cell? ⟨ob, 3, none⟩ = some (.bool (q 1).e) := K1.out.rr 3
        have x4 : V1.cell? ⟨ob, 4, none⟩ = some (.int .u64 (q 1).f) := K1.out.rr 4
        have x5 : V1.cell? ⟨ob, 5, none⟩ = some (.int .u64 (q 1).l) := K1.out.rr 5
        have x6 : V1.cell? ⟨ob, 6, none⟩ = some (.bool (q 2).e) := K1.out.rr 6
        have x7 : V1.cell? ⟨ob, 7, none⟩ = some (.int .u64 (q 2).f) := K1.out.rr 7
        have x8 : V1.cell? ⟨ob, 8, none⟩ = some (.int .u64 (q 2).l) := K1.out.rr 8
        have x9 : V1.cell? ⟨ob, 9, none⟩ = some (.bool (q 3).e) := K1.out.rr 9
        have x10 : V1.cell? ⟨ob, 10, none⟩ = some (.int .u64 (q 3).f) := K1.out.rr 10
        have x11 : V1.cell? ⟨ob, 11, none⟩ = some (.int .u64 (q 3).l) := K1.out.rr 11
        refine wpAnyH_ready (rs := [0]) (by kernel_rfl) (by simp) ?_
        refine AllReadyH.cons rfl (fun K hK => ?_) AllReadyH.nil
        go_simp
        clear x0 x1 x2 x3 x4 x5 x6 x7 x8 x9 x10 x11
        refine hK _ _ hS ?_
        clear hK K
        intro _
        refine wpAnyH_ready (rs := [2]) (by kernel_rfl) (by simp) ?_
        refine AllReadyH.cons rfl (fun K hK => ?_) AllReadyH.nil
        go_simp
        have hei := either_any q nothingF (J.pb.ok (by omega)) ((PB.nothing 0).ok (by decide)) V1
        unfold pv at hei
        refine hei.mono ?_
        rintro e V2 ⟨rfl, fu⟩
        have K2 := K1.kept fu
        clear hei
        clear hS
        have hS := trivial
        refine hK _ _ hS ?_
        clear hK K
        intro _
        have x0 : V2.cell? ⟨ob, 0, none⟩ = some (.bool (q 0).e) := K2.out.rr 0
        have xz0 := K2.out.zr 0
        have x1 : V2.cell? ⟨ob, 1, none⟩ = some (.int .u64 (q 0).f) := K2.out.rr 1
        have xz1 := K2.out.zr 1
        have x2 : V2.cell? ⟨ob, 2, none⟩ = some (.int .u64 (q 0).l) := K2.out.rr 2
        have xz2 := K2.out.zr 2
        have x3 : V2.cell? ⟨ob, 3, none⟩ = some (.bool (q 1).e) := K2.out.rr 3
        have xz3 := K2.out.zr 3
        have x4 : V2.cell? ⟨ob, 4, none⟩ = some (.int .u64 (q 1).f) := K2.out.rr 4
        have xz4 := K2.out.zr 4
        have x5 : V2.cell? ⟨ob, 5, none⟩ = some (.int .u64 (q 1).l) := K2.out.rr 5
        have xz5 := K2.out.zr 5
        have x6 : V2.cell? ⟨ob, 6, none⟩ = some (.bool (q 2).e) := K2.out.rr 6
        have xz6 := K2.out.zr 6
        have x7 : V2.cell? ⟨ob, 7, none⟩ = some (.int .u64 (q 2).f) := K2.out.rr 7
        have xz7 := K2.out.zr 7
        have x8 : V2.cell? ⟨ob, 8, none⟩ = some (.int .u64 (q 2).l) := K2.out.rr 8
        have xz8 := K2.out.zr 8
        have x9 : V2.cell? ⟨ob, 9, none⟩ = some (.bool (q 3).e) := K2.out.rr 9
        have xz9 := K2.out.zr 9
        have x10 : V2.cell? ⟨ob, 10, none⟩ = some (.int .u64 (q 3).f) := K2.out.rr 10
        have xz10 := K2.out.zr 10
        have x11 : V2.cell? ⟨ob, 11, none⟩ = some (.int .u64 (q 3).l) := K2.out.rr 11
        have xz11 := K2.out.zr 11
        refine wpAnyH_ready (rs := [3]) (by kernel_rfl) (by simp) ?_
        refine AllReadyH.cons rfl (fun K hK => ?_) AllReadyH.nil
        go_simp
        clear x0 x1 x2 x3 x4 x5 x6 x7 x8 x9 x10 x11 xz0 xz1 xz2 xz3 xz4 xz5 xz6 xz7 xz8 xz9 xz10 xz11
        have K3 := K2.set (eitherF q nothingF)
        generalize ((((((((((((V2.setCell { block := ob, off := 0 } (.bool ((eitherF q nothingF) 0).e)).setCell { block := ob, off := 1 } (.int .u64 ((eitherF q nothingF) 0).f)).setCell { block := ob, off := 2 } (.int .u64 ((eitherF q nothingF) 0).l)).setCell { block := ob, off := 3 } (.bool ((eitherF q nothingF) 1).e)).setCell { block := ob, off := 4 } (.int .u64 ((eitherF q nothingF) 1).f)).setCell { block := ob, off := 5 } (.int .u64 ((eitherF q nothingF) 1).l)).setCell { block := ob, off := 6 } (.bool ((eitherF q nothingF) 2).e)).setCell { block := ob, off := 7 } (.int .u64 ((eitherF q nothingF) 2).f)).setCell { block := ob, off := 8 } (.int .u64 ((eitherF q nothingF) 2).l)).setCell { block := ob, off := 9 } (.bool ((eitherF q nothingF) 3).e)).setCell { block := ob, off := 10 } (.int .u64 ((eitherF q nothingF) 3).f)).setCell { block := ob, off := 11 } (.int .u64 ((eitherF q nothingF) 3).l)) = V3 at *
        refine hK _ _ trivial ?_
        clear hK K
        intro _
        refine wpAnyH_done (by kernel_rfl) ?_ _
        have heq' : Hid _ := Heq.out
        have c42' : Hid _ := H42.out
        have c1 := K3.m.rd.c1
        have z1 := K3.m.rd.f1
        go_wp2
        go_roundg m'
        case measure => omega
        case rel =>
          have hin := (J.inv.tie (q := q) J.pb).adv (s := { s1 with fo := tieP s1.fo q q }) (by rw [peek_tie, c42'.out]; decide)
          exact ⟨eitherF q nothingF, _, K3.adv, heq'.out, hin, J.pb.either (PB.nothing _), by simp [advF]; omega⟩
    · rw [if_neg c42] at heq
      by_cases c43 : peekF t s1 = 43
      · rw [if_pos c43] at heq
        have hp1 := (peek_ne (t := t) (s := s1) (by rw [c43]; decide)).2
        have Heq : Hid _ := heq
        have H43 : Hid _ := c43
        have e42 : (peekF t s1 == 42) = false := by simp [c43]
        have e43 : (peekF t s1 == 43) = true := by simp [c43]
        clear heq c43 c42
        go_wp2_with fail
        refine hpk.mono ?_
        rintro e w5 ⟨rfl, n5, rfl⟩
        have K0 : Work w r pb t wh ob q s1 (wr.drewN n5) := J.wk.heap rfl rfl rfl rfl
        generalize wr.drewN n5 = Wa at *
        have c4 := K0.m.rd.c4
        have x0 : Wa.cell? ⟨ob, 0, none⟩ = some (.bool (q 0).e) := K0.out.rr 0
        have x1 : Wa.cell? ⟨ob, 1, none⟩ = some (.int .u64 (q 0).f) := K0.out.rr 1
        have x2 : Wa.cell? ⟨ob, 2, none⟩ = some (.int .u64 (q 0).l) := K0.out.rr 2
        have x3 : Wa.cell? ⟨ob, 3, none⟩ = some (.bool (q 1).e) := K0.out.rr 3
        have x4 : Wa.cell? ⟨ob, 4, none⟩ = some (.int .u64 (q 1).f) := K0.out.rr 4
        have x5 : Wa.cell? ⟨ob, 5, none⟩ = some (.int .u64 (q 1).l) := K0.out.rr 5
        have x6 : Wa.cell? ⟨ob, 6, none⟩ = some (.bool (q 2).e) := K0.out.rr 6
        have x7 : Wa.cell? ⟨ob, 7, none⟩ = some (.int .u64 (q 2).f) := K0.out.rr 7
        have x8 : Wa.cell? ⟨ob, 8, none⟩ = some (.int .u64 (q 2).l) := K0.out.rr 8
        have x9 : Wa.cell? ⟨ob, 9, none⟩ = some (.bool (q 3).e) := K0.out.rr 9
        have x10 : Wa.cell? ⟨ob, 10, none⟩ = some (.int .u64 (q 3).f) := K0.out.rr 10
        have x11 : Wa.cell? ⟨ob, 11, none⟩ = some (.int .u64 (q 3).l) := K0.out.rr 11
        go_wp2
        refine wp_region_tail 5 hm (by kernel_rfl) ?_
        simp only [List.take_succ_cons, List.take_zero, List.drop_succ_cons, List.drop_zero]
        repeat still_step
        refine wpStill_nil ?_
        go_wp2_with fail
        have hrep := repeat_any pb q Wa.drew wh s1.tk s1.fo (fun x => J.pb.l50 (by omega) x) (fun x => (J.pb.ok (by omega) x).1) (K0.m.pat.of_block rfl) (J.inv.fo64 hs) (K0.m.tab.of_block rfl) K0.m.n3
        unfold pv at hrep
        refine hrep.mono ?_
        rintro e Wb ⟨rfl, Pb, fb⟩
        have fb : Fr [pb] Wa Wb := ⟨fb.os, fb.tape, fb.output, fb.size, fb.block⟩
        have Kb := K0.tie Pb fb
        clear hrep c4 x0 x1 x2 x3 x4 x5 x6 x7 x8 x9 x10 x11
        have heq' : Hid _ := Heq.out
        have c1 := Kb.m.rd.c1
        have z1 := Kb.m.rd.f1
        have c43' : Hid _ := H43.out
        go_wp2
        go_roundg m'
        case measure => omega
        case rel =>
          have hin := (J.inv.tie (q := q) J.pb).adv (s := { s1 with fo := tieP s1.fo q q }) (by rw [peek_tie, c43'.out]; decide)
          exact ⟨q, _, Kb.adv, heq'.out, hin, J.pb, by simp [advF]; omega⟩
      · rw [if_neg c43] at heq
        by_cases c63 : peekF t s1 = 63
        · rw [if_pos c63] at heq
          have hp1 := (peek_ne (t := t) (s := s1) (by rw [c63]; decide)).2
          have Heq : Hid _ := heq
          have H63 : Hid _ := c63
          have e42 : (peekF t s1 == 42) = false := by simp [c63]
          have e43 : (peekF t s1 == 43) = false := by simp [c63]
          have e63 : (peekF t s1 == 63) = true := by simp [c63]
          clear heq c63 c42 c43
          go_wp2_with fail
          refine hpk.mono ?_
          rintro e w5 ⟨rfl, n5, rfl⟩
          have K0 : Work w r pb t wh ob q s1 (wr.drewN n5) := J.wk.heap rfl rfl rfl rfl
          generalize wr.drewN n5 = Wa at *
          go_wp2
          refine wp_region_heldD (fun _ => True) hm ?_
          have hS : (fun _ : World => True) Wa.drew := trivial
          refine wpAnyH_ready (rs := [0, 1]) (by kernel_rfl) (by simp) ?_
          refine AllReadyH.cons rfl (fun K hK => ?_) ?_
          · have x0 : Wa.cell? ⟨ob, 0, none⟩ = some (.bool (q 0).e) := K0.out.rr 0
            have x1 : Wa.cell? ⟨ob, 1, none⟩ = some (.int .u64 (q 0).f) := K0.out.rr 1
            have x2 : Wa.cell? ⟨ob, 2, none⟩ = some (.int .u64 (q 0).l) := K0.out.rr 2
            have x3 : Wa.cell? ⟨ob, 3, none⟩ = some (.bool (q 1).e) := K0.out.rr 3
            have x4 : Wa.cell? ⟨ob, 4, none⟩ = some (.int .u64 (q 1).f) := K0.out.rr 4
            have x5 : Wa.cell? ⟨ob, 5, none⟩ = some (.int .u64 (q 1).l) := K0.out.rr 5
            have x6 : Wa.cell? ⟨ob, 6, none⟩ = some (.bool (q 2).e) := K0.out.rr 6
            have x7 : Wa.cell? ⟨ob, 7, none⟩ = some (.int .u64 (q 2).f) := K0.out.rr 7
            have x8 : Wa.cell? ⟨ob, 8, none⟩ = some (.int .u64 (q 2).l) := K0.out.rr 8
            have x9 : Wa.cell? ⟨ob, 9, none⟩ = some (.bool (q 3).e) := K0.out.rr 9
            have x10 : Wa.cell? ⟨ob, 10, none⟩ = some (.int .u64 (q 3).f) := K0.out.rr 10
            have x11 : Wa.cell? ⟨ob, 11, none⟩ = some (.int .u64 (q 3).l) := K0.out.rr 11
            go_simp
            clear x0 x1 x2 x3 x4 x5 x6 x7 x8 x9 x10 x11
            refine hK _ _ hS ?_
            clear hK K
            intro _
            refine wpAnyH_ready (rs := [1]) (by kernel_rfl) (by simp) ?_
            refine AllReadyH.cons rfl (fun K hK => ?_) AllReadyH.nil
            go_simp
            have hnt := nothing_any Wa.drew
            unfold pv at hnt
            refine hnt.mono ?_
            rintro e V1 ⟨rfl, fv⟩
            have fv : Fr [] Wa V1 := ⟨fv.os, fv.tape, fv.output, fv.size, fv.block⟩
            have K1 := K0.kept fv
            clear hnt
            clear hS
            have hS := trivial
            refine hK _ _ hS ?_
            clear hK K
            intro _
            refine wpAnyH_ready (rs := [2]) (by kernel_rfl) (by simp) ?_
            refine AllReadyH.cons rfl (fun K hK => ?_) AllReadyH.nil
            go_simp
            have hei := either_any q nothingF (J.pb.ok (by omega)) ((PB.nothing 0).ok (by decide)) V1
            unfold pv at hei
            refine hei.mono ?_
            rintro e V2 ⟨rfl, fu⟩
            have K2 := K1.kept fu
            clear hei
            clear hS
            have hS := trivial
            refine hK _ _ hS ?_
            clear hK K
            intro _
            have x0 : V2.cell? ⟨ob, 0, none⟩ = some (.bool (q 0).e) := K2.out.rr 0
            have xz0 := K2.out.zr 0
            have x1 : V2.cell? ⟨ob, 1, none⟩ = some (.int .u64 (q 0).f) := K2.out.rr 1
            have xz1 := K2.out.zr 1
            have x2 : V2.cell? ⟨ob, 2, none⟩ = some (.int .u64 (q 0).l) := K2.out.rr 2
            have xz2 := K2.out.zr 2
            have x3 : V2.cell? ⟨ob, 3, none⟩ = some (.bool (q 1).e) := K2.out.rr 3
            have xz3 := K2.out.zr 3
            have x4 : V2.cell? ⟨ob, 4, none⟩ = some (.int .u64 (q 1).f) := K2.out.rr 4
            have xz4 := K2.out.zr 4
            have x5 : V2.cell? ⟨ob, 5, none⟩ = some (.int .u64 (q 1).l) := K2.out.rr 5
            have xz5 := K2.out.zr 5
            have x6 : V2.cell? ⟨ob, 6, none⟩ = some (.bool (q 2).e) := K2.out.rr 6
            have xz6 := K2.out.zr 6
            have x7 : V2.cell? ⟨ob, 7, none⟩ = some (.int .u64 (q 2).f) := K2.out.rr 7
            have xz7 := K2.out.zr 7
            have x8 : V2.cell? ⟨ob, 8, none⟩ = some (.int .u64 (q 2).l) := K2.out.rr 8
            have xz8 := K2.out.zr 8
            have x9 : V2.cell? ⟨ob, 9, none⟩ = some (.bool (q 3).e) := K2.out.rr 9
            have xz9 := K2.out.zr 9
            have x10 : V2.cell? ⟨ob, 10, none⟩ = some (.int .u64 (q 3).f) := K2.out.rr 10
            have xz10 := K2.out.zr 10
            have x11 : V2.cell? ⟨ob, 11, none⟩ = some (.int .u64 (q 3).l) := K2.out.rr 11
            have xz11 := K2.out.zr 11
            refine wpAnyH_ready (rs := [3]) (by kernel_rfl) (by simp) ?_
            refine AllReadyH.cons rfl (fun K hK => ?_) AllReadyH.nil
            go_simp
            clear x0 x1 x2 x3 x4 x5 x6 x7 x8 x9 x10 x11 xz0 xz1 xz2 xz3 xz4 xz5 xz6 xz7 xz8 xz9 xz10 xz11
            have K3 := K2.set (eitherF q nothingF)
            generalize ((((((((((((V2.setCell { block := ob, off := 0 } (.bool ((eitherF q nothingF) 0).e)).setCell { block := ob, off := 1 } (.int .u64 ((eitherF q nothingF) 0).f)).setCell { block := ob, off := 2 } (.int .u64 ((eitherF q nothingF) 0).l)).setCell { block := ob, off := 3 } (.bool ((eitherF q nothingF) 1).e)).setCell { block := ob, off := 4 } (.int .u64 ((eitherF q nothingF) 1).f)).setCell { block := ob, off := 5 } (.int .u64 ((eitherF q nothingF) 1).l)).setCell { block := ob, off := 6 } (.bool ((eitherF q nothingF) 2).e)).setCell { block := ob, off := 7 } (.int .u64 ((eitherF q nothingF) 2).f)).setCell { block := ob, off := 8 } (.int .u64 ((eitherF q nothingF) 2).l)).setCell { block := ob, off := 9 } (.bool ((eitherF q nothingF) 3).e)).setCell { block := ob, off := 10 } (.int .u64 ((eitherF q nothingF) 3).f)).setCell { block := ob, off := 11 } (.int .u64 ((eitherF q nothingF) 3).l)) = V3 at *
            refine hK _ _ trivial ?_
            clear hK K
            intro _
            refine wpAnyH_done (by kernel_rfl) ?_ _
            have c1 := K3.m.rd.c1
            have z1 := K3.m.rd.f1
            go_wp2
            go_roundg m'
            case measure => omega
            case rel => exact ⟨eitherF q nothingF, _, K3.adv, Heq.out, J.inv.adv (by rw [H63.out]; decide), J.pb.either (PB.nothing _), by simp [advF]; omega⟩
          · refine AllReadyH.cons rfl (fun K hK => ?_) AllReadyH.nil
            go_simp
            have hnt := nothing_any Wa.drew
            unfold pv at hnt
            refine hnt.mono ?_
            rintro e V1 ⟨rfl, fv⟩
            have fv : Fr [] Wa V1 := ⟨fv.os, fv.tape, fv.output, fv.size, fv.block⟩
            have K1 := K0.kept fv
            clear hnt
            clear hS
            have hS := trivial
            refine hK _ _ hS ?_
            clear hK K
            intro _
            have x0 : V1.cell? ⟨ob, 0, none⟩ = some (.bool (q 0).e) := K1.out.rr 0
            have x1 : V1.cell? ⟨ob, 1, none⟩ = some (.int .u64 (q 0).f) := K1.out.rr 1
            have x2 : V1.cell? ⟨ob, 2, none⟩ = some (.int .u64 (q 0).l) := K1.out.rr 2
            have x3 : V1.cell? ⟨ob, 3, none⟩ = some (.bool (q 1).e) := K1.out.rr 3
            have x4 : V1.cell? ⟨ob, 4, none⟩ = some (.int .u64 (q 1).f) := K1.out.rr 4
            have x5 : V1.cell? ⟨ob, 5, none⟩ = some (.int .u64 (q 1).l) := K1.out.rr 5
            have x6 : V1.cell? ⟨ob, 6, none⟩ = some (.bool (q 2).e) := K1.out.rr 6
            have x7 : V1.cell? ⟨ob, 7, none⟩ = some (.int .u64 (q 2).f) := K1.out.rr 7
            have x8 : V1.cell? ⟨ob, 8, none⟩ = some (.int .u64 (q 2).l) := K1.out.rr 8
            have x9 : V1.cell? ⟨ob, 9, none⟩ = some (.bool (q 3).e) := K1.out.rr 9
            have x10 : V1.cell? ⟨ob, 10, none⟩ = some (.int .u64 (q 3).f) := K1.out.rr 10
            have x11 : V1.cell? ⟨ob, 11, none⟩ = some (.int .u64 (q 3).l) := K1.out.rr 11
            refine wpAnyH_ready (rs := [0]) (by kernel_rfl) (by simp) ?_
            refine AllReadyH.cons rfl (fun K hK => ?_) AllReadyH.nil
            go_simp
            clear x0 x1 x2 x3 x4 x5 x6 x7 x8 x9 x10 x11
            refine hK _ _ hS ?_
            clear hK K
            intro _
            refine wpAnyH_ready (rs := [2]) (by kernel_rfl) (by simp) ?_
            refine AllReadyH.cons rfl (fun K hK => ?_) AllReadyH.nil
            go_simp
            have hei := either_any q nothingF (J.pb.ok (by omega)) ((PB.nothing 0).ok (by decide)) V1
            unfold pv at hei
            refine hei.mono ?_
            rintro e V2 ⟨rfl, fu⟩
            have K2 := K1.kept fu
            clear hei
            clear hS
            have hS := trivial
            refine hK _ _ hS ?_
            clear hK K
            intro _
            have x0 : V2.cell? ⟨ob, 0, none⟩ = some (.bool (q 0).e) := K2.out.rr 0
            have xz0 := K2.out.zr 0
            have x1 : V2.cell? ⟨ob, 1, none⟩ = some (.int .u64 (q 0).f) := K2.out.rr 1
            have xz1 := K2.out.zr 1
            have x2 : V2.cell? ⟨ob, 2, none⟩ = some (.int .u64 (q 0).l) := K2.out.rr 2
            have xz2 := K2.out.zr 2
            have x3 : V2.cell? ⟨ob, 3, none⟩ = some (.bool (q 1).e) := K2.out.rr 3
            have xz3 := K2.out.zr 3
            have x4 : V2.cell? ⟨ob, 4, none⟩ = some (.int .u64 (q 1).f) := K2.out.rr 4
            have xz4 := K2.out.zr 4
            have x5 : V2.cell? ⟨ob, 5, none⟩ = some (.int .u64 (q 1).l) := K2.out.rr 5
            have xz5 := K2.out.zr 5
            have x6 : V2.cell? ⟨ob, 6, none⟩ = some (.bool (q 2).e) := K2.out.rr 6
            have xz6 := K2.out.zr 6
            have x7 : V2.cell? ⟨ob, 7, none⟩ = some (.int .u64 (q 2).f) := K2.out.rr 7
            have xz7 := K2.out.zr 7
            have x8 : V2.cell? ⟨ob, 8, none⟩ = some (.int .u64 (q 2).l) := K2.out.rr 8
            have xz8 := K2.out.zr 8
            have x9 : V2.cell? ⟨ob, 9, none⟩ = some (.bool (q 3).e) := K2.out.rr 9
            have xz9 := K2.out.zr 9
            have x10 : V2.cell? ⟨ob, 10, none⟩ = some (.int .u64 (q 3).f) := K2.out.rr 10
            have xz10 := K2.out.zr 10
            have x11 : V2.cell? ⟨ob, 11, none⟩ = some (.int .u64 (q 3).l) := K2.out.rr 11
            have xz11 := K2.out.zr 11
            refine wpAnyH_ready (rs := [3]) (by kernel_rfl) (by simp) ?_
            refine AllReadyH.cons rfl (fun K hK => ?_) AllReadyH.nil
            go_simp
            clear x0 x1 x2 x3 x4 x5 x6 x7 x8 x9 x10 x11 xz0 xz1 xz2 xz3 xz4 xz5 xz6 xz7 xz8 xz9 xz10 xz11
            have K3 := K2.set (eitherF q nothingF)
            generalize ((((((((((((V2.setCell { block := ob, off := 0 } (.bool ((eitherF q nothingF) 0).e)).setCell { block := ob, off := 1 } (.int .u64 ((eitherF q nothingF) 0).f)).setCell { block := ob, off := 2 } (.int .u64 ((eitherF q nothingF) 0).l)).setCell { block := ob, off := 3 } (.bool ((eitherF q nothingF) 1).e)).setCell { block := ob, off := 4 } (.int .u64 ((eitherF q nothingF) 1).f)).setCell { block := ob, off := 5 } (.int .u64 ((eitherF q nothingF) 1).l)).setCell { block := ob, off := 6 } (.bool ((eitherF q nothingF) 2).e)).setCell { block := ob, off := 7 } (.int .u64 ((eitherF q nothingF) 2).f)).setCell { block := ob, off := 8 } (.int .u64 ((eitherF q nothingF) 2).l)).setCell { block := ob, off := 9 } (.bool ((eitherF q nothingF) 3).e)).setCell { block := ob, off := 10 } (.int .u64 ((eitherF q nothingF) 3).f)).setCell { block := ob, off := 11 } (.int .u64 ((eitherF q nothingF) 3).l)) = V3 at *
            refine hK _ _ trivial ?_
            clear hK K
            intro _
            refine wpAnyH_done (by kernel_rfl) ?_ _
            have c1 := K3.m.rd.c1
            have z1 := K3.m.rd.f1
            go_wp2
            go_roundg m'
            case measure => omega
            case rel => exact ⟨eitherF q nothingF, _, K3.adv, Heq.out, J.inv.adv (by rw [H63.out]; decide), J.pb.either (PB.nothing _), by simp [advF]; omega⟩
        · rw [if_neg c63] at heq
          have Heq : Hid _ := heq
          have e42 : (peekF t s1 == 42) = false := by simpa using c42
          have e43 : (peekF t s1 == 43) = false := by simpa using c43
          have e63 : (peekF t s1 == 63) = false := by simpa using c63
          clear heq c63 c42 c43
          go_wp2_with fail
          refine hpk.mono ?_
          rintro e w5 ⟨rfl, n5, rfl⟩
          have K0 : Work w r pb t wh ob q s1 (wr.drewN n5) := J.wk.heap rfl rfl rfl rfl
          generalize wr.drewN n5 = Wa at *
          have x0 : Wa.cell? ⟨ob, 0, none⟩ = some (.bool (q 0).e) := K0.out.rr 0
          have x1 : Wa.cell? ⟨ob, 1, none⟩ = some (.int .u64 (q 0).f) := K0.out.rr 1
          have x2 : Wa.cell? ⟨ob, 2, none⟩ = some (.int .u64 (q 0).l) := K0.out.rr 2
          have x3 : Wa.cell? ⟨ob, 3, none⟩ = some (.bool (q 1).e) := K0.out.rr 3
          have x4 : Wa.cell? ⟨ob, 4, none⟩ = some (.int .u64 (q 1).f) := K0.out.rr 4
          have x5 : Wa.cell? ⟨ob, 5, none⟩ = some (.int .u64 (q 1).l) := K0.out.rr 5
          have x6 : Wa.cell? ⟨ob, 6, none⟩ = some (.bool (q 2).e) := K0.out.rr 6
          have x7 : Wa.cell? ⟨ob, 7, none⟩ = some (.int .u64 (q 2).f) := K0.out.rr 7
          have x8 : Wa.cell? ⟨ob, 8, none⟩ = some (.int .u64 (q 2).l) := K0.out.rr 8
          have x9 : Wa.cell? ⟨ob, 9, none⟩ = some (.bool (q 3).e) := K0.out.rr 9
          have x10 : Wa.cell? ⟨ob, 10, none⟩ = some (.int .u64 (q 3).f) := K0.out.rr 10
          have x11 : Wa.cell? ⟨ob, 11, none⟩ = some (.int .u64 (q 3).l) := K0.out.rr 11
          have y0 : Wa.cell? ⟨w.heap.size, 0, none⟩ = some (.bool false) := K0.res.rr 0
          have z0 := K0.res.zr 0
          have y1 : Wa.cell? ⟨w.heap.size, 1, none⟩ = some (.int .u64 0) := K0.res.rr 1
          have z1 := K0.res.zr 1
          have y2 : Wa.cell? ⟨w.heap.size, 2, none⟩ = some (.int .u64 0) := K0.res.rr 2
          have z2 := K0.res.zr 2
          have y3 : Wa.cell? ⟨w.heap.size, 3, none⟩ = some (.bool false) := K0.res.rr 3
          have z3 := K0.res.zr 3
          have y4 : Wa.cell? ⟨w.heap.size, 4, none⟩ = some (.int .u64 0) := K0.res.rr 4
          have z4 := K0.res.zr 4
          have y5 : Wa.cell? ⟨w.heap.size, 5, none⟩ = some (.int .u64 0) := K0.res.rr 5
          have z5 := K0.res.zr 5
          have y6 : Wa.cell? ⟨w.heap.size, 6, none⟩ = some (.bool false) := K0.res.rr 6
          have z6 := K0.res.zr 6
          have y7 : Wa.cell? ⟨w.heap.size, 7, none⟩ = some (.int .u64 0) := K0.res.rr 7
          have z7 := K0.res.zr 7
          have y8 : Wa.cell? ⟨w.heap.size, 8, none⟩ = some (.int .u64 0) := K0.res.rr 8
          have z8 := K0.res.zr 8
          have y9 : Wa.cell? ⟨w.heap.size, 9, none⟩ = some (.bool false) := K0.res.rr 9
          have z9 := K0.res.zr 9
          have y10 : Wa.cell? ⟨w.heap.size, 10, none⟩ = some (.int .u64 0) := K0.res.rr 10
          have z10 := K0.res.zr 10
          have y11 : Wa.cell? ⟨w.heap.size, 11, none⟩ = some (.int .u64 0) := K0.res.rr 11
          have z11 := K0.res.zr 11
          go_wp2
          have hlo := K0.lo
          have hfr := far_sets Wa w.heap.size (.bool (q 0).e) (.int .u64 (q 0).f) (.int .u64 (q 0).l) (.bool (q 1).e) (.int .u64 (q 1).f) (.int .u64 (q 1).l) (.bool (q 2).e) (.int .u64 (q 2).f) (.int .u64 (q 2).l) (.bool (q 3).e) (.int .u64 (q 3).f) (.int .u64 (q 3).l)
          have hX := Heq.out
          refine bodyPost_ret (v := pv q) (by simp [results, Tryd.results84, go_sem, pv, y0, y1, y2, y3, y4, y5, y6, y7, y8, y9, y10, y11]) rfl ⟨by rw [← hX], ?_, ?_⟩
          · rw [← hX]; exact K0.m.fr hfr (by simp; omega) (by simp; omega) (by simp; omega)
          · exact K0.fr.trans' hfr (by simp)

end Go.Proofs.YticaoekmlaipnaaDoor
