/-
  Alternatives; and all that the reader's functions do, by induction.
-/
import Derived.Test.YticaoekmlaipnaaDoorWt
set_option linter.unusedSimpArgs false
set_option linter.unusedVariables false
namespace Go.Proofs.YticaoekmlaipnaaDoor
open Go.RowKit

structure AltI (w : World) (r pb : Nat) (t : ByteArray) (wh : Nat → Value) (ob : Nat) (X : Piece × St) (m : Nat) (q : Piece) (s1 : St) (W : World) : Prop where
  wk : Work w r pb t wh ob q s1 W
  eq : Hid (altLF t m q s1 = X)
  inv : Inv t s1
  pb : PB s1.atoms q
  fuel : s1.fault = true ∨ 6 * (t.size - s1.pos) + 5 ≤ m

theorem altL_stop {t : ByteArray} {m : Nat} {q : Piece} {s : St} (h : peekF t s ≠ 124) : altLF t m q s = (q, s) := by
  cases m with
  | zero => rw [altLF_z]
  | succ m => rw [altLF_s, if_neg h]

set_option maxRecDepth 100000 in
set_option maxHeartbeats 4000000 in
theorem alt_said (n : Nat) (hA : ∀ m, m ≤ n → SaidSeq m) : SaidAlt (n + 1) := by
  intro w r pb t wh s h hi hs hn
  have hm : Tryd.prog.follows Departure.mixedOrders = true := by kernel_rfl
  have hrl := h.rlt
  have hpl := h.pat.lt
  rw [altF_s]
  have gv := (givesAll t n).seq s hi
  have hsq := fun (W : World) (hW : M W r pb t wh s) => hA n (Nat.le_refl _) W r pb t wh s hW hi hs (by omega)
  unfold Post at hsq ⊢
  obtain ⟨q0, hq0⟩ : ∃ q, (seqF t n s).1 = q := ⟨_, rfl⟩
  obtain ⟨s0, hs0⟩ : ∃ q, (seqF t n s).2 = q := ⟨_, rfl⟩
  have gi := gv.inv
  have gp := gv.pb
  have gl := gv.le
  simp only [hq0, hs0] at hsq gi gp gl ⊢
  clear hq0 hs0 gv
  obtain ⟨X, hX⟩ : ∃ X, altLF t n q0 s0 = X := ⟨_, rfl⟩
  rw [hX]
  have HX : Hid (altLF t n q0 s0 = X) := hX
  have Hsq := (show Hid _ from hsq)
  have HA := (show Hid _ from hA)
  clear hX hsq hA
  have f0 : Fr [] w (w.alloc (Obj.cells #[.bool false, .int .u64 0, .int .u64 0, .bool false, .int .u64 0, .int .u64 0, .bool false, .int .u64 0, .int .u64 0, .bool false, .int .u64 0, .int .u64 0] 73)) := (Fr.refl [] _).alloc _
  have m0 := h.fr f0 (by simp) (by simp) (by simp)
  have R0 := Res.new w
  go_enter Tryd.func39, Tryd.ntmps39
  go_wp2_with fail
  refine (Hsq.out _ m0).mono ?_
  rintro e w1 ⟨rfl, m1, f1⟩
  have R1 := R0.fr f1 (by simp; omega)
  have F1 : Fr [r, pb] w w1 := (f0.mono (by simp)).trans f1
  have f2 : Fr [] w1 (w1.alloc (Obj.cells #[.bool (q0 0).e, .int .u64 (q0 0).f, .int .u64 (q0 0).l, .bool (q0 1).e, .int .u64 (q0 1).f, .int .u64 (q0 1).l, .bool (q0 2).e, .int .u64 (q0 2).f, .int .u64 (q0 2).l, .bool (q0 3).e, .int .u64 (q0 3).f, .int .u64 (q0 3).l] 73)) := (Fr.refl [] _).alloc _
  have K0 : Work w r pb t wh w1.heap.size q0 s0 (w1.alloc (Obj.cells #[.bool (q0 0).e, .int .u64 (q0 0).f, .int .u64 (q0 0).l, .bool (q0 1).e, .int .u64 (q0 1).f, .int .u64 (q0 1).l, .bool (q0 2).e, .int .u64 (q0 2).f, .int .u64 (q0 2).l, .bool (q0 3).e, .int .u64 (q0 3).f, .int .u64 (q0 3).l] 73)) :=
    ⟨m1.fr f2 (by simp) (by simp) (by simp), Out.new w1 q0, R1.fr f2 (by simp), F1.trans (f2.mono (by simp)), R1.lt, hrl, hpl⟩
  clear m0 R0 f0 m1 R1 F1 f1 f2
  unfold pv
  go_wp2
  generalize w1.heap.size = ob at *
  generalize w1.alloc (Obj.cells #[.bool (q0 0).e, .int .u64 (q0 0).f, .int .u64 (q0 0).l, .bool (q0 1).e, .int .u64 (q0 1).f, .int .u64 (q0 1).l, .bool (q0 2).e, .int .u64 (q0 2).f, .int .u64 (q0 2).l, .bool (q0 3).e, .int .u64 (q0 3).f, .int .u64 (q0 3).l] 73) = W2 at *
  go_loopg [6] n (fun m _ wr => m ≤ n ∧ ∃ q s1, AltI w r pb t wh ob X m q s1 wr)
  case atStart => exact ⟨Nat.le_refl _, q0, s0, K0, HX, gi, gp, .inr (by omega)⟩
  case round =>
    obtain ⟨hgkn, q, s1, J⟩ := hrel
    clear K0 HX Hsq
    have hpos := J.inv.pos
    have hat := J.inv.at_
    have hsk := skip_any 124 J.wk.m hs (by omega)
    unfold skipF at hsk
    by_cases hc : peekF t s1 = 124
    · rw [if_pos hc] at hsk
      have hne : peekF t s1 ≠ -1 := by rw [hc]; decide
      obtain ⟨hnf, hp1⟩ := peek_ne hne
      have hfu : 6 * (t.size - s1.pos) + 5 ≤ gk := J.fuel.elim (fun e => by rw [hnf] at e; cases e) id
      obtain ⟨m', rfl⟩ : ∃ m', gk = m' + 1 := ⟨gk - 1, by omega⟩
      have heq := J.eq.out
      rw [altLF_s, if_pos hc] at heq
      have hin := J.inv.adv hne
      have gv := (givesAll t m').seq _ hin
      have hpa := fun (W : World) (hW : M W r pb t wh (advF s1)) => HA.out m' (by omega) W r pb t wh (advF s1) hW hin hs (by simp [advF]; omega)
      unfold Post at hpa
      have gi2 := gv.inv
      have gb := gv.pb
      have gal := gv.al
      have gl2 := gv.le
      obtain ⟨q1, hq1⟩ : ∃ q, (seqF t m' (advF s1)).1 = q := ⟨_, rfl⟩
      obtain ⟨s2, hs2⟩ : ∃ q, (seqF t m' (advF s1)).2 = q := ⟨_, rfl⟩
      simp only [hq1, hs2] at hpa gi2 gb gal gl2 heq
      clear hq1 hs2 gv
      have ga2 : s1.atoms ≤ s2.atoms := gal
      have gl3 : s1.pos + 1 ≤ s2.pos := gl2
      have Heq : Hid _ := heq
      have Hpa : Hid _ := hpa
      clear heq hpa gal gl2 hc hne
      have gi_at := gi2.at_
      have gi_pos := gi2.pos
      go_wp2_with fail
      refine hsk.mono ?_
      rintro e Wa ⟨rfl, ma, fa⟩
      have K0 := J.wk.call ma (fa.mono (by simp))
      go_wp2
      refine wp_region_heldD (fun _ => True) hm ?_
      have hS : (fun _ : World => True) Wa.drew := trivial
      refine wpAnyH_take (i := 1) (v := ?_) rfl (by kernel_rfl) (by kernel_rfl) (by kernel_rfl) (fun _ _ _ h => h) (.inl ⟨rfl, fun w1 hS1 => ?_⟩) hS ?_
      rotate_left
      · go_simp
        rfl
      simp only [Act.put, List.setIfInBounds_toArray, List.set_cons_zero, List.set_cons_succ]
      refine wpAnyH_ready (rs := [0, 2]) (by kernel_rfl) (by simp) ?_
      refine AllReadyH.cons rfl (fun K hK => ?_) ?_
      · have x0 : Wa.cell? ⟨ob, 0, none⟩ = some (.bool (q 0).e) := K0.out.rr 0
        have x1 : Wa.cell? ⟨ob, 1, none⟩ = some (.int .u64 (q 0).f) := K0.out.rr 1
        have x2 : Wa.cell? ⟨ob, 2, none⟩ = some (.int .u64 (q 0).l) := K0.out.rr 2
        have x3 : Wa.cell? ⟨ob, 3, none⟩ = some (.bool (q 1).e) := K0.out.rr 3
        have x4 : Wa.cell? ⟨ob, 4, none⟩ = some (.int .u64 (q 1).f) := K0.out.rr 4
        have x5 : Wa.cell? ⟨ob, 5, none⟩ = some (.int .u64 (q 1).l) := K0.out.rr 5
        have x6 : Wa.cell? ⟨ob, 6, none⟩ = some (.bool (q 2).e) := K0.out.rr 6
        have x7 : Wa.cell? ⟨ob, 7, none⟩ = some (.int .u64 (q 2).f) := K0.out.rr 7
        have x8 : Wa.cell? ⟨ob, 8, none⟩ = some (.int .u64 (q 2).l) := K0.out.rr 8
        have x9 : Wa.cell? ⟨ob, 9, none⟩ = some (.bool (q 3).e) := K0.out.rr 9
        have x10 : Wa.cell? ⟨ob, 10, none⟩ = some (.int .u64 (q 3).f) := K0.out.rr 10
        have x11 : Wa.cell? ⟨ob, 11, none⟩ = some (.int .u64 (q 3).l) := K0.out.rr 11
        go_simp
        clear x0 x1 x2 x3 x4 x5 x6 x7 x8 x9 x10 x11
        refine hK _ _ hS ?_
        clear hK K
        intro _
        refine wpAnyH_ready (rs := [2]) (by kernel_rfl) (by simp) ?_
        refine AllReadyH.cons rfl (fun K hK => ?_) AllReadyH.nil
        go_simp
        refine (Hpa.out _ (K0.m.heap (w' := Wa.drew) rfl)).mono ?_
        rintro e V1 ⟨rfl, mv, fv⟩
        unfold pv
        have fv : Fr [r, pb] Wa V1 := ⟨fv.os, fv.tape, fv.output, fv.size, fv.block⟩
        have K1 := K0.call mv fv
        clear hS
        have hS := trivial
        refine hK _ _ hS ?_
        clear hK K
        intro _
        refine wpAnyH_ready (rs := [3]) (by kernel_rfl) (by simp) ?_
        refine AllReadyH.cons rfl (fun K hK => ?_) AllReadyH.nil
        go_simp
        have hei := either_any q q1 (J.pb.ok (by omega)) (gb.ok (by omega)) V1
        unfold pv at hei
        refine hei.mono ?_
        rintro e V2 ⟨rfl, fu⟩
        have K2 := K1.kept fu
        clear hei
        clear hS
        have hS := trivial
        refine hK _ _ hS ?_
        clear hK K
        intro _
        have x0 : V2.cell? ⟨ob, 0, none⟩ = some (.bool (q 0).e) := K2.out.rr 0
        have xz0 := K2.out.zr 0
        have x1 : V2.cell? ⟨ob, 1, none⟩ = some (.int .u64 (q 0).f) := K2.out.rr 1
        have xz1 := K2.out.zr 1
        have x2 : V2.cell? ⟨ob, 2, none⟩ = some (.int .u64 (q 0).l) := K2.out.rr 2
        have xz2 := K2.out.zr 2
        have x3 : V2.cell? ⟨ob, 3, none⟩ = some (.bool (q 1).e) := K2.out.rr 3
        have xz3 := K2.out.zr 3
        have x4 : V2.cell? ⟨ob, 4, none⟩ = some (.int .u64 (q 1).f) := K2.out.rr 4
        have xz4 := K2.out.zr 4
        have x5 : V2.cell? ⟨ob, 5, none⟩ = some (.int .u64 (q 1).l) := K2.out.rr 5
        have xz5 := K2.out.zr 5
        have x6 : V2.cell? ⟨ob, 6, none⟩ = some (.bool (q 2).e) := K2.out.rr 6
        have xz6 := K2.out.zr 6
        have x7 : V2.cell? ⟨ob, 7, none⟩ = some (.int .u64 (q 2).f) := K2.out.rr 7
        have xz7 := K2.out.zr 7
        have x8 : V2.cell? ⟨ob, 8, none⟩ = some (.int .u64 (q 2).l) := K2.out.rr 8
        have xz8 := K2.out.zr 8
        have x9 : V2.cell? ⟨ob, 9, none⟩ = some (.bool (q 3).e) := K2.out.rr 9
        have xz9 := K2.out.zr 9
        have x10 : V2.cell? ⟨ob, 10, none⟩ = some (.int .u64 (q 3).f) := K2.out.rr 10
        have xz10 := K2.out.zr 10
        have x11 : V2.cell? ⟨ob, 11, none⟩ = some (.int .u64 (q 3).l) := K2.out.rr 11
        have xz11 := K2.out.zr 11
        refine wpAnyH_ready (rs := [4]) (by kernel_rfl) (by simp) ?_
        refine AllReadyH.cons rfl (fun K hK => ?_) AllReadyH.nil
        go_simp
        clear x0 x1 x2 x3 x4 x5 x6 x7 x8 x9 x10 x11 xz0 xz1 xz2 xz3 xz4 xz5 xz6 xz7 xz8 xz9 xz10 xz11
        have K3 := K2.set (eitherF q q1)
        generalize ((((((((((((V2.setCell { block := ob, off := 0 } (.bool ((eitherF q q1) 0).e)).setCell { block := ob, off := 1 } (.int .u64 ((eitherF q q1) 0).f)).setCell { block := ob, off := 2 } (.int .u64 ((eitherF q q1) 0).l)).setCell { block := ob, off := 3 } (.bool ((eitherF q q1) 1).e)).setCell { block := ob, off := 4 } (.int .u64 ((eitherF q q1) 1).f)).setCell { block := ob, off := 5 } (.int .u64 ((eitherF q q1) 1).l)).setCell { block := ob, off := 6 } (.bool ((eitherF q q1) 2).e)).setCell { block := ob, off := 7 } (.int .u64 ((eitherF q q1) 2).f)).setCell { block := ob, off := 8 } (.int .u64 ((eitherF q q1) 2).l)).setCell { block := ob, off := 9 } (.bool ((eitherF q q1) 3).e)).setCell { block := ob, off := 10 } (.int .u64 ((eitherF q q1) 3).f)).setCell { block := ob, off := 11 } (.int .u64 ((eitherF q q1) 3).l)) = V3 at *
        refine hK _ _ (trivial) ?_
        clear hK K
        intro _
        refine wpAnyH_done (by kernel_rfl) ?_ _
        go_wp2
        go_roundg m'
        case measure => omega
        case rel => exact ⟨by omega, eitherF q q1, _, K3, Heq.out, gi2, (J.pb.mono ga2).either gb, .inr (by omega)⟩
      · refine AllReadyH.cons rfl (fun K hK => ?_) AllReadyH.nil
        go_simp
        refine (Hpa.out _ (K0.m.heap (w' := Wa.drew) rfl)).mono ?_
        rintro e V1 ⟨rfl, mv, fv⟩
        unfold pv
        have fv : Fr [r, pb] Wa V1 := ⟨fv.os, fv.tape, fv.output, fv.size, fv.block⟩
        have K1 := K0.call mv fv
        clear hS
        have hS := trivial
        refine hK _ _ hS ?_
        clear hK K
        intro _
        have x0 : V1.cell? ⟨ob, 0, none⟩ = some (.bool (q 0).e) := K1.out.rr 0
        have x1 : V1.cell? ⟨ob, 1, none⟩ = some (.int .u64 (q 0).f) := K1.out.rr 1
        have x2 : V1.cell? ⟨ob, 2, none⟩ = some (.int .u64 (q 0).l) := K1.out.rr 2
        have x3 : V1.cell? ⟨ob, 3, none⟩ = some (.bool (q 1).e) := K1.out.rr 3
        have x4 : V1.cell? ⟨ob, 4, none⟩ = some (.int .u64 (q 1).f) := K1.out.rr 4
        have x5 : V1.cell? ⟨ob, 5, none⟩ = some (.int .u64 (q 1).l) := K1.out.rr 5
        have x6 : V1.cell? ⟨ob, 6, none⟩ = some (.bool (q 2).e) := K1.out.rr 6
        have x7 : V1.cell? ⟨ob, 7, none⟩ = some (.int .u64 (q 2).f) := K1.out.rr 7
        have x8 : V1.cell? ⟨ob, 8, none⟩ = some (.int .u64 (q 2).l) := K1.out.rr 8
        have x9 : V1.cell? ⟨ob, 9, none⟩ = some (.bool (q 3).e) := K1.out.rr 9
        have x10 : V1.cell? ⟨ob, 10, none⟩ = some (.int .u64 (q 3).f) := K1.out.rr 10
        have x11 : V1.cell? ⟨ob, 11, none⟩ = some (.int .u64 (q 3).l) := K1.out.rr 11
        refine wpAnyH_ready (rs := [0]) (by kernel_rfl) (by simp) ?_
        refine AllReadyH.cons rfl (fun K hK => ?_) AllReadyH.nil
        go_simp
        clear x0 x1 x2 x3 x4 x5 x6 x7 x8 x9 x10 x11
        refine hK _ _ hS ?_
        clear hK K
        intro _
        refine wpAnyH_ready (rs := [3]) (by kernel_rfl) (by simp) ?_
        refine AllReadyH.cons rfl (fun K hK => ?_) AllReadyH.nil
        go_simp
        have hei := either_any q q1 (J.pb.ok (by omega)) (gb.ok (by omega)) V1
        unfold pv at hei
        refine hei.mono ?_
        rintro e V2 ⟨rfl, fu⟩
        have K2 := K1.kept fu
        clear hei
        clear hS
        have hS := trivial
        refine hK _ _ hS ?_
        clear hK K
        intro _
        have x0 : V2.cell? ⟨ob, 0, none⟩ = some (.bool (q 0).e) := K2.out.rr 0
        have xz0 := K2.out.zr 0
        have x1 : V2.cell? ⟨ob, 1, none⟩ = some (.int .u64 (q 0).f) := K2.out.rr 1
        have xz1 := K2.out.zr 1
        have x2 : V2.cell? ⟨ob, 2, none⟩ = some (.int .u64 (q 0).l) := K2.out.rr 2
        have xz2 := K2.out.zr 2
        have x3 : V2.cell? ⟨ob, 3, none⟩ = some (.bool (q 1).e) := K2.out.rr 3
        have xz3 := K2.out.zr 3
        have x4 : V2.cell? ⟨ob, 4, none⟩ = some (.int .u64 (q 1).f) := K2.out.rr 4
        have xz4 := K2.out.zr 4
        have x5 : V2.cell? ⟨ob, 5, none⟩ = some (.int .u64 (q 1).l) := K2.out.rr 5
        have xz5 := K2.out.zr 5
        have x6 : V2.cell? ⟨ob, 6, none⟩ = some (.bool (q 2).e) := K2.out.rr 6
        have xz6 := K2.out.zr 6
        have x7 : V2.cell? ⟨ob, 7, none⟩ = some (.int .u64 (q 2).f) := K2.out.rr 7
        have xz7 := K2.out.zr 7
        have x8 : V2.cell? ⟨ob, 8, none⟩ = some (.int .u64 (q 2).l) := K2.out.rr 8
        have xz8 := K2.out.zr 8
        have x9 : V2.cell? ⟨ob, 9, none⟩ = some (.bool (q 3).e) := K2.out.rr 9
        have xz9 := K2.out.zr 9
        have x10 : V2.cell? ⟨ob, 10, none⟩ = some (.int .u64 (q 3).f) := K2.out.rr 10
        have xz10 := K2.out.zr 10
        have x11 : V2.cell? ⟨ob, 11, none⟩ = some (.int .u64 (q 3).l) := K2.out.rr 11
        have xz11 := K2.out.zr 11
        refine wpAnyH_ready (rs := [4]) (by kernel_rfl) (by simp) ?_
        refine AllReadyH.cons rfl (fun K hK => ?_) AllReadyH.nil
        go_simp
        clear x0 x1 x2 x3 x4 x5 x6 x7 x8 x9 x10 x11 xz0 xz1 xz2 xz3 xz4 xz5 xz6 xz7 xz8 xz9 xz10 xz11
        have K3 := K2.set (eitherF q q1)
        generalize ((((((((((((V2.setCell { block := ob, off := 0 } (.bool ((eitherF q q1) 0).e)).setCell { block := ob, off := 1 } (.int .u64 ((eitherF q q1) 0).f)).setCell { block := ob, off := 2 } (.int .u64 ((eitherF q q1) 0).l)).setCell { block := ob, off := 3 } (.bool ((eitherF q q1) 1).e)).setCell { block := ob, off := 4 } (.int .u64 ((eitherF q q1) 1).f)).setCell { block := ob, off := 5 } (.int .u64 ((eitherF q q1) 1).l)).setCell { block := ob, off := 6 } (.bool ((eitherF q q1) 2).e)).setCell { block := ob, off := 7 } (.int .u64 ((eitherF q q1) 2).f)).setCell { block := ob, off := 8 } (.int .u64 ((eitherF q q1) 2).l)).setCell { block := ob, off := 9 } (.bool ((eitherF q q1) 3).e)).setCell { block := ob, off := 10 } (.int .u64 ((eitherF q q1) 3).f)).setCell { block := ob, off := 11 } (.int .u64 ((eitherF q q1) 3).l)) = V3 at *
        refine hK _ _ (trivial) ?_
        clear hK K
        intro _
        refine wpAnyH_done (by kernel_rfl) ?_ _
        go_wp2
        go_roundg m'
        case measure => omega
        case rel => exact ⟨by omega, eitherF q q1, _, K3, Heq.out, gi2, (J.pb.mono ga2).either gb, .inr (by omega)⟩
    · rw [if_neg hc] at hsk
      have Heq : Hid ((q, s1) = X) := (altL_stop hc).symm.trans J.eq.out
      clear hc
      go_wp2_with fail
      refine hsk.mono ?_
      rintro e Wa ⟨rfl, ma, fa⟩
      have K0 := J.wk.call ma (fa.mono (by simp))
      have x0 : Wa.cell? ⟨ob, 0, none⟩ = some (.bool (q 0).e) := K0.out.rr 0
      have x1 : Wa.cell? ⟨ob, 1, none⟩ = some (.int .u64 (q 0).f) := K0.out.rr 1
      have x2 : Wa.cell? ⟨ob, 2, none⟩ = some (.int .u64 (q 0).l) := K0.out.rr 2
      have x3 : Wa.cell? ⟨ob, 3, none⟩ = some (.bool (q 1).e) := K0.out.rr 3
      have x4 : Wa.cell? ⟨ob, 4, none⟩ = some (.int .u64 (q 1).f) := K0.out.rr 4
      have x5 : Wa.cell? ⟨ob, 5, none⟩ = some (.int .u64 (q 1).l) := K0.out.rr 5
      have x6 : Wa.cell? ⟨ob, 6, none⟩ = some (.bool (q 2).e) := K0.out.rr 6
      have x7 : Wa.cell? ⟨ob, 7, none⟩ = some (.int .u64 (q 2).f) := K0.out.rr 7
      have x8 : Wa.cell? ⟨ob, 8, none⟩ = some (.int .u64 (q 2).l) := K0.out.rr 8
      have x9 : Wa.cell? ⟨ob, 9, none⟩ = some (.bool (q 3).e) := K0.out.rr 9
      have x10 : Wa.cell? ⟨ob, 10, none⟩ = some (.int .u64 (q 3).f) := K0.out.rr 10
      have x11 : Wa.cell? ⟨ob, 11, none⟩ = some (.int .u64 (q 3).l) := K0.out.rr 11
      have y0 : Wa.cell? ⟨w.heap.size, 0, none⟩ = some (.bool false) := K0.res.rr 0
      have z0 := K0.res.zr 0
      have y1 : Wa.cell? ⟨w.heap.size, 1, none⟩ = some (.int .u64 0) := K0.res.rr 1
      have z1 := K0.res.zr 1
      have y2 : Wa.cell? ⟨w.heap.size, 2, none⟩ = some (.int .u64 0) := K0.res.rr 2
      have z2 := K0.res.zr 2
      have y3 : Wa.cell? ⟨w.heap.size, 3, none⟩ = some (.bool false) := K0.res.rr 3
      have z3 := K0.res.zr 3
      have y4 : Wa.cell? ⟨w.heap.size, 4, none⟩ = some (.int .u64 0) := K0.res.rr 4
      have z4 := K0.res.zr 4
      have y5 : Wa.cell? ⟨w.heap.size, 5, none⟩ = some (.int .u64 0) := K0.res.rr 5
      have z5 := K0.res.zr 5
      have y6 : Wa.cell? ⟨w.heap.size, 6, none⟩ = some (.bool false) := K0.res.rr 6
      have z6 := K0.res.zr 6
      have y7 : Wa.cell? ⟨w.heap.size, 7, none⟩ = some (.int .u64 0) := K0.res.rr 7
      have z7 := K0.res.zr 7
      have y8 : Wa.cell? ⟨w.heap.size, 8, none⟩ = some (.int .u64 0) := K0.res.rr 8
      have z8 := K0.res.zr 8
      have y9 : Wa.cell? ⟨w.heap.size, 9, none⟩ = some (.bool false) := K0.res.rr 9
      have z9 := K0.res.zr 9
      have y10 : Wa.cell? ⟨w.heap.size, 10, none⟩ = some (.int .u64 0) := K0.res.rr 10
      have z10 := K0.res.zr 10
      have y11 : Wa.cell? ⟨w.heap.size, 11, none⟩ = some (.int .u64 0) := K0.res.rr 11
      have z11 := K0.res.zr 11
      go_wp2
      have hlo := K0.lo
      have hfr := far_sets Wa w.heap.size (.bool (q 0).e) (.int .u64 (q 0).f) (.int .u64 (q 0).l) (.bool (q 1).e) (.int .u64 (q 1).f) (.int .u64 (q 1).l) (.bool (q 2).e) (.int .u64 (q 2).f) (.int .u64 (q 2).l) (.bool (q 3).e) (.int .u64 (q 3).f) (.int .u64 (q 3).l)
      have hX := Heq.out
      refine bodyPost_ret (v := pv q) (by simp [results, Tryd.results39, go_sem, pv, y0, y1, y2, y3, y4, y5, y6, y7, y8, y9, y10, y11]) rfl ⟨by rw [← hX], ?_, ?_⟩
      · rw [← hX]; exact K0.m.fr hfr (by simp; omega) (by simp; omega) (by simp; omega)
      · exact K0.fr.trans' hfr (by simp)

theorem said_all : ∀ n, SaidAlt n ∧ SaidSeq n ∧ SaidPart n ∧ SaidAtom n := by
  intro n
  induction n using Nat.strongRecOn with
  | _ n ih =>
    cases n with
    | zero =>
      refine ⟨?_, ?_, ?_, ?_⟩
      · intro w r pb t wh s _ _ _ h; omega
      · intro w r pb t wh s _ _ _ h; omega
      · intro w r pb t wh s _ _ _ _ h; omega
      · intro w r pb t wh s _ _ _ _ h; omega
    | succ n =>
      exact ⟨alt_said n (fun m hm => (ih m (by omega)).2.1), seq_said n (fun m hm => (ih m (by omega)).2.2.1), part_said n (ih n (by omega)).2.2.2, atom_said n (ih n (by omega)).1⟩

end Go.Proofs.YticaoekmlaipnaaDoor
