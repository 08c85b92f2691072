/-
  A class.
-/
import Derived.Test.YticaoekmlaipnaaDoorWn
import Derived.Test.YticaoekmlaipnaaDoorPd
import Derived.Deep.LoopGhost
set_option linter.unusedSimpArgs false
set_option linter.unusedVariables false
namespace Go.Proofs.YticaoekmlaipnaaDoor
open Go.RowKit

/-- The place of the result: twelve cells as they were laid. -/
structure Res (b : Nat) (W : World) : Prop where
  rr : RowIs W b [.bool false, .int .u64 0, .int .u64 0, .bool false, .int .u64 0, .int .u64 0, .bool false, .int .u64 0, .int .u64 0, .bool false, .int .u64 0, .int .u64 0]
  zr : ∀ i, W.frozen? ⟨b, i, none⟩ = false
theorem Res.lt {b : Nat} {W : World} (h : Res b W) : b < W.heap.size := lt_of_cell (a := ⟨b, 0, none⟩) (h.rr 0)
theorem Res.fr {S : List Nat} {b : Nat} {W W' : World} (h : Res b W) (hf : Fr S W W') (hb : b ∉ S) : Res b W' := ⟨h.rr.fr hf hb h.lt, fun i => (hf.frozen (p := ⟨b, i, none⟩) h.lt hb).trans (h.zr i)⟩
theorem Res.new (W : World) : Res W.heap.size (W.alloc (Obj.cells #[.bool false, .int .u64 0, .int .u64 0, .bool false, .int .u64 0, .int .u64 0, .bool false, .int .u64 0, .int .u64 0, .bool false, .int .u64 0, .int .u64 0] 73)) := ⟨rowIs_new W _ 73, frozen_all_new W _ 73⟩

/-- What the rounds of a class keep. -/
structure ClI (w : World) (r pb : Nat) (t : ByteArray) (wh : Nat → Value) (s : St) (C : (Nat → Bool) × St) (m : Nat) (P : Nat → Bool) (s1 : St) (W : World) : Prop where
  mm : M W r pb t wh s1
  by_ : ByteL W (w.heap.size + 1) P
  res : Res w.heap.size W
  fr : Fr [r, pb] w W
  eq : Hid (classLF t m P s1 = C)
  near : Near t s s1
  fuel : s1.fault = true ∨ t.size - s1.pos < m

set_option maxRecDepth 100000 in
set_option maxHeartbeats 2000000 in
theorem class_any {w : World} {r pb : Nat} {t : ByteArray} {wh : Nat → Value} {s : St} (n : Nat) (h : M w r pb t wh s) (hi : Inv t s) (hs : t.size ≤ 50) (hn : t.size - s.pos < n) (ha : s.atoms < 50) :
    Calls Tryd.prog 101 #[.pointer (some ⟨r, 0, none⟩)] w fun e w' => e = .returned (pv (classF t n s).1) ∧ M w' r pb t wh (classF t n s).2 ∧ Fr [r, pb] w w' := by
  have hrl := h.rlt
  have hpl := h.pat.lt
  have hps := hi.pos
  unfold classF
  simp only
  have n1 := skip_near (t := t) s 94 (by decide)
  have hsk := fun (W : World) (hW : M W r pb t wh s) => skip_any 94 hW hs (by omega)
  obtain ⟨a1, hq1⟩ : ∃ q, (skipF t s 94).1 = q := ⟨_, rfl⟩
  obtain ⟨s1, hq2⟩ : ∃ q, (skipF t s 94).2 = q := ⟨_, rfl⟩
  simp only [hq1, hq2] at hsk n1 ⊢
  clear hq1 hq2
  have hp1 : s1.pos ≤ t.size := n1.pos hps
  have n2 := item_near (t := t) s1 (fun _ => false)
  have g2 := item_prog (t := t) s1 (fun _ => false)
  have hit := fun (W : World) (hW : M W r pb t wh s1) (hB : ByteL W (w.heap.size + 1) (fun _ => false)) => item_any (w.heap.size + 1) (fun _ => false) hW hB (by omega) (by omega) (by omega) hs (by omega)
  obtain ⟨P2, hq3⟩ : ∃ q, (itemF t s1 (fun _ => false)).1 = q := ⟨_, rfl⟩
  obtain ⟨s2, hq4⟩ : ∃ q, (itemF t s1 (fun _ => false)).2 = q := ⟨_, rfl⟩
  simp only [hq3, hq4] at hit n2 g2 ⊢
  clear hq3 hq4
  obtain ⟨C, hC⟩ : ∃ C, classLF t n P2 s2 = C := ⟨_, rfl⟩
  have n3 : Near t s2 C.2 := by rw [← hC]; exact classL_near n P2 s2
  rw [hC]
  have HC : Hid (classLF t n P2 s2 = C) := hC
  clear hC
  have Hsk := (show Hid _ from hsk)
  have Hit := (show Hid _ from hit)
  clear hsk hit
  have f0 : Fr [] w ((w.alloc (Obj.cells #[.bool false, .int .u64 0, .int .u64 0, .bool false, .int .u64 0, .int .u64 0, .bool false, .int .u64 0, .int .u64 0, .bool false, .int .u64 0, .int .u64 0] 73)).alloc (Obj.cells Tryd.zeroCells143 143)) := ((Fr.refl [] _).alloc _).alloc _
  have b0 := ByteL.new (w.alloc (Obj.cells #[.bool false, .int .u64 0, .int .u64 0, .bool false, .int .u64 0, .int .u64 0, .bool false, .int .u64 0, .int .u64 0, .bool false, .int .u64 0, .int .u64 0] 73))
  rw [World.size_alloc] at b0
  have R0 := (Res.new w).fr ((Fr.refl [] _).alloc (Obj.cells Tryd.zeroCells143 143)) (by simp)
  have m0 := h.fr f0 (by simp) (by simp) (by simp)
  go_enter Tryd.func101, Tryd.ntmps101
  go_wp2_with fail
  refine (Hsk.out _ m0).mono ?_
  rintro e w1 ⟨rfl, m1, f1⟩
  have b1 := b0.fr f1 (by simp; omega)
  have R1 := R0.fr f1 (by simp; omega)
  have F1 : Fr [r, pb] w w1 := (f0.mono (by simp)).trans (f1.mono (by simp))
  clear b0 R0 m0 f1 f0
  go_wp2_with fail
  refine (Hit.out _ m1 b1).mono ?_
  rintro e w2 ⟨rfl, m2, b2, f2⟩
  have R2 := R1.fr f2 (by simp; omega)
  have F2 : Fr [r, pb] w w2 := F1.trans' f2 (by simp)
  clear b1 R1 f2
  go_wp2
  go_loopg [10] n (fun m _ wr => ∃ P s1, ClI w r pb t wh s C m P s1 wr)
  case atStart => exact ⟨P2, s2, m2, b2, R2, F2, HC, n1.trans n2, g2.imp id (fun g => by have := n1.le; omega)⟩
  case round =>
    obtain ⟨P, s3, J⟩ := hrel
    cases hf : s3.fault
    · have c2 : wr.cell? ⟨r, 2, none⟩ = some (.bool false) := by rw [← hf]; exact J.mm.rd.c2
      have hfu : t.size - s3.pos < gk := J.fuel.elim (fun e => by rw [hf] at e; cases e) id
      obtain ⟨m', rfl⟩ : ∃ m', gk = m' + 1 := ⟨gk - 1, by omega⟩
      have heq := J.eq.out
      unfold classLF at heq
      by_cases h93 : peekF t s3 = 93
      · rw [if_pos (.inr h93)] at heq
        obtain ⟨rfl, rfl⟩ : P = C.1 ∧ s3 = C.2 := by rw [← heq]; exact ⟨rfl, rfl⟩
        clear heq
        have nC := J.near
        have hnd := fun (W : World) (hW : M W r pb t wh C.2) => need_any 93 hW hs (by have := nC.pos hps; omega)
        have nN := nC.trans (need_near (t := t) C.2 93 (by decide))
        have hat : (needF t C.2 93).atoms < 50 := by rw [nN.atoms]; exact ha
        have htk : ∀ b, (needF t C.2 93).tk b < 18446744073709551616 := fun b => by
          rw [nN.tk]; exact Nat.lt_trans (hi.tk b) (Nat.lt_trans (Nat.pow_lt_pow_right (a := 2) (by decide) ha) (by decide))
        have htf := fun (W : World) (hW : M W r pb t wh (needF t C.2 93)) (hB : ByteL W (w.heap.size + 1) C.1) => takeOf_any (w.heap.size + 1) C.1 (!a1) hW hB (by omega) (by omega) hat htk
        obtain ⟨q, hq⟩ : ∃ q, (takeOfF (needF t C.2 93) (fun b => C.1 b == !a1)).1 = q := ⟨_, rfl⟩
        obtain ⟨sq, hsq⟩ : ∃ q, (takeOfF (needF t C.2 93) (fun b => C.1 b == !a1)).2 = q := ⟨_, rfl⟩
        simp only [hq, hsq] at htf
        have Hq : Hid (_ = q) := hq
        have Hs : Hid (_ = sq) := hsq
        have Hnd := (show Hid _ from hnd)
        have Htf := (show Hid _ from htf)
        clear hq hsq hnd htf
        have hne : (peekF t C.2 != 93) = false := by simp [h93]
        go_wp2_with fail
        refine (peek_any J.mm hs).mono ?_
        rintro e w5 ⟨rfl, n5, rfl⟩
        go_wp2_with fail
        refine (Hnd.out _ (J.mm.heap (w' := wr.drewN n5) rfl)).mono ?_
        rintro e w3 ⟨rfl, m3, f3⟩
        have b3 := (ByteL.mk (w := wr.drewN n5) J.by_.c J.by_.z).fr f3 (by simp; omega)
        have R3 := (Res.mk (W := wr.drewN n5) J.res.rr J.res.zr).fr f3 (by simp; omega)
        have F3 := (J.fr.drewN n5).trans (f3.mono (S' := [r, pb]) (by simp))
        go_wp2_with fail
        refine (Htf.out _ m3 b3).mono ?_
        rintro e w4 ⟨rfl, m4, f4⟩
        have R4 := R3.fr f4 (by simp; omega)
        have F4 := F3.trans f4
        have y0 : w4.cell? ⟨w.heap.size, 0, none⟩ = some (.bool false) := R4.rr 0
        have z0 := R4.zr 0
        have y1 : w4.cell? ⟨w.heap.size, 1, none⟩ = some (.int .u64 0) := R4.rr 1
        have z1 := R4.zr 1
        have y2 : w4.cell? ⟨w.heap.size, 2, none⟩ = some (.int .u64 0) := R4.rr 2
        have z2 := R4.zr 2
        have y3 : w4.cell? ⟨w.heap.size, 3, none⟩ = some (.bool false) := R4.rr 3
        have z3 := R4.zr 3
        have y4 : w4.cell? ⟨w.heap.size, 4, none⟩ = some (.int .u64 0) := R4.rr 4
        have z4 := R4.zr 4
        have y5 : w4.cell? ⟨w.heap.size, 5, none⟩ = some (.int .u64 0) := R4.rr 5
        have z5 := R4.zr 5
        have y6 : w4.cell? ⟨w.heap.size, 6, none⟩ = some (.bool false) := R4.rr 6
        have z6 := R4.zr 6
        have y7 : w4.cell? ⟨w.heap.size, 7, none⟩ = some (.int .u64 0) := R4.rr 7
        have z7 := R4.zr 7
        have y8 : w4.cell? ⟨w.heap.size, 8, none⟩ = some (.int .u64 0) := R4.rr 8
        have z8 := R4.zr 8
        have y9 : w4.cell? ⟨w.heap.size, 9, none⟩ = some (.bool false) := R4.rr 9
        have z9 := R4.zr 9
        have y10 : w4.cell? ⟨w.heap.size, 10, none⟩ = some (.int .u64 0) := R4.rr 10
        have z10 := R4.zr 10
        have y11 : w4.cell? ⟨w.heap.size, 11, none⟩ = some (.int .u64 0) := R4.rr 11
        have z11 := R4.zr 11
        unfold pv
        go_wp2
        have hfr := far_sets w4 w.heap.size (.bool (q 0).e) (.int .u64 (q 0).f) (.int .u64 (q 0).l) (.bool (q 1).e) (.int .u64 (q 1).f) (.int .u64 (q 1).l) (.bool (q 2).e) (.int .u64 (q 2).f) (.int .u64 (q 2).l) (.bool (q 3).e) (.int .u64 (q 3).f) (.int .u64 (q 3).l)
        refine bodyPost_ret (v := pv q) (by simp [results, Tryd.results101, go_sem, pv, y0, y1, y2, y3, y4, y5, y6, y7, y8, y9, y10, y11]) rfl ⟨by rw [Hq.out], ?_, ?_⟩
        · rw [Hs.out]; exact m4.fr hfr (by simp; omega) (by simp; omega) (by simp; omega)
        · exact F4.trans' hfr (by simp)
      · have hne : (peekF t s3 != 93) = true := by simp [h93]
        rw [if_neg (fun e => e.elim (fun e => by rw [hf] at e; cases e) h93)] at heq
        have nn := item_near (t := t) s3 P
        have gg := item_prog (t := t) s3 P
        have hit := fun (W : World) (hW : M W r pb t wh s3) (hB : ByteL W (w.heap.size + 1) P) => item_any (w.heap.size + 1) P hW hB (by omega) (by omega) (by omega) hs (by have := J.near.pos hps; omega)
        obtain ⟨P4, hq3⟩ : ∃ q, (itemF t s3 P).1 = q := ⟨_, rfl⟩
        obtain ⟨s4, hq4⟩ : ∃ q, (itemF t s3 P).2 = q := ⟨_, rfl⟩
        simp only [hq3, hq4] at hit nn gg heq
        have Hit := (show Hid _ from hit)
        have Heq := (show Hid _ from heq)
        clear hq3 hq4 hit heq
        go_wp2_with fail
        refine (peek_any J.mm hs).mono ?_
        rintro e w5 ⟨rfl, n5, rfl⟩
        go_wp2_with fail
        refine (Hit.out _ (J.mm.heap (w' := wr.drewN n5) rfl) (ByteL.mk (w := wr.drewN n5) J.by_.c J.by_.z)).mono ?_
        rintro e w6 ⟨rfl, m6, b6, f6⟩
        go_wp2
        go_roundg m'
        case measure => omega
        case rel => exact ⟨P4, s4, m6, b6, (Res.mk (W := wr.drewN n5) J.res.rr J.res.zr).fr f6 (by simp; omega), (J.fr.drewN n5).trans' f6 (by simp), Heq.out, J.near.trans nn, gg.imp id (fun g => by have := nn.pos (J.near.pos hps); omega)⟩
    · have heq := J.eq.out
      have heq2 : (P, s3) = C := by
        cases gk with
        | zero => exact heq
        | succ k => unfold classLF at heq; rw [if_pos (.inl hf)] at heq; exact heq
      clear heq
      obtain ⟨rfl, rfl⟩ : P = C.1 ∧ s3 = C.2 := by rw [← heq2]; exact ⟨rfl, rfl⟩
      clear heq2
      have nC := J.near
      have hnd := fun (W : World) (hW : M W r pb t wh C.2) => need_any 93 hW hs (by have := nC.pos hps; omega)
      have nN := nC.trans (need_near (t := t) C.2 93 (by decide))
      have hat : (needF t C.2 93).atoms < 50 := by rw [nN.atoms]; exact ha
      have htk : ∀ b, (needF t C.2 93).tk b < 18446744073709551616 := fun b => by
        rw [nN.tk]; exact Nat.lt_trans (hi.tk b) (Nat.lt_trans (Nat.pow_lt_pow_right (a := 2) (by decide) ha) (by decide))
      have htf := fun (W : World) (hW : M W r pb t wh (needF t C.2 93)) (hB : ByteL W (w.heap.size + 1) C.1) => takeOf_any (w.heap.size + 1) C.1 (!a1) hW hB (by omega) (by omega) hat htk
      obtain ⟨q, hq⟩ : ∃ q, (takeOfF (needF t C.2 93) (fun b => C.1 b == !a1)).1 = q := ⟨_, rfl⟩
      obtain ⟨sq, hsq⟩ : ∃ q, (takeOfF (needF t C.2 93) (fun b => C.1 b == !a1)).2 = q := ⟨_, rfl⟩
      simp only [hq, hsq] at htf
      have Hq : Hid (_ = q) := hq
      have Hs : Hid (_ = sq) := hsq
      have Hnd := (show Hid _ from hnd)
      have Htf := (show Hid _ from htf)
      clear hq hsq hnd htf
      have c2 : wr.cell? ⟨r, 2, none⟩ = some (.bool true) := by rw [← hf]; exact J.mm.rd.c2
      go_wp2_with fail
      refine (Hnd.out _ J.mm).mono ?_
      rintro e w3 ⟨rfl, m3, f3⟩
      have b3 := J.by_.fr f3 (by simp; omega)
      have R3 := J.res.fr f3 (by simp; omega)
      have F3 := J.fr.trans (f3.mono (S' := [r, pb]) (by simp))
      go_wp2_with fail
      refine (Htf.out _ m3 b3).mono ?_
      rintro e w4 ⟨rfl, m4, f4⟩
      have R4 := R3.fr f4 (by simp; omega)
      have F4 := F3.trans f4
      have y0 : w4.cell? ⟨w.heap.size, 0, none⟩ = some (.bool false) := R4.rr 0
      have z0 := R4.zr 0
      have y1 : w4.cell? ⟨w.heap.size, 1, none⟩ = some (.int .u64 0) := R4.rr 1
      have z1 := R4.zr 1
      have y2 : w4.cell? ⟨w.heap.size, 2, none⟩ = some (.int .u64 0) := R4.rr 2
      have z2 := R4.zr 2
      have y3 : w4.cell? ⟨w.heap.size, 3, none⟩ = some (.bool false) := R4.rr 3
      have z3 := R4.zr 3
      have y4 : w4.cell? ⟨w.heap.size, 4, none⟩ = some (.int .u64 0) := R4.rr 4
      have z4 := R4.zr 4
      have y5 : w4.cell? ⟨w.heap.size, 5, none⟩ = some (.int .u64 0) := R4.rr 5
      have z5 := R4.zr 5
      have y6 : w4.cell? ⟨w.heap.size, 6, none⟩ = some (.bool false) := R4.rr 6
      have z6 := R4.zr 6
      have y7 : w4.cell? ⟨w.heap.size, 7, none⟩ = some (.int .u64 0) := R4.rr 7
      have z7 := R4.zr 7
      have y8 : w4.cell? ⟨w.heap.size, 8, none⟩ = some (.int .u64 0) := R4.rr 8
      have z8 := R4.zr 8
      have y9 : w4.cell? ⟨w.heap.size, 9, none⟩ = some (.bool false) := R4.rr 9
      have z9 := R4.zr 9
      have y10 : w4.cell? ⟨w.heap.size, 10, none⟩ = some (.int .u64 0) := R4.rr 10
      have z10 := R4.zr 10
      have y11 : w4.cell? ⟨w.heap.size, 11, none⟩ = some (.int .u64 0) := R4.rr 11
      have z11 := R4.zr 11
      unfold pv
      go_wp2
      have hfr := far_sets w4 w.heap.size (.bool (q 0).e) (.int .u64 (q 0).f) (.int .u64 (q 0).l) (.bool (q 1).e) (.int .u64 (q 1).f) (.int .u64 (q 1).l) (.bool (q 2).e) (.int .u64 (q 2).f) (.int .u64 (q 2).l) (.bool (q 3).e) (.int .u64 (q 3).f) (.int .u64 (q 3).l)
      refine bodyPost_ret (v := pv q) (by simp [results, Tryd.results101, go_sem, pv, y0, y1, y2, y3, y4, y5, y6, y7, y8, y9, y10, y11]) rfl ⟨by rw [Hq.out], ?_, ?_⟩
      · rw [Hs.out]; exact m4.fr hfr (by simp; omega) (by simp; omega) (by simp; omega)
      · exact F4.trans' hfr (by simp)

end Go.Proofs.YticaoekmlaipnaaDoor
