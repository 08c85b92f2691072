/-
  Back: a module is packed just if it may be, and comes back; and what is read is written just so.
-/
import Derived.Test.YticaoekmlaipnaaDoorM31
import Derived.Test.YticaoekmlaipnaaDoorM28
set_option linter.unusedSimpArgs false
set_option linter.unusedVariables false
namespace Go.Proofs.YticaoekmlaipnaaDoor
open Go.RowKit
open Wire

set_option maxRecDepth 100000 in
set_option maxHeartbeats 4000000 in
theorem packs_any (mv : Value) (m : Mo) (w : World) (hM : ModIn w mv m) (hz : ModSz m) (hT : Tab w) :
    Calls Tryd.prog 20 #[mv] w fun e w' => e = .returned (.bool true) ∧ Fr [] w w' := by
  have hp := fun (W : World) (f : Fr [] w W) => pack_any mv m W (hM.fr f) hz (hT.fr f (by simp))
  have hli := fun (W : World) (f : Fr [] w W) => limitedG_any mv m W (hM.fr f) hz (hT.fr f (by simp))
  have hsi := fun (W : World) (f : Fr [] w W) (hw : within ipF m = true) => size_any mv m W (hM.fr f) hw
  have hMM := hM
  obtain ⟨tv, pv, fv, rfl, hT1, hP1, hF1⟩ := hM.is
  obtain ⟨ta, tc, tg, to, rfl, -⟩ := id hT1
  obtain ⟨pa, pc, pg, po, rfl, -⟩ := id hP1
  obtain ⟨fa, fc, fg, fo, rfl, -⟩ := id hF1
  have F0 : Fr [] w (w.alloc (.cells #[.slice ta m.texts.length tc, .slice pa m.pats.length pc, .int .i64 m.globs, .int .i64 m.arrs, .slice fa m.fns.length fc] 43)) := (Fr.refl [] w).alloc _
  have n1 := World.alloc_heap_new w (.cells #[.slice ta m.texts.length tc, .slice pa m.pats.length pc, .int .i64 m.globs, .int .i64 m.arrs, .slice fa m.fns.length fc] 43)
  have HP : Hid _ := hp
  have HLI : Hid _ := hli
  have HSI : Hid _ := hsi
  have HMM : Hid _ := hMM
  clear hp hli hsi hMM hM hT1 hP1 hF1 hz
  cases hw : within ipF m with
  | false =>
    have e1 : packS m = ⟨#[]⟩ := by unfold packS; rw [if_neg (by simp [hw])]
    have e2 : packE m = 4 := by unfold packE; rw [if_neg (by simp [hw])]
    rw [e1, e2] at HP
    rw [hw] at HLI
    clear e1 e2 HSI HMM
    go_enter Tryd.func20, Tryd.ntmps20
    go_wp2_with fail
    generalize (w.alloc (.cells #[.slice ta m.texts.length tc, .slice pa m.pats.length pc, .int .i64 m.globs, .int .i64 m.arrs, .slice fa m.fns.length fc] 43)) = W at *
    have hl1 := (Array.getElem?_eq_some_iff.1 n1).1
    have kp : ∀ {W' : World}, Fr [] W W' → W'.cell? ⟨w.heap.size, 0, none⟩ = some (.slice ta m.texts.length tc) ∧ W'.cell? ⟨w.heap.size, 1, none⟩ = some (.slice pa m.pats.length pc) ∧ W'.cell? ⟨w.heap.size, 2, none⟩ = some (.int .i64 m.globs) ∧ W'.cell? ⟨w.heap.size, 3, none⟩ = some (.int .i64 m.arrs) ∧ W'.cell? ⟨w.heap.size, 4, none⟩ = some (.slice fa m.fns.length fc) := fun f => by
      have := (f.block _ hl1 (by simp)).trans n1
      refine ⟨?_, ?_, ?_, ?_, ?_⟩ <;> (unfold World.cell?; rw [this]; rfl)
    have KP : Hid _ := @kp
    clear kp n1
    refine (HP.out W F0).mono ?_
    rintro e W1 ⟨rfl, F1⟩
    obtain ⟨v0, v1, v2, v3, v4⟩ := KP.out F1
    go_wp2_with fail
    refine (HLI.out W1 (F0.trans F1)).mono ?_
    rintro e W2 ⟨rfl, F2⟩
    have F2 := F1.trans F2
    clear v0 v1 v2 v3 v4 HP HLI F1
    have FF := F0.trans F2
    go_wp2
    go_ret
    exact ⟨rfl, FF⟩
  | true =>
    rw [hw] at HLI
    have hsi := fun (W : World) (f : Fr [] w W) => HSI.out W f hw
    have HS2 : Hid _ := hsi
    clear HSI hsi
    by_cases hl : (Wire.written m).length ≤ 40000
    · have e2 : packE m = 0 := by unfold packE; rw [if_pos ⟨hw, hl⟩]
      have e1 : packS m = mkB (Wire.written m) := by unfold packS; rw [if_pos ⟨hw, hl⟩]
      rw [e1, e2] at HP
      have hun := unpack_written hw hl
      have hBs : (mkB (Wire.written m)).size = (Wire.written m).length := mkB_size _
      have hBl := bl_mkB (Wire.written m)
      obtain ⟨q1, q2, q3, q4, -⟩ := Wire.within_iff.1 hw
      generalize mkB (Wire.written m) = B at *
      rw [← hBl] at hun
      have HUN : Hid _ := hun
      generalize (Wire.written m).length = N at *
      have gN : (N : Int) ≤ 40000 := by omega
      have gD : decide ((N : Int) ≤ 40000) = true := by simp; omega
      clear e1 e2 hBl hun hw
      go_enter Tryd.func20, Tryd.ntmps20
      go_wp2_with fail
      generalize (w.alloc (.cells #[.slice ta m.texts.length tc, .slice pa m.pats.length pc, .int .i64 m.globs, .int .i64 m.arrs, .slice fa m.fns.length fc] 43)) = W at *
      have hl1 := (Array.getElem?_eq_some_iff.1 n1).1
      have kp : ∀ {W' : World}, Fr [] W W' → W'.cell? ⟨w.heap.size, 0, none⟩ = some (.slice ta m.texts.length tc) ∧ W'.cell? ⟨w.heap.size, 1, none⟩ = some (.slice pa m.pats.length pc) ∧ W'.cell? ⟨w.heap.size, 2, none⟩ = some (.int .i64 m.globs) ∧ W'.cell? ⟨w.heap.size, 3, none⟩ = some (.int .i64 m.arrs) ∧ W'.cell? ⟨w.heap.size, 4, none⟩ = some (.slice fa m.fns.length fc) := fun f => by
        have := (f.block _ hl1 (by simp)).trans n1
        refine ⟨?_, ?_, ?_, ?_, ?_⟩ <;> (unfold World.cell?; rw [this]; rfl)
      have KP : Hid _ := @kp
      clear kp n1
      refine (HP.out W F0).mono ?_
      rintro e W1 ⟨rfl, F1⟩
      obtain ⟨v0, v1, v2, v3, v4⟩ := KP.out F1
      go_wp2_with fail
      refine (HLI.out W1 (F0.trans F1)).mono ?_
      rintro e W2 ⟨rfl, F2⟩
      have F2 := F1.trans F2
      clear v0 v1 v2 v3 v4 HP HLI F1
      obtain ⟨v0, v1, v2, v3, v4⟩ := KP.out F2
      go_wp2_with fail
      refine (HS2.out W2 (F0.trans F2)).mono ?_
      rintro e W3 ⟨rfl, F3⟩
      have F3 := F2.trans F3
      clear v0 v1 v2 v3 v4 F2
      have hu := unpack_any B W3 (by unfold maxLen; omega) (hT.fr (F0.trans F3) (by simp))
      have HU : Hid _ := hu
      clear hu
      go_wp2_with fail
      refine Calls.mono HU.out ?_
      rintro ee W4 ⟨F4, hcase⟩
      rcases hcase with ⟨e, p, h1, -⟩ | ⟨m', a0, a1, a4, n0, c0, n1, c1, n4, c4, gn, an, h1, rfl, h3⟩
      · rw [HUN.out] at h1; cases h1
      rw [HUN.out] at h1
      cases h1
      have F4 := F3.trans F4
      obtain ⟨v0, v1, v2, v3, v4⟩ := KP.out F4
      have hlt4 : w.heap.size < W4.heap.size := lt_of_cell v0
      have F5 := F4.alloc (.cells #[.slice a0 n0 c0, .slice a1 n1 c1, .int .i64 gn, .int .i64 an, .slice a4 n4 c4] 43)
      have F45 : Fr [] W4 (W4.alloc (.cells #[.slice a0 n0 c0, .slice a1 n1 c1, .int .i64 gn, .int .i64 an, .slice a4 n4 c4] 43)) := (Fr.refl [] W4).alloc _
      have hal := alike_any _ _ m _ q1 q2 q4 (h3.mod.fr F45) (HMM.out.fr (F0.trans F5))
      have HAL : Hid _ := hal
      clear hal h3 HUN HU HMM F45 F3
      go_wp2_with fail
      refine Calls.mono HAL.out ?_
      rintro ee W6 ⟨rfl, F6⟩
      have F6 := F5.trans F6
      clear v0 v1 v2 v3 v4 F5 F4 HAL
      obtain ⟨v0, v1, v2, v3, v4⟩ := KP.out F6
      go_wp2_with fail
      refine (HS2.out W6 (F0.trans F6)).mono ?_
      rintro e W7 ⟨rfl, F7⟩
      have FF := F0.trans (F6.trans F7)
      have gB : ((B.size : Int) == (N : Int)) = true := by simp; omega
      clear v0 v1 v2 v3 v4 F6 F7 HS2
      go_wp2
      go_ret
      exact ⟨rfl, FF⟩
    · have e2 : packE m = 4 := by unfold packE; rw [if_neg (by simp [hl])]
      have e1 : packS m = ⟨#[]⟩ := by unfold packS; rw [if_neg (by simp [hl])]
      rw [e1, e2] at HP
      obtain ⟨N, hN⟩ : ∃ N, (Wire.written m).length = N := ⟨_, rfl⟩
      have hbl := body_len_le m ipF hw
      have hwl := written_length m
      rw [hN] at HS2 hl hwl
      have gN : ¬ (N : Int) ≤ 40000 := by omega
      have gN2 : N ≤ 100000003 := by omega
      have gD : decide ((N : Int) ≤ 40000) = false := by simp; omega
      clear e1 e2 HMM hN hw hbl hwl hl
      go_enter Tryd.func20, Tryd.ntmps20
      go_wp2_with fail
      generalize (w.alloc (.cells #[.slice ta m.texts.length tc, .slice pa m.pats.length pc, .int .i64 m.globs, .int .i64 m.arrs, .slice fa m.fns.length fc] 43)) = W at *
      have hl1 := (Array.getElem?_eq_some_iff.1 n1).1
      have kp : ∀ {W' : World}, Fr [] W W' → W'.cell? ⟨w.heap.size, 0, none⟩ = some (.slice ta m.texts.length tc) ∧ W'.cell? ⟨w.heap.size, 1, none⟩ = some (.slice pa m.pats.length pc) ∧ W'.cell? ⟨w.heap.size, 2, none⟩ = some (.int .i64 m.globs) ∧ W'.cell? ⟨w.heap.size, 3, none⟩ = some (.int .i64 m.arrs) ∧ W'.cell? ⟨w.heap.size, 4, none⟩ = some (.slice fa m.fns.length fc) := fun f => by
        have := (f.block _ hl1 (by simp)).trans n1
        refine ⟨?_, ?_, ?_, ?_, ?_⟩ <;> (unfold World.cell?; rw [this]; rfl)
      have KP : Hid _ := @kp
      clear kp n1
      refine (HP.out W F0).mono ?_
      rintro e W1 ⟨rfl, F1⟩
      obtain ⟨v0, v1, v2, v3, v4⟩ := KP.out F1
      go_wp2_with fail
      refine (HLI.out W1 (F0.trans F1)).mono ?_
      rintro e W2 ⟨rfl, F2⟩
      have F2 := F1.trans F2
      clear v0 v1 v2 v3 v4 HP HLI F1
      obtain ⟨v0, v1, v2, v3, v4⟩ := KP.out F2
      go_wp2_with fail
      refine (HS2.out W2 (F0.trans F2)).mono ?_
      rintro e W3 ⟨rfl, F3⟩
      have F3 := F2.trans F3
      clear v0 v1 v2 v3 v4 F2
      have FF := F0.trans F3
      go_wp2
      go_ret
      exact ⟨rfl, FF⟩

theorem sz_of_within {m : Mo} (h : within ipF m = true) : ModSz m := by
  obtain ⟨q1, q2, q3, q4, q5, q6, q7, q8, q9, q10, q11⟩ := Wire.within_iff.1 h
  have f11 := lawfulAll_mem _ _ q11
  refine ⟨?_, fun s hs => ?_, ?_, fun s hs => ?_, ?_, fun s hs => ?_⟩
  · unfold maxLen; omega
  · have := q9 s hs; unfold maxLen; omega
  · unfold maxLen; omega
  · have := (q10 s hs).1; unfold maxLen; omega
  · unfold maxLen; omega
  · have := (f11 s hs).1; unfold maxLen; omega

set_option maxRecDepth 100000 in
set_option maxHeartbeats 4000000 in
theorem back_any (mv : Value) (m : Mo) (raw : ByteArray) (w : World) (hM : ModIn w mv m) (hz : ModSz m) (hT : Tab w) (hr : raw.size ≤ maxLen) (hfz : ModSz fiveM) :
    Calls Tryd.prog 5 #[mv, .string raw] w fun e w' => e = .returned (.bool true) ∧ Fr [] w w' := by
  have hpk := fun (W : World) (f : Fr [] w W) => packs_any mv m W (hM.fr f) hz (hT.fr f (by simp))
  obtain ⟨tv, pv, fv, rfl, hT1, hP1, hF1⟩ := hM.is
  obtain ⟨ta, tc, tg, to, rfl, -⟩ := id hT1
  obtain ⟨pa, pc, pg, po, rfl, -⟩ := id hP1
  obtain ⟨fa, fc, fg, fo, rfl, -⟩ := id hF1
  have F0 : Fr [] w (w.alloc (.cells #[.slice ta m.texts.length tc, .slice pa m.pats.length pc, .int .i64 m.globs, .int .i64 m.arrs, .slice fa m.fns.length fc] 43)) := (Fr.refl [] w).alloc _
  have n1 := World.alloc_heap_new w (.cells #[.slice ta m.texts.length tc, .slice pa m.pats.length pc, .int .i64 m.globs, .int .i64 m.arrs, .slice fa m.fns.length fc] 43)
  have HPK : Hid _ := hpk
  clear hpk hM hT1 hP1 hF1 hz
  go_enter Tryd.func5, Tryd.ntmps5
  go_wp2_with fail
  generalize (w.alloc (.cells #[.slice ta m.texts.length tc, .slice pa m.pats.length pc, .int .i64 m.globs, .int .i64 m.arrs, .slice fa m.fns.length fc] 43)) = W at *
  have hl1 := (Array.getElem?_eq_some_iff.1 n1).1
  have kp : ∀ {W' : World}, Fr [] W W' → W'.cell? ⟨w.heap.size, 0, none⟩ = some (.slice ta m.texts.length tc) ∧ W'.cell? ⟨w.heap.size, 1, none⟩ = some (.slice pa m.pats.length pc) ∧ W'.cell? ⟨w.heap.size, 2, none⟩ = some (.int .i64 m.globs) ∧ W'.cell? ⟨w.heap.size, 3, none⟩ = some (.int .i64 m.arrs) ∧ W'.cell? ⟨w.heap.size, 4, none⟩ = some (.slice fa m.fns.length fc) := fun f => by
    have := (f.block _ hl1 (by simp)).trans n1
    refine ⟨?_, ?_, ?_, ?_, ?_⟩ <;> (unfold World.cell?; rw [this]; rfl)
  have KP : Hid _ := @kp
  clear kp n1
  refine (five_any W).mono ?_
  rintro e W1 ⟨g, rfl, hMf, F1⟩
  have F2 := F1.alloc (.cells #[.slice none 0 0, .slice none 0 0, .int .i64 0, .int .i64 0, .slice (some ⟨g, 0, none⟩) 3 3] 43)
  have hpf := packs_any _ fiveM _ (hMf.fr ((Fr.refl [] W1).alloc (.cells #[.slice none 0 0, .slice none 0 0, .int .i64 0, .int .i64 0, .slice (some ⟨g, 0, none⟩) 3 3] 43))) hfz (hT.fr (F0.trans F2) (by simp))
  have HPF : Hid _ := hpf
  clear hpf hMf
  go_wp2_with fail
  refine Calls.mono HPF.out ?_
  rintro e W2 ⟨rfl, F3⟩
  have F3 := F2.trans F3
  obtain ⟨v0, v1, v2, v3, v4⟩ := KP.out F3
  clear HPF F1 F2
  go_wp2_with fail
  refine (HPK.out W2 (F0.trans F3)).mono ?_
  rintro e W3 ⟨rfl, F4⟩
  have F4 := F3.trans F4
  have hu := unpack_any raw W3 hr (hT.fr (F0.trans F4) (by simp))
  have HU : Hid _ := hu
  unfold maxLen at hr
  clear hu HPK F3 v0 v1 v2 v3 v4 KP
  go_wp2_with fail
  refine Calls.mono HU.out ?_
  rintro ee W4 ⟨F5, hcase⟩
  have F5 := (F0.trans F4).trans F5
  clear HU F4 F0
  rcases hcase with ⟨e, p, h1, h2, h3, h4, rfl⟩ | ⟨m', a0, a1, a4, n0, c0, n1, c1, n4, c4, gn, an, h1, rfl, h3⟩
  · have g1 : ((e : Int) != 0) = true := by simp; omega
    have g2 : (p : Int) ≤ raw.size := by omega
    have F6 := F5.alloc (.cells #[.slice none 0 0, .slice none 0 0, .int .i64 0, .int .i64 0, .slice none 0 0] 43)
    clear h1 F5
    go_wp2_with fail
    refine (empty_zero _).mono ?_
    rintro ee W5 ⟨rfl, F7⟩
    have F7 := F6.trans F7
    clear F6
    go_wp2
    go_ret
    exact ⟨rfl, F7⟩
  · obtain ⟨u1, u2, u3⟩ := unpack_inr h1
    have e2 : packE m' = 0 := by unfold packE; rw [if_pos ⟨u1, by rw [← u2]; exact u3⟩]
    have e1 : packS m' = raw := by
      unfold packS
      rw [if_pos ⟨u1, by rw [← u2]; exact u3⟩]
      apply bl_inj
      rw [bl_mkB, u2]
    have F6 := F5.alloc (.cells #[.slice a0 n0 c0, .slice a1 n1 c1, .int .i64 gn, .int .i64 an, .slice a4 n4 c4] 43)
    have hpa := pack_any _ m' _ (h3.mod.fr ((Fr.refl [] W4).alloc (.cells #[.slice a0 n0 c0, .slice a1 n1 c1, .int .i64 gn, .int .i64 an, .slice a4 n4 c4] 43))) (sz_of_within u1) (hT.fr F6 (by simp))
    rw [e1, e2] at hpa
    have HPA : Hid _ := hpa
    have g3 : (raw.toList == raw.toList) = true := by simp
    clear hpa e1 e2 u1 u2 u3 h1 h3 F5
    go_wp2_with fail
    refine Calls.mono HPA.out ?_
    rintro ee W5 ⟨rfl, F7⟩
    have F7 := F6.trans F7
    clear F6 HPA
    go_wp2
    go_ret
    exact ⟨rfl, F7⟩
end Go.Proofs.YticaoekmlaipnaaDoor

