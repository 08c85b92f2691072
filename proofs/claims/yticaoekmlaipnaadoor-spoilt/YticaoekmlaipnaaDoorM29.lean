/-
  Spoilt: the walk.
-/
import Derived.Test.YticaoekmlaipnaaDoorM28
set_option linter.unusedSimpArgs false
set_option linter.unusedVariables false
namespace Go.Proofs.YticaoekmlaipnaaDoor
open Go.RowKit
open Wire

theorem pack_ok {m : Mo} (h : packE m = 0) : within ipF m = true ∧ (Wire.written m).length ≤ 40000 ∧ packS m = mkB (Wire.written m) := by
  unfold packE at h
  split at h
  · rename_i hc
    exact ⟨hc.1, hc.2, by unfold packS; rw [if_pos hc]⟩
  · cases h
theorem pack_cases (m : Mo) : packE m = 0 ∨ packE m = 4 := by
  unfold packE; split <;> simp
theorem pack_five : packE fiveM = 0 := by unfold packE; rw [if_pos ⟨five_within, five_len⟩]

theorem packed_facts {m : Mo} (h : packE m = 0) : unpack ipF (bl (packS m)) = .inr m ∧ 30 ≤ (packS m).size ∧ (packS m).size ≤ 40000 := by
  obtain ⟨h1, h2, h3⟩ := pack_ok h
  rw [h3, bl_mkB, mkB_size]
  exact ⟨unpack_written h1 h2, written_ge h1, h2⟩

set_option maxRecDepth 100000 in
set_option maxHeartbeats 4000000 in
theorem spoilt_any (mv : Value) (m : Mo) (at_ v : Int) (w : World) (hM : ModIn w mv m) (hz : ModSz m) (hT : Tab w) (ha0 : -9223372036854775808 ≤ at_) (ha1 : at_ ≤ 9223372036854775807) (hv0 : -9223372036854775808 ≤ v) (hv1 : v ≤ 9223372036854775807) :
    Calls Tryd.prog 6 #[mv, .int .i64 at_, .int .i64 v] w fun e w' => e = .returned (.bool true) ∧ Fr [] w w' := by
  have hp := fun (W : World) (f : Fr [] w W) => pack_any mv m W (hM.fr f) hz (hT.fr f (by simp))
  obtain ⟨tv, pv, fv, rfl, hT1, hP, hF⟩ := hM.is
  obtain ⟨ta, tc, tg, to, rfl, -⟩ := id hT1
  obtain ⟨pa, pc, pg, po, rfl, -⟩ := id hP
  obtain ⟨fa, fc, fg, fo, rfl, -⟩ := id hF
  have F0 := (Fr.refl [] w).alloc (.cells #[Value.slice ta m.texts.length tc, Value.slice pa m.pats.length pc, Value.int IntKind.i64 m.globs, Value.int IntKind.i64 m.arrs, Value.slice fa m.fns.length fc] 43)
  clear hM hz hT1 hP hF
  rcases pack_cases m with hE | hE
  · obtain ⟨hB, hB1, hB2⟩ := packed_facts hE
    simp only [hE] at hp
    generalize packS m = B at *
    have HP : Hid _ := hp
    clear hp hE
    go_enter Tryd.func6, Tryd.ntmps6
    go_wp2_with fail
    refine (HP.out _ F0).mono ?_
    rintro e W1 ⟨rfl, F1⟩
    have F1 := F0.trans F1
    clear HP F0
    have hL := bl_length B
    have gB1 : ¬ ((B.size : Int) < 30) := by omega
    have hu := unpack_any B W1 (by unfold maxLen; omega) (hT.fr F1 (by simp))
    have HU : Hid _ := hu
    have HB : Hid _ := hB
    clear hu hB
    go_wp2_with fail
    refine Calls.mono HU.out ?_
    rintro ee W2 ⟨F2, hcase⟩
    rcases hcase with ⟨e, p, h1, -⟩ | ⟨m', a0, a1, a4, n0, c0, n1, c1, n4, c4, gn, an, h1, rfl, -⟩
    · rw [HB.out] at h1; cases h1
    clear h1 HU
    have F3 := F1.trans F2
    clear F2
    obtain ⟨Wb, cap, hconv, Fb, hcap, hcell, hfz⟩ := bytes_of' W2 B
    have F4 := F3.trans Fb
    obtain ⟨k, hk, hkI⟩ : ∃ k : Nat, k < B.size ∧ (if at_ < 0 then -(at_ + 1) else at_).tmod B.size = (k : Int) := by
      refine ⟨((if at_ < 0 then -(at_ + 1) else at_).tmod B.size).toNat, ?_, ?_⟩
      · have hp : 0 ≤ (if at_ < 0 then -(at_ + 1) else at_) := by split <;> omega
        rw [Int.tmod_eq_emod_of_nonneg hp]
        have := Int.emod_lt_of_pos (if at_ < 0 then -(at_ + 1) else at_) (by omega : (0 : Int) < B.size)
        have := Int.emod_nonneg (if at_ < 0 then -(at_ + 1) else at_) (by omega : (B.size : Int) ≠ 0)
        omega
      · have hp : 0 ≤ (if at_ < 0 then -(at_ + 1) else at_) := by split <;> omega
        rw [Int.tmod_eq_emod_of_nonneg hp]
        have := Int.emod_nonneg (if at_ < 0 then -(at_ + 1) else at_) (by omega : (B.size : Int) ≠ 0)
        omega
    have hk0 : (0 : Int) ≤ (k : Int) := by omega
    have hk1 : (k : Int) < B.size := by omega
    obtain ⟨c, hc⟩ : ∃ c : UInt8, (c.toNat : Int) = v % 256 := ⟨UInt8.ofNat (v % 256).toNat, by simp; omega⟩
    have ckl := hcell k hk
    have fkl := hfz k hk
    have bck := B[k].toNat_lt
    have bcc := c.toNat_lt
    obtain ⟨c2, hc2, hne⟩ : ∃ c2 : UInt8, (c2.toNat : Int) = (if B[k].toNat = c.toNat then (c.toNat + 1) % 256 else c.toNat : Nat) ∧ B[k] ≠ c2 := by
      by_cases he : B[k].toNat = c.toNat
      · refine ⟨UInt8.ofNat ((c.toNat + 1) % 256), by rw [if_pos he]; simp, fun e => ?_⟩
        have := congrArg UInt8.toNat e
        simp at this
        omega
      · exact ⟨c, by rw [if_neg he], fun e => he (by rw [e])⟩
    have no1 := spoil1 (c := c2) HB.out hk hne
    have no2 := spoil2 HB.out (by omega)
    have no3 := spoil3 c HB.out
    have NO : Hid _ := And.intro no1 (And.intro no2 no3)
    have hturn := turned_conv (c2 := c2) (cap := cap) hk hcell
    have HTU : Hid _ := hturn
    clear no1 no2 no3 HB hne hturn hcell hfz
    have R1 : Hid (∀ W : World, Fr [] w W → Calls Tryd.prog 24 #[.string (mkB ((bl B).set k c2))] W fun e w' => e = .returned (.bool true) ∧ Fr [] W w') := fun W f => refused_true _ W (by rw [mkB_size, List.length_set, hL]; unfold maxLen; omega) (hT.fr f (by simp)) NO.out.1
    have R2 : Hid (∀ W : World, Fr [] w W → Calls Tryd.prog 24 #[.string (B.extract 0 (B.size - 1))] W fun e w' => e = .returned (.bool true) ∧ Fr [] W w') := fun W f => refused_true _ W (by rw [ByteArray.size_extract]; unfold maxLen; omega) (hT.fr f (by simp)) NO.out.2.1
    have R3 : Hid (∀ W : World, Fr [] w W → Calls Tryd.prog 24 #[.string (B ++ mkB [c])] W fun e w' => e = .returned (.bool true) ∧ Fr [] W w') := fun W f => refused_true _ W (by rw [ByteArray.size_append, mkB_size]; unfold maxLen; simp; omega) (hT.fr f (by simp)) NO.out.2.2
    have kc1 : ∀ W : World, (convert 50 9 (.slice (some ⟨W.heap.size, 0, none⟩) 1 1)).run Tryd.prog (W.alloc (.cells #[.int .u8 (v % 256)] 5)) = .ok (.string (mkB [c])) (W.alloc (.cells #[.int .u8 (v % 256)] 5)) := fun W => by
      refine conv_bytes _ _ 1 1 [c] rfl (fun j hj => ?_)
      have : j = 0 := by simpa using hj
      subst this
      simp [hc]
    have szc : (mkB [c]).size = 1 := mkB_size [c]
    have g0 : B.size + (mkB [c]).size ≤ 9223372036854775807 := by omega
    have hW2 := F3.size
    have HKC : Hid _ := kc1
    generalize mkB [c] = Bc at *
    obtain ⟨X, hX⟩ : ∃ X : Int, X = (if B[k].toNat = c.toNat then (v + 1) % 256 else v % 256) := ⟨_, rfl⟩
    have hc2X : (c2.toNat : Int) = X := by
      rw [hc2, hX]
      by_cases he : B[k].toNat = c.toNat
      · rw [if_pos he, if_pos he]; omega
      · rw [if_neg he, if_neg he]; omega
    rw [hc2X] at HTU
    generalize mkB ((bl B).set k c2) = Bt at *
    have FC : Fr [] w (Wb.setCell ⟨W2.heap.size, k, none⟩ (.int .u8 X)) := F4.setCell (p := ⟨W2.heap.size, k, none⟩) (.inr hW2) _
    have HFC : Hid _ := FC
    clear kc1 szc NO hc2 hc2X FC F4 F3 Fb F1
    by_cases hneg : at_ < 0
    · simp only [if_pos hneg] at hkI
      have gA : ¬ (0 ≤ at_) := by omega
      by_cases he : B[k].toNat = c.toNat
      · rw [if_pos he] at hX
        have gE : ((B[k].toNat : Int) == v % 256) = true := by simp; omega
        subst hX
        have hturn := HTU.out
        clear he hc HTU hneg
        go_wp2_with fail
        refine (R1.out _ HFC.out).mono ?_
        rintro ee W3 ⟨rfl, G3⟩
        have F5 := HFC.out.trans G3
        clear hturn ckl fkl hconv G3 HFC
        go_wp2_with fail
        refine (R2.out _ F5).mono ?_
        rintro ee W4 ⟨rfl, G4⟩
        have F6 := F5.trans G4
        have kc1 := HKC.out
        have F7 := F6.alloc (.cells #[.int .u8 (v % 256)] 5)
        clear G4 F5 HKC
        go_wp2_with fail
        refine (R3.out _ F7).mono ?_
        rintro ee W5 ⟨rfl, G5⟩
        have F8 := F7.trans G5
        clear kc1 G5 F6 F7
        go_wp2
        go_ret
        exact ⟨rfl, F8⟩
      · rw [if_neg he] at hX
        have gE : ((B[k].toNat : Int) == v % 256) = false := by simp; omega
        subst hX
        have hturn := HTU.out
        clear he hc HTU hneg
        go_wp2_with fail
        refine (R1.out _ HFC.out).mono ?_
        rintro ee W3 ⟨rfl, G3⟩
        have F5 := HFC.out.trans G3
        clear hturn ckl fkl hconv G3 HFC
        go_wp2_with fail
        refine (R2.out _ F5).mono ?_
        rintro ee W4 ⟨rfl, G4⟩
        have F6 := F5.trans G4
        have kc1 := HKC.out
        have F7 := F6.alloc (.cells #[.int .u8 (v % 256)] 5)
        clear G4 F5 HKC
        go_wp2_with fail
        refine (R3.out _ F7).mono ?_
        rintro ee W5 ⟨rfl, G5⟩
        have F8 := F7.trans G5
        clear kc1 G5 F6 F7
        go_wp2
        go_ret
        exact ⟨rfl, F8⟩
    · simp only [if_neg hneg] at hkI
      have gA : 0 ≤ at_ := by omega
      by_cases he : B[k].toNat = c.toNat
      · rw [if_pos he] at hX
        have gE : ((B[k].toNat : Int) == v % 256) = true := by simp; omega
        subst hX
        have hturn := HTU.out
        clear he hc HTU hneg
        go_wp2_with fail
        refine (R1.out _ HFC.out).mono ?_
        rintro ee W3 ⟨rfl, G3⟩
        have F5 := HFC.out.trans G3
        clear hturn ckl fkl hconv G3 HFC
        go_wp2_with fail
        refine (R2.out _ F5).mono ?_
        rintro ee W4 ⟨rfl, G4⟩
        have F6 := F5.trans G4
        have kc1 := HKC.out
        have F7 := F6.alloc (.cells #[.int .u8 (v % 256)] 5)
        clear G4 F5 HKC
        go_wp2_with fail
        refine (R3.out _ F7).mono ?_
        rintro ee W5 ⟨rfl, G5⟩
        have F8 := F7.trans G5
        clear kc1 G5 F6 F7
        go_wp2
        go_ret
        exact ⟨rfl, F8⟩
      · rw [if_neg he] at hX
        have gE : ((B[k].toNat : Int) == v % 256) = false := by simp; omega
        subst hX
        have hturn := HTU.out
        clear he hc HTU hneg
        go_wp2_with fail
        refine (R1.out _ HFC.out).mono ?_
        rintro ee W3 ⟨rfl, G3⟩
        have F5 := HFC.out.trans G3
        clear hturn ckl fkl hconv G3 HFC
        go_wp2_with fail
        refine (R2.out _ F5).mono ?_
        rintro ee W4 ⟨rfl, G4⟩
        have F6 := F5.trans G4
        have kc1 := HKC.out
        have F7 := F6.alloc (.cells #[.int .u8 (v % 256)] 5)
        clear G4 F5 HKC
        go_wp2_with fail
        refine (R3.out _ F7).mono ?_
        rintro ee W5 ⟨rfl, G5⟩
        have F8 := F7.trans G5
        clear kc1 G5 F6 F7
        go_wp2
        go_ret
        exact ⟨rfl, F8⟩
  · simp only [hE] at hp
    generalize packS m = B0 at *
    obtain ⟨hB, hB1, hB2⟩ := packed_facts pack_five
    have HP : Hid _ := hp
    clear hp hE
    go_enter Tryd.func6, Tryd.ntmps6
    go_wp2_with fail
    refine (HP.out _ F0).mono ?_
    rintro e W0 ⟨rfl, F1⟩
    have F1 := F0.trans F1
    clear HP F0
    go_wp2_with fail
    refine (five_any W0).mono ?_
    rintro e Wf ⟨g, rfl, hMf, Ff⟩
    have Ff := F1.trans Ff
    have hpf := pack_any _ fiveM Wf hMf five_sz (hT.fr Ff (by simp))
    rw [pack_five] at hpf
    generalize packS fiveM = B at *
    have HPF : Hid _ := hpf
    clear hpf F1 hMf
    go_wp2_with fail
    refine Calls.mono HPF.out ?_
    rintro e W1 ⟨rfl, F1⟩
    have F1 := Ff.trans F1
    clear HPF Ff
    have hL := bl_length B
    have gB1 : ¬ ((B.size : Int) < 30) := by omega
    have hu := unpack_any B W1 (by unfold maxLen; omega) (hT.fr F1 (by simp))
    have HU : Hid _ := hu
    have HB : Hid _ := hB
    clear hu hB
    go_wp2_with fail
    refine Calls.mono HU.out ?_
    rintro ee W2 ⟨F2, hcase⟩
    rcases hcase with ⟨e, p, h1, -⟩ | ⟨m', a0, a1, a4, n0, c0, n1, c1, n4, c4, gn, an, h1, rfl, -⟩
    · rw [HB.out] at h1; cases h1
    clear h1 HU
    have F3 := F1.trans F2
    clear F2
    obtain ⟨Wb, cap, hconv, Fb, hcap, hcell, hfz⟩ := bytes_of' W2 B
    have F4 := F3.trans Fb
    obtain ⟨k, hk, hkI⟩ : ∃ k : Nat, k < B.size ∧ (if at_ < 0 then -(at_ + 1) else at_).tmod B.size = (k : Int) := by
      refine ⟨((if at_ < 0 then -(at_ + 1) else at_).tmod B.size).toNat, ?_, ?_⟩
      · have hp : 0 ≤ (if at_ < 0 then -(at_ + 1) else at_) := by split <;> omega
        rw [Int.tmod_eq_emod_of_nonneg hp]
        have := Int.emod_lt_of_pos (if at_ < 0 then -(at_ + 1) else at_) (by omega : (0 : Int) < B.size)
        have := Int.emod_nonneg (if at_ < 0 then -(at_ + 1) else at_) (by omega : (B.size : Int) ≠ 0)
        omega
      · have hp : 0 ≤ (if at_ < 0 then -(at_ + 1) else at_) := by split <;> omega
        rw [Int.tmod_eq_emod_of_nonneg hp]
        have := Int.emod_nonneg (if at_ < 0 then -(at_ + 1) else at_) (by omega : (B.size : Int) ≠ 0)
        omega
    have hk0 : (0 : Int) ≤ (k : Int) := by omega
    have hk1 : (k : Int) < B.size := by omega
    obtain ⟨c, hc⟩ : ∃ c : UInt8, (c.toNat : Int) = v % 256 := ⟨UInt8.ofNat (v % 256).toNat, by simp; omega⟩
    have ckl := hcell k hk
    have fkl := hfz k hk
    have bck := B[k].toNat_lt
    have bcc := c.toNat_lt
    obtain ⟨c2, hc2, hne⟩ : ∃ c2 : UInt8, (c2.toNat : Int) = (if B[k].toNat = c.toNat then (c.toNat + 1) % 256 else c.toNat : Nat) ∧ B[k] ≠ c2 := by
      by_cases he : B[k].toNat = c.toNat
      · refine ⟨UInt8.ofNat ((c.toNat + 1) % 256), by rw [if_pos he]; simp, fun e => ?_⟩
        have := congrArg UInt8.toNat e
        simp at this
        omega
      · exact ⟨c, by rw [if_neg he], fun e => he (by rw [e])⟩
    have no1 := spoil1 (c := c2) HB.out hk hne
    have no2 := spoil2 HB.out (by omega)
    have no3 := spoil3 c HB.out
    have NO : Hid _ := And.intro no1 (And.intro no2 no3)
    have hturn := turned_conv (c2 := c2) (cap := cap) hk hcell
    have HTU : Hid _ := hturn
    clear no1 no2 no3 HB hne hturn hcell hfz
    have R1 : Hid (∀ W : World, Fr [] w W → Calls Tryd.prog 24 #[.string (mkB ((bl B).set k c2))] W fun e w' => e = .returned (.bool true) ∧ Fr [] W w') := fun W f => refused_true _ W (by rw [mkB_size, List.length_set, hL]; unfold maxLen; omega) (hT.fr f (by simp)) NO.out.1
    have R2 : Hid (∀ W : World, Fr [] w W → Calls Tryd.prog 24 #[.string (B.extract 0 (B.size - 1))] W fun e w' => e = .returned (.bool true) ∧ Fr [] W w') := fun W f => refused_true _ W (by rw [ByteArray.size_extract]; unfold maxLen; omega) (hT.fr f (by simp)) NO.out.2.1
    have R3 : Hid (∀ W : World, Fr [] w W → Calls Tryd.prog 24 #[.string (B ++ mkB [c])] W fun e w' => e = .returned (.bool true) ∧ Fr [] W w') := fun W f => refused_true _ W (by rw [ByteArray.size_append, mkB_size]; unfold maxLen; simp; omega) (hT.fr f (by simp)) NO.out.2.2
    have kc1 : ∀ W : World, (convert 50 9 (.slice (some ⟨W.heap.size, 0, none⟩) 1 1)).run Tryd.prog (W.alloc (.cells #[.int .u8 (v % 256)] 5)) = .ok (.string (mkB [c])) (W.alloc (.cells #[.int .u8 (v % 256)] 5)) := fun W => by
      refine conv_bytes _ _ 1 1 [c] rfl (fun j hj => ?_)
      have : j = 0 := by simpa using hj
      subst this
      simp [hc]
    have szc : (mkB [c]).size = 1 := mkB_size [c]
    have g0 : B.size + (mkB [c]).size ≤ 9223372036854775807 := by omega
    have hW2 := F3.size
    have HKC : Hid _ := kc1
    generalize mkB [c] = Bc at *
    obtain ⟨X, hX⟩ : ∃ X : Int, X = (if B[k].toNat = c.toNat then (v + 1) % 256 else v % 256) := ⟨_, rfl⟩
    have hc2X : (c2.toNat : Int) = X := by
      rw [hc2, hX]
      by_cases he : B[k].toNat = c.toNat
      · rw [if_pos he, if_pos he]; omega
      · rw [if_neg he, if_neg he]; omega
    rw [hc2X] at HTU
    generalize mkB ((bl B).set k c2) = Bt at *
    have FC : Fr [] w (Wb.setCell ⟨W2.heap.size, k, none⟩ (.int .u8 X)) := F4.setCell (p := ⟨W2.heap.size, k, none⟩) (.inr hW2) _
    have HFC : Hid _ := FC
    clear kc1 szc NO hc2 hc2X FC F4 F3 Fb F1
    by_cases hneg : at_ < 0
    · simp only [if_pos hneg] at hkI
      have gA : ¬ (0 ≤ at_) := by omega
      by_cases he : B[k].toNat = c.toNat
      · rw [if_pos he] at hX
        have gE : ((B[k].toNat : Int) == v % 256) = true := by simp; omega
        subst hX
        have hturn := HTU.out
        clear he hc HTU hneg
        go_wp2_with fail
        refine (R1.out _ HFC.out).mono ?_
        rintro ee W3 ⟨rfl, G3⟩
        have F5 := HFC.out.trans G3
        clear hturn ckl fkl hconv G3 HFC
        go_wp2_with fail
        refine (R2.out _ F5).mono ?_
        rintro ee W4 ⟨rfl, G4⟩
        have F6 := F5.trans G4
        have kc1 := HKC.out
        have F7 := F6.alloc (.cells #[.int .u8 (v % 256)] 5)
        clear G4 F5 HKC
        go_wp2_with fail
        refine (R3.out _ F7).mono ?_
        rintro ee W5 ⟨rfl, G5⟩
        have F8 := F7.trans G5
        clear kc1 G5 F6 F7
        go_wp2
        go_ret
        exact ⟨rfl, F8⟩
      · rw [if_neg he] at hX
        have gE : ((B[k].toNat : Int) == v % 256) = false := by simp; omega
        subst hX
        have hturn := HTU.out
        clear he hc HTU hneg
        go_wp2_with fail
        refine (R1.out _ HFC.out).mono ?_
        rintro ee W3 ⟨rfl, G3⟩
        have F5 := HFC.out.trans G3
        clear hturn ckl fkl hconv G3 HFC
        go_wp2_with fail
        refine (R2.out _ F5).mono ?_
        rintro ee W4 ⟨rfl, G4⟩
        have F6 := F5.trans G4
        have kc1 := HKC.out
        have F7 := F6.alloc (.cells #[.int .u8 (v % 256)] 5)
        clear G4 F5 HKC
        go_wp2_with fail
        refine (R3.out _ F7).mono ?_
        rintro ee W5 ⟨rfl, G5⟩
        have F8 := F7.trans G5
        clear kc1 G5 F6 F7
        go_wp2
        go_ret
        exact ⟨rfl, F8⟩
    · simp only [if_neg hneg] at hkI
      have gA : 0 ≤ at_ := by omega
      by_cases he : B[k].toNat = c.toNat
      · rw [if_pos he] at hX
        have gE : ((B[k].toNat : Int) == v % 256) = true := by simp; omega
        subst hX
        have hturn := HTU.out
        clear he hc HTU hneg
        go_wp2_with fail
        refine (R1.out _ HFC.out).mono ?_
        rintro ee W3 ⟨rfl, G3⟩
        have F5 := HFC.out.trans G3
        clear hturn ckl fkl hconv G3 HFC
        go_wp2_with fail
        refine (R2.out _ F5).mono ?_
        rintro ee W4 ⟨rfl, G4⟩
        have F6 := F5.trans G4
        have kc1 := HKC.out
        have F7 := F6.alloc (.cells #[.int .u8 (v % 256)] 5)
        clear G4 F5 HKC
        go_wp2_with fail
        refine (R3.out _ F7).mono ?_
        rintro ee W5 ⟨rfl, G5⟩
        have F8 := F7.trans G5
        clear kc1 G5 F6 F7
        go_wp2
        go_ret
        exact ⟨rfl, F8⟩
      · rw [if_neg he] at hX
        have gE : ((B[k].toNat : Int) == v % 256) = false := by simp; omega
        subst hX
        have hturn := HTU.out
        clear he hc HTU hneg
        go_wp2_with fail
        refine (R1.out _ HFC.out).mono ?_
        rintro ee W3 ⟨rfl, G3⟩
        have F5 := HFC.out.trans G3
        clear hturn ckl fkl hconv G3 HFC
        go_wp2_with fail
        refine (R2.out _ F5).mono ?_
        rintro ee W4 ⟨rfl, G4⟩
        have F6 := F5.trans G4
        have kc1 := HKC.out
        have F7 := F6.alloc (.cells #[.int .u8 (v % 256)] 5)
        clear G4 F5 HKC
        go_wp2_with fail
        refine (R3.out _ F7).mono ?_
        rintro ee W5 ⟨rfl, G5⟩
        have F8 := F7.trans G5
        clear kc1 G5 F6 F7
        go_wp2
        go_ret
        exact ⟨rfl, F8⟩
end Go.Proofs.YticaoekmlaipnaaDoor

