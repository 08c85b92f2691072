/-
  The reader of a module's bytes: a section, its content read by a closure.
-/
import Derived.Test.YticaoekmlaipnaaDoorM20
set_option linter.unusedSimpArgs false
set_option linter.unusedVariables false
namespace Go.Proofs.YticaoekmlaipnaaDoor
open Go.RowKit
open Wire

set_option maxRecDepth 100000 in
set_option maxHeartbeats 1000000 in
theorem section62_any {α : Type} {w : World} {r : Nat} {b : ByteArray} {s : Sta} (k : Nat) {kI : Int} (hkI : kI = (k : Int)) (hk : k < 256) (f : Rd α) (hf : Tidy f) (d : α) (rb mb : Nat) (I : World → Prop) (G : Option α → World → Prop)
    (hI : ∀ W W', Fr [r] W W' → I W → I W') (hG : ∀ o W W', Fr [r] W W' → G o W → G o W') (hN : ∀ W, I W → G none W)
    (hc : ∀ (W : World) (s : Sta), RdS W r b s → I W → Calls Tryd.prog 62 #[.pointer (some ⟨rb, 0, none⟩), .pointer (some ⟨mb, 0, none⟩)] W fun ee W' => ee = .returned (.tuple #[]) ∧ RdS W' r b (nextR f (bl b) s) ∧ (∃ o, G o W' ∧ ((∃ p, nextR f (bl b) s = .inr p) → o = some (outR f (bl b) d s))) ∧ Fr [r, mb] W W')
    (h : RdS w r b s) (hs : b.size ≤ 40000) (hend : ∀ p, s = .inr p → p.2 = b.size) (hIw : I w) :
    Calls Tryd.prog 61 #[.pointer (some ⟨r, 0, none⟩), .int .u8 kI, .func (.func 62) #[] #[.pointer (some ⟨rb, 0, none⟩), .pointer (some ⟨mb, 0, none⟩)]] w fun ee w' =>
      ee = .returned (.tuple #[]) ∧ RdS w' r b (nextR (fun base l => sectR k base f l) (bl b) s) ∧ (∃ o, G o w' ∧ ((∃ p, nextR (fun base l => sectR k base f l) (bl b) s = .inr p) → o = some (outR (fun base l => sectR k base f l) (bl b) d s))) ∧ Fr [r, mb] w w' := by
  have hm : Tryd.prog.follows Departure.mixedOrders = true := by kernel_rfl
  subst hkI
  have hkc : (k : Int) = ((UInt8.ofNat k).toNat : Int) := by simp [UInt8.toNat_ofNat]; omega
  obtain ⟨s1, k1⟩ : ∃ x, nextR (needR (UInt8.ofNat k) 7) (bl b) s = x := ⟨_, rfl⟩
  obtain ⟨x, h2⟩ : ∃ x, outR numU (bl b) 0 s1 = x := ⟨_, rfl⟩
  obtain ⟨s2, k2⟩ : ∃ x, nextR numU (bl b) s1 = x := ⟨_, rfl⟩
  obtain ⟨p1, p2⟩ := sect_next k hk f hf d b h.ok hend k1 h2 k2
  have ok1 : okSta (bl b) s1 := k1 ▸ (needR_tidy _ 7 (by omega) (by omega)).next h.ok
  have ok2 : okSta (bl b) s2 := k2 ▸ numU_tidy.next ok1
  obtain ⟨m1, m2⟩ := stA_le ok1
  obtain ⟨n1, n2⟩ := stA_le ok2
  have hx := numU_small b s1
  rw [h2] at hx
  have c1 := needU_any (no := 7) (nI := 7) hkc rfl h hs (by omega) (by omega)
  rw [k1] at c1
  have c2 := fun (W : World) (hW : RdS W r b s1) => number_any hW hs
  simp only [h2, k2] at c2
  have C1 : Hid _ := c1
  have C2 : Hid _ := c2
  have HC : Hid _ := hc
  have Inc : ∀ {W W' : World}, Fr [r] W W' → Fr [r, mb] W W' := fun f => f.mono (by simp)
  clear c1 c2 hc hkc k1 h2 k2 hf
  by_cases q1 : stE b.size s2 - stA b.size s2 < x
  · have hnext := p1 q1
    rw [hnext]
    have hne : ∀ p, failS 7 (stA b.size s1) s2 ≠ .inr p := fun p => by rcases s2 with g | g <;> simp [failS]
    have hfail := fun (W : World) (hW : RdS W r b s2) => failU_any (place := stA b.size s1) (no := 7) rfl hW hs (by omega) (by omega) (by omega)
    have HF : Hid (∀ W : World, RdS W r b s2 → Calls Tryd.prog 72 #[.pointer (some ⟨r, 0, none⟩), .int .i64 (stA b.size s1), .int .i64 7] W fun ee w' => ee = .returned (.tuple #[]) ∧ RdS w' r b (failS 7 (stA b.size s1) s2) ∧ Fr [r] W w') := hfail
    have HNE : Hid _ := hne
    have g1 : (stE b.size s2 : Int) - (stA b.size s2 : Int) < x := by omega
    clear p1 p2 hnext hfail hne q1 h
    go_enter Tryd.func61, Tryd.ntmps61
    go_wp2_with fail
    refine Calls.mono C1.out ?_
    rintro ee w1 ⟨rfl, K1, F1⟩
    have a1 := K1.c.c1
    go_wp2_with fail
    refine (C2.out w1 K1).mono ?_
    rintro ee w2 ⟨rfl, K2, F2⟩
    have b1 := K2.c.c1
    have b2 := K2.c.c2
    clear a1
    go_wp2
    go_quiet (fail)
    go_wp2_with fail
    refine (HF.out _ ?hk).mono ?_
    case hk => exact K2.heap rfl
    rintro ee w3 ⟨rfl, K3, F3⟩
    have F3 : Fr [r] w2 w3 := ⟨F3.os, F3.tape, F3.output, F3.size, F3.block⟩
    go_wp2
    refine bodyPost_ret (results_none rfl _ _ _) rfl ?_
    have FF := (F1.trans F2).trans F3
    exact ⟨rfl, K3, ⟨none, hN _ (hI _ _ FF hIw), fun ⟨p, hp⟩ => absurd hp (HNE.out p)⟩, Inc FF⟩
  · obtain ⟨hnext, hout⟩ := p2 q1
    rw [hnext]
    have HOUT : Hid _ := hout
    have ok3 : okSta (bl b) (openS x s2) := by
      rcases s2 with g | ⟨a, e⟩
      · exact ok2
      · have := bl_length b
        simp only [stA, stE] at q1 n1 n2
        exact ⟨by simp only; omega, by simp only; omega⟩
    have hopen : ∀ W : World, RdS W r b s2 → RdS (W.setCell ⟨r, 2, none⟩ (.int .i64 ((stA b.size s2 + x : Nat) : Int))) r b (openS x s2) := fun W hW => by
      refine ⟨?_, ok3⟩
      have := hW.c.set2 (stA b.size s2 + x)
      rcases s2 with g | ⟨a, e⟩
      · have hx0 : x = 0 := by simp only [stA, stE] at q1; omega
        subst hx0
        exact this
      · exact this
    have HOP : Hid _ := hopen
    have g1 : ¬ (stE b.size s2 : Int) - (stA b.size s2 : Int) < x := by omega
    have g1b : (stA b.size s2 : Int) + x ≤ 40000 := by omega
    obtain ⟨s3, hs3⟩ : ∃ s, openS x s2 = s := ⟨_, rfl⟩
    obtain ⟨s4, hs4⟩ : ∃ s, nextR f (bl b) s3 = s := ⟨_, rfl⟩
    have hcc := fun (W : World) (hW : RdS W r b s3) (hi : I W) => HC.out W s3 hW hi
    simp only [hs4] at hcc
    rw [hs3] at HOP HOUT ok3 ⊢
    rw [hs4] at HOUT ⊢
    have HCC : Hid _ := hcc
    clear p1 p2 hnext hout hopen hcc hs3 h
    by_cases q2 : stA b.size s4 < stE b.size s4
    · have esh : shutS b.size s4 = failS 7 (stA b.size s4) s4 := by unfold shutS; rw [if_pos q2]
      rw [esh] at HOUT ⊢
      have hne : ∀ p, endS b.size (failS 7 (stA b.size s4) s4) ≠ .inr p := fun p => by rcases s4 with g | g <;> simp [failS, endS]
      have HNE : Hid _ := hne
      have g2 : (stA b.size s4 : Int) < (stE b.size s4 : Int) := by omega
      have e5 : endS b.size (failS 7 (stA b.size s4) s4) = failS 7 (stA b.size s4) s4 := by rcases s4 with g | g <;> rfl
      have HF : Hid (∀ W : World, RdS W r b s4 → Calls Tryd.prog 72 #[.pointer (some ⟨r, 0, none⟩), .int .i64 (stA b.size s4), .int .i64 7] W fun ee w' => ee = .returned (.tuple #[]) ∧ RdS w' r b (failS 7 (stA b.size s4) s4) ∧ Fr [r] W w') := fun W hW => by
        have := stA_le hW.ok
        exact failU_any (place := stA b.size s4) (no := 7) rfl hW hs (by omega) (by omega) (by omega)
      have hlast : ∀ W : World, RdS W r b (failS 7 (stA b.size s4) s4) → RdS (W.setCell ⟨r, 2, none⟩ (.int .i64 b.size)) r b (failS 7 (stA b.size s4) s4) := fun W hW => by
        refine ⟨?_, hW.ok⟩
        have := hW.c.set2 b.size
        rcases s4 with g | g <;> exact this
      have HL : Hid _ := hlast
      rw [e5] at HNE ⊢
      clear hne esh e5 hlast HOUT q2
      go_enter Tryd.func61, Tryd.ntmps61
      go_wp2_with fail
      refine Calls.mono C1.out ?_
      rintro ee w1 ⟨rfl, K1, F1⟩
      have a1 := K1.c.c1
      go_wp2_with fail
      refine (C2.out w1 K1).mono ?_
      rintro ee w2 ⟨rfl, K2, F2⟩
      have b1 := K2.c.c1
      have b2 := K2.c.c2
      have b3 := K2.c.f2
      clear a1
      go_wp2
      go_quiet (fail)
      go_wp2_with fail
      have K2' : RdS (w2.drewN nq) r b s2 := K2.heap rfl
      have K3 := HOP.out _ K2'
      have F3 : Fr [r] w2 ((w2.drewN nq).setCell ⟨r, 2, none⟩ (.int .i64 ((stA b.size s2 + x : Nat) : Int))) := ((Fr.refl [r] w2).drewN nq).setCell (p := ⟨r, 2, none⟩) (.inl (by simp)) _
      rw [Int.natCast_add] at K3 F3
      have FF := (F1.trans F2).trans F3
      refine (HCC.out _ K3 (hI _ _ FF hIw)).mono ?_
      rintro ee w4 ⟨rfl, K4, ⟨o, hGo, ho⟩, F4⟩
      have d1 := K4.c.c1
      have d2 := K4.c.c2
      clear K2' K3 F3 K2 b1 b2 b3 F1 F2 K1
      go_wp2
      go_quiet (fail)
      go_wp2_with fail
      refine (HF.out _ ?hk).mono ?_
      case hk => exact K4.heap rfl
      rintro ee w5 ⟨rfl, K5, F5⟩
      have F5 : Fr [r] w4 w5 := ⟨F5.os, F5.tape, F5.output, F5.size, F5.block⟩
      have e0 := K5.c.c0
      have e1 := K5.c.f2
      have e2 := K5.c.c2
      have K6 := HL.out _ K5
      have F6 : Fr [r] w4 (w5.setCell ⟨r, 2, none⟩ (.int .i64 b.size)) := F5.setCell (p := ⟨r, 2, none⟩) (.inl (by simp)) _
      clear d1 d2 K4 K5
      go_wp2
      go_end0
      exact ⟨rfl, K6, ⟨o, hG _ _ _ F6 hGo, fun ⟨p, hp⟩ => absurd hp (HNE.out p)⟩, ((Inc FF).trans F4).trans (Inc F6)⟩
    · have esh : shutS b.size s4 = s4 := by unfold shutS; rw [if_neg q2]
      rw [esh] at HOUT ⊢
      have g2 : ¬ (stA b.size s4 : Int) < (stE b.size s4 : Int) := by omega
      have hlast : ∀ W : World, RdS W r b s4 → RdS (W.setCell ⟨r, 2, none⟩ (.int .i64 b.size)) r b (endS b.size s4) := fun W hW => by
        have hc2 := hW.c.set2 b.size
        have hok := hW.ok
        have := bl_length b
        rcases s4 with g | ⟨a, e⟩
        · exact ⟨hc2, hok⟩
        · exact ⟨hc2, ⟨Nat.le_trans hok.1 (by have h2 := hok.2; omega), by omega⟩⟩
      have HL : Hid _ := hlast
      clear esh hlast q2
      go_enter Tryd.func61, Tryd.ntmps61
      go_wp2_with fail
      refine Calls.mono C1.out ?_
      rintro ee w1 ⟨rfl, K1, F1⟩
      have a1 := K1.c.c1
      go_wp2_with fail
      refine (C2.out w1 K1).mono ?_
      rintro ee w2 ⟨rfl, K2, F2⟩
      have b1 := K2.c.c1
      have b2 := K2.c.c2
      have b3 := K2.c.f2
      clear a1
      go_wp2
      go_quiet (fail)
      go_wp2_with fail
      have K2' : RdS (w2.drewN nq) r b s2 := K2.heap rfl
      have K3 := HOP.out _ K2'
      have F3 : Fr [r] w2 ((w2.drewN nq).setCell ⟨r, 2, none⟩ (.int .i64 ((stA b.size s2 + x : Nat) : Int))) := ((Fr.refl [r] w2).drewN nq).setCell (p := ⟨r, 2, none⟩) (.inl (by simp)) _
      rw [Int.natCast_add] at K3 F3
      have FF := (F1.trans F2).trans F3
      refine (HCC.out _ K3 (hI _ _ FF hIw)).mono ?_
      rintro ee w4 ⟨rfl, K4, ⟨o, hGo, ho⟩, F4⟩
      have d1 := K4.c.c1
      have d2 := K4.c.c2
      clear K2' K3 F3 K2 b1 b2 b3 F1 F2 K1
      go_wp2
      go_quiet (fail)
      have K4' : RdS (w4.drewN nq) r b s4 := K4.heap rfl
      have e0 := K4'.c.c0
      have e1 := K4'.c.f2
      have e2 := K4'.c.c2
      have K6 := HL.out _ K4'
      have F6 : Fr [r] w4 ((w4.drewN nq).setCell ⟨r, 2, none⟩ (.int .i64 b.size)) := ((Fr.refl [r] w4).drewN nq).setCell (p := ⟨r, 2, none⟩) (.inl (by simp)) _
      clear d1 d2 K4 K4'
      go_wp2
      go_end0
      refine ⟨rfl, K6, ⟨o, hG _ _ _ F6 hGo, fun hp => ?_⟩, ((Inc FF).trans F4).trans (Inc F6)⟩
      obtain ⟨z1, z2⟩ := HOUT.out hp
      rw [z2]
      exact ho z1

end Go.Proofs.YticaoekmlaipnaaDoor

