/-
  What is read of an escaped text; knows; seeks.
-/
import Derived.Test.YticaoekmlaipnaaDoorXh
set_option linter.unusedSimpArgs false
set_option linter.unusedVariables false
namespace Go.Proofs.YticaoekmlaipnaaDoor
open Go.RowKit

theorem st0_lit (lit : ByteArray) : LitSt lit 0 nothingF st0 := ⟨rfl, rfl, rfl, fun b a => by simp [st0], fun sp a c => by simp [st0], fun sp => rfl⟩

theorem read_esc (lit : ByteArray) (hl : lit.size ≤ 25) : readOk (escN lit lit.size) = true ∧ LitSt lit lit.size (readF (escN lit lit.size)).1 (readF (escN lit lit.size)).2 := by
  have hs := escN_size lit lit.size (Nat.le_refl _)
  have hb := escN_byte lit lit.size (Nat.le_refl _)
  generalize escN lit lit.size = t at *
  have h := LitSt.seq (m := 398 - 4 - lit.size) hs hb lit.size 0 nothingF st0 (by omega) (st0_lit lit)
  rw [show 398 - 4 - lit.size + 4 + lit.size = 398 by omega] at h
  have e1 : seqF t 399 st0 = seqLF t 398 nothingF st0 := by rw [seqF_s]
  have p : peekF t (seqLF t 398 nothingF st0).2 = -1 := by unfold peekF; rw [h.fault, h.pos, byteAt_end (by omega)]; rfl
  have e2 : readF t = ((seqLF t 398 nothingF st0).1, (seqLF t 398 nothingF st0).2) := by
    unfold readF
    rw [altF_s, e1, altLF_s, p, if_neg (by decide)]
  rw [e2]
  refine ⟨?_, h⟩
  unfold readOk
  rw [e2]
  simp only [h.fault, h.pos]
  simp
  omega

theorem know1 : readOk ⟨#[98, 43]⟩ = true := by kernel_rfl
theorem know2 : findL (endF (readF ⟨#[98, 43]⟩).1 (readF ⟨#[98, 43]⟩).2.tk (readF ⟨#[98, 43]⟩).2.fo ⟨#[97, 98, 98, 99]⟩) 5 0 = (1, 2) := by kernel_rfl
theorem know3 : readOk ⟨#[97, 41]⟩ = false := by kernel_rfl
theorem know4 : (readF ⟨#[97, 41]⟩).2.pos = 1 := by kernel_rfl

set_option maxRecDepth 100000 in
set_option maxHeartbeats 400000 in
theorem knows_any (w : World) (hT : Tab w) : Calls Tryd.prog 7 #[] w fun e w' => e = .returned (.bool true) ∧ Fr [] w w' := by
  have hf := find_ok ⟨#[98, 43]⟩ ⟨#[97, 98, 98, 99]⟩ 0 w (by decide) (by decide) hT know1 (by decide)
  rw [show (ByteArray.mk #[97, 98, 98, 99]).size + 1 - 0 = 5 from rfl, know2] at hf
  have hl := fun (w1 : World) (h : Tab w1) => look_bad ⟨#[97, 41]⟩ w1 (by decide) h know3
  rw [know4] at hl
  have Hl : Hid _ := hl
  clear hl
  go_enter Tryd.func7, Tryd.ntmps7
  go_wp2_with fail
  refine hf.mono ?_
  rintro e w1 ⟨rfl, f1⟩
  clear hf
  have hl := Hl.out w1 (hT.fr f1 (by simp))
  go_wp2_with fail
  refine hl.mono ?_
  rintro e w2 ⟨rfl, f2⟩
  go_wp2
  go_ret
  exact ⟨rfl, f1.trans f2⟩

set_option maxRecDepth 100000 in
set_option maxHeartbeats 400000 in
theorem seeks_long (t lit x : ByteArray) (fr : Int) (w : World) (hx : 100 < x.size) (hm : x.size ≤ maxLen) :
    Calls Tryd.prog 10 #[.string t, .string lit, .string x, .int .i64 fr] w fun e w' => e = .returned (.bool true) ∧ Fr [] w w' := by
  have hf := find_long t x fr w hx hm
  unfold maxLen at hm
  have g1 : (100 : Int) < x.size := by omega
  go_enter Tryd.func10, Tryd.ntmps10
  go_wp2_with fail
  refine hf.mono ?_
  rintro e w1 ⟨rfl, f1⟩
  go_wp2
  go_ret
  exact ⟨rfl, f1⟩

set_option maxRecDepth 100000 in
set_option maxHeartbeats 400000 in
theorem seeks_arg (t lit x : ByteArray) (fr : Int) (w : World) (hx : x.size ≤ 100) (ht : t.size ≤ 50) (hT : Tab w) (hok : readOk t = true) (hfr : fr < 0 ∨ x.size < fr) :
    Calls Tryd.prog 10 #[.string t, .string lit, .string x, .int .i64 fr] w fun e w' => e = .returned (.bool true) ∧ Fr [] w w' := by
  have hf := find_arg t x fr w hx ht hT hok hfr
  have g1 : ¬ ((100 : Int) < x.size) := by omega
  go_enter Tryd.func10, Tryd.ntmps10
  go_wp2_with fail
  refine hf.mono ?_
  rintro e w1 ⟨rfl, f1⟩
  clear hf
  rcases hfr with h1 | h1
  · go_wp2
    go_ret
    exact ⟨rfl, f1⟩
  · have h2 : ¬ (fr < 0) := by omega
    go_wp2
    go_ret
    exact ⟨rfl, f1⟩

set_option maxRecDepth 100000 in
set_option maxHeartbeats 1000000 in
theorem seeks_ok (t lit x : ByteArray) (fr : Nat) (w : World) (hx : x.size ≤ 100) (hl : lit.size ≤ 100) (ht : t.size ≤ 50) (hT : Tab w) (hok : readOk t = true) (hfr : fr ≤ x.size)
    (hE : ∀ k, k ≤ x.size → endF (readF t).1 (readF t).2.tk (readF t).2.fo x k = if mt lit x 0 k then ((k + lit.size : Nat) : Int) else -1) :
    Calls Tryd.prog 10 #[.string t, .string lit, .string x, .int .i64 fr] w fun e w' => e = .returned (.bool true) ∧ Fr [] w w' := by
  have hf := find_ok t x fr w hx ht hT hok hfr
  generalize endF (readF t).1 (readF t).2.tk (readF t).2.fo x = E at *
  obtain ⟨R, hR⟩ : ∃ R, findL E (x.size + 1 - fr) fr = R := ⟨_, rfl⟩
  rw [hR] at hf
  have HR : Hid (_ = R) := hR
  have HE : Hid _ := hE
  clear hE hR
  have g1 : ¬ ((100 : Int) < x.size) := by omega
  have g2 : ¬ ((fr : Int) < 0) := by omega
  have g3 : ¬ ((x.size : Int) < fr) := by omega
  go_enter Tryd.func10, Tryd.ntmps10
  go_wp2_with fail
  refine hf.mono ?_
  rintro e w1 ⟨rfl, f1⟩
  clear hf
  go_wp2
  have d1 : decide ((100 : Int) < (x.size : Int)) = false := decide_eq_false (by omega)
  have d2 : decide ((fr : Int) < 0) = false := decide_eq_false (by omega)
  have d3 : decide ((x.size : Int) < (fr : Int)) = false := decide_eq_false (by omega)
  have d4 : decide (x.size < fr) = false := decide_eq_false (by omega)
  simp only [d1, d2, d3, d4, Bool.or_false]
  clear d1 d2 d3 d4
  go_loop [12] (fun i => ∃ k : Nat, k ≤ x.size + 1 ∧ i = .int .i64 k ∧ Hid (findL E (x.size + 1 - k) k = R)) (fun i => x.size + 1 - (intOf i).toNat)
  case atStart => exact ⟨fr, by omega, rfl, HR⟩
  case round =>
    clear g1 g2 g3 hfr HR
    obtain ⟨k, hk, rfl, hR⟩ := hrel
    by_cases hlt : k ≤ x.size
    · have g4 : (k : Int) ≤ x.size := by omega
      have hst := stands_any lit x k hl hx (by omega) w1
      have hek := HE.out k hlt
      by_cases hm : mt lit x 0 k
      · rw [if_pos hm] at hek
        rw [show mtB lit x 0 k = true from hm] at hst
        have hR' := hR.out
        rw [findL_pos E k _ (by omega) (by omega), hek] at hR'
        have r1 : R.1 = k := by rw [← hR']
        have r2 : R.2 = lit.size := by rw [← hR']; show ((k + lit.size : Nat) : Int) - k = _; omega
        obtain ⟨R1, R2⟩ := R
        simp only at r1 r2
        subst r1 r2
        clear hR' hek hm
        go_wp2_with fail
        refine hst.mono ?_
        rintro e w2 ⟨rfl, rfl⟩
        go_wp2
        go_ret
        exact ⟨rfl, f1⟩
      · rw [if_neg hm] at hek
        rw [Bool.eq_false_iff.2 hm] at hst
        have hR' := hR.out
        rw [findL_neg E k _ (by omega) hek, show x.size + 1 - k - 1 = x.size + 1 - (k + 1) by omega] at hR'
        have HR' : Hid _ := hR'
        clear hR' hek hm
        go_wp2_with fail
        refine hst.mono ?_
        rintro e w2 ⟨rfl, hw2⟩
        rw [hw2]
        clear hw2
        go_wp2
        go_round
        case rel => exact ⟨k + 1, by omega, by go_num, HR'⟩
        case measure => simp [intOf]; omega
    · have g4 : ¬ ((k : Int) ≤ x.size) := by omega
      have hR' := hR.out
      rw [show x.size + 1 - k = 0 by omega, findL] at hR'
      subst hR'
      go_wp2
      go_ret
      exact ⟨rfl, f1⟩

end Go.Proofs.YticaoekmlaipnaaDoor
