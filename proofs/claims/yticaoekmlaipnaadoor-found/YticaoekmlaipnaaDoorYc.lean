/-
  within: of a pattern it is true at every text and from every place.
-/
import Derived.Test.YticaoekmlaipnaaDoorYb
import Derived.Deep.CutRange
set_option linter.unusedSimpArgs false
set_option linter.unusedVariables false
namespace Go.Proofs.YticaoekmlaipnaaDoor
open Go.RowKit

/-- What first answers: these two numbers, and that they are right. -/
def FirstSays (t x : ByteArray) (fr : Int) (i n : Int) : Prop := ∀ W, Tab W →
  Calls Tryd.prog 17 #[.string t, .string x, .int .i64 fr] W fun e w' => e = .returned (.tuple #[.int .i64 i, .int .i64 n, .bool true]) ∧ Fr [] W w'

theorem first_says (t x : ByteArray) (fr : Nat) (hx : x.size ≤ 100) (ht : t.size ≤ 50) (hok : readOk t = true) (hfr : fr ≤ x.size) : FirstSays t x fr (Fd t x fr).1 (Fd t x fr).2 :=
  fun W hT => first_any t x fr W hx ht hT hok hfr

/-- All that within asks. t1, t2, t3, t4: (p)?, (p)*, (p)+, ^(p)$. -/
structure WithinI (p t1 t2 t3 t4 x : ByteArray) (fr : Nat) (i n k y : Int) : Prop where
  bound : (i = -1 ∧ n = 0) ∨ ((fr : Int) ≤ i ∧ 0 ≤ n ∧ i + n ≤ x.size)
  k0 : 0 ≤ k
  kw : i = fr → n ≤ k
  yn : n ≤ y
  yk : i = fr → y = k
  own : FirstSays p x fr i n
  mid : ∀ m : Nat, fr ≤ m → (m : Int) ≤ i → FirstSays p x m i n
  opt : p.size ≤ 47 → FirstSays t1 x fr fr (if i = fr then n else 0)
  star : p.size ≤ 47 → FirstSays t2 x fr fr k
  plus : p.size ≤ 47 → FirstSays t3 x fr i y
  anc : NoAnc p → p.size ≤ 46 → 0 ≤ i → FirstSays t4 (x.extract i.toNat (i + n).toNat) (0 : Nat) 0 n

theorem within_facts' (p t1 t2 t3 t4 x : ByteArray) (fr : Nat) (g63 : Grp p t1 63) (g42 : Grp p t2 42) (g43 : Grp p t3 43) (ga : Anc p t4) (hx : x.size ≤ 100) (hp : p.size ≤ 50) (hok : readOk p = true) (hfr : fr ≤ x.size) :
    ∃ i n k y, WithinI p t1 t2 t3 t4 x fr i n k y := by
  have hr := fd_right (p := p) (x := x) hp hfr
  obtain ⟨i, n, hR⟩ : ∃ i n, Fd p x fr = (i, n) := ⟨_, _, rfl⟩
  have hb : (i = -1 ∧ n = 0) ∨ ((fr : Int) ≤ i ∧ 0 ≤ n ∧ i + n ≤ x.size) := by
    rcases hr with h | h
    · rw [hR] at h; left; simpa using h
    · rw [hR] at h; right; simpa using h
  have hn0 : 0 ≤ n := by rcases hb with ⟨-, h⟩ | ⟨-, h, -⟩ <;> omega
  have own : FirstSays p x fr i n := by
    have := first_says p x fr hx hp hok hfr
    rw [hR] at this; exact this
  have mid : ∀ m : Nat, fr ≤ m → (m : Int) ≤ i → FirstSays p x m i n := by
    intro m h1 h2
    have hm : m ≤ x.size := by omega
    have := first_says p x m hx hp hok hm
    rw [fd_mid hfr h1 (by rw [hR]; exact h2), hR] at this
    exact this
  by_cases hs : p.size ≤ 47
  · have hst := fd_star (x := x) g42 hok hs hfr
    have hpl := fd_plus (x := x) g43 g42 hok hs hfr
    have hop := fd_opt (x := x) g63 hok hs hfr
    rw [hR] at hst hpl hop
    unfold wantN at hst hop
    simp only at hst hpl hop
    have s1 := first_says t1 x fr hx (by rw [g63.size]; omega) (opt_ok g63 hok hs) hfr
    have s2 := first_says t2 x fr hx (by rw [g42.size]; omega) (star_ok g42 hok hs) hfr
    have s3 := first_says t3 x fr hx (by rw [g43.size]; omega) (plus_ok g43 hok hs) hfr
    rw [hop] at s1
    rw [hst.1] at s2
    rw [hpl.1] at s3
    obtain ⟨k, hk⟩ : ∃ k, (Fd t2 x fr).2 = k := ⟨_, rfl⟩
    obtain ⟨y, hy⟩ : ∃ y, (Fd t3 x fr).2 = y := ⟨_, rfl⟩
    rw [hk] at s2 hst hpl
    rw [hy] at s3 hpl
    have hE := hst.2.1
    refine ⟨i, n, k, y, hb, ?_, ?_, hpl.2.1, ?_, own, mid, fun _ => s1, fun _ => s2, fun _ => s3, fun hA h46 hi => ?_⟩
    · split at hE <;> omega
    · intro h; rw [if_pos h] at hE; exact hE
    · intro h; exact hpl.2.2 (by rw [hpl.1]; exact h)
    · obtain ⟨I, rfl⟩ := Int.eq_ofNat_of_zero_le hi
      obtain ⟨N, rfl⟩ := Int.eq_ofNat_of_zero_le hn0
      have hf := fd_anc (x := x) ga hok h46 hA hfr hR
      have e : ((I : Int) + (N : Int)).toNat = I + N := by omega
      rw [e, Int.toNat_natCast]
      have := first_says t4 (x.extract I (I + N)) 0 (by rw [hf.2]; omega) (by rw [ga.size]; omega) (anc_ok ga hok h46) (Nat.zero_le _)
      rw [hf.1] at this; exact this
  · exact ⟨i, n, n, n, hb, hn0, fun _ => Int.le_refl _, Int.le_refl _, fun _ => rfl, own, mid, fun h => absurd h hs, fun h => absurd h hs, fun h => absurd h hs, fun _ h => by omega⟩

theorem within_facts (p x : ByteArray) (fr : Nat) (hx : x.size ≤ 100) (hp : p.size ≤ 50) (hok : readOk p = true) (hfr : fr ≤ x.size) :
    ∃ i n k y, WithinI p (⟨#[40]⟩ ++ p ++ ⟨#[41, 63]⟩) (⟨#[40]⟩ ++ p ++ ⟨#[41, 42]⟩) (⟨#[40]⟩ ++ p ++ ⟨#[41, 43]⟩) (⟨#[94, 40]⟩ ++ p ++ ⟨#[41, 36]⟩) x fr i n k y :=
  within_facts' p _ _ _ _ x fr (grp_text p 63) (grp_text p 42) (grp_text p 43) (anc_text p) hx hp hok hfr

set_option maxRecDepth 100000 in
set_option maxHeartbeats 4000000 in
theorem within_any (p x : ByteArray) (fr : Nat) (w : World) (hx : x.size ≤ 100) (hp : p.size ≤ 50) (hT : Tab w) (hok : readOk p = true) (hfr : fr ≤ x.size) :
    Calls Tryd.prog 16 #[.string p, .string x, .int .i64 fr] w fun e w' => e = .returned (.bool true) ∧ Fr [] w w' := by
  obtain ⟨i, n, k, y, hI⟩ := within_facts p x fr hx hp hok hfr
  have hN := fun W => anchored_any p W hp
  have HI : Hid _ := hI
  have HN : Hid _ := hN
  have H0 := hI.own w hT
  have hb := hI.bound
  have hk0 := hI.k0
  have hkw := hI.kw
  have hyn := hI.yn
  have hyk := hI.yk
  clear hI hN hok
  have Hkw : Hid _ := hkw
  have Hyk : Hid _ := hyk
  have Hb : Hid _ := hb
  clear hkw hyk hb
  go_enter Tryd.func16, Tryd.ntmps16
  go_wp2_with fail
  refine H0.mono ?_
  rintro e w1 ⟨rfl, f1⟩
  have T1 := hT.fr f1 (by simp)
  clear H0
  go_upto_if 36 with fail
  go_cut [] from 24 (fun wx => Fr [] w wx)
  case first =>
    by_cases hi : (fr : Int) < i
    · obtain ⟨I, rfl⟩ : ∃ I : Nat, i = I := ⟨i.toNat, by omega⟩
      have hbb : (I : Int) + n ≤ x.size ∧ 0 ≤ n := by rcases Hb.out with ⟨h, -⟩ | ⟨-, h1, h2⟩ <;> omega
      have Hm := HI.out.mid (fr + (I - fr + 1) / 2) (by omega) (by omega) w1 T1
      have em : ((fr + (I - fr + 1) / 2 : Nat) : Int) = (fr : Int) + ((I : Int) - fr + 1) / 2 := by omega
      rw [em] at Hm
      clear em
      go_wp2_with fail
      refine Hm.mono ?_
      rintro e w2 ⟨rfl, f2⟩
      clear Hm
      go_wp2_with fail
      go_meet
      exact f1.trans f2
    · go_wp2_with fail
      go_meet
      exact f1
  case rest =>
    have f2 : Fr [] w wc := hcut
    have T2 := hT.fr f2 (by simp)
    clear hcut f1 T1
    go_upto_if 67 with fail
    go_cut [] from 24 (fun wx => Fr [] w wx)
    case first =>
      by_cases hs : p.size ≤ 47
      · have g1 : (p.size : Int) + 3 ≤ 50 := by omega
        have S1 := HI.out.opt hs wc T2
        have S2 : Hid _ := HI.out.star hs
        have S3 : Hid _ := HI.out.plus hs
        have z1 : (ByteArray.mk #[40]).size = 1 := rfl
        have z2 : ∀ c, (ByteArray.mk #[41, c]).size = 2 := fun _ => rfl
        by_cases hi : i = fr
        · rw [if_pos hi] at S1
          have hk := Hkw.out hi
          have hy := Hyk.out hi
          subst hi
          subst hy
          go_wp2_with fail
          refine S1.mono ?_
          rintro e w3 ⟨rfl, f3⟩
          have T3 := T2.fr f3 (by simp)
          clear S1
          have S2' := S2.out w3 T3
          go_wp2_with fail
          refine S2'.mono ?_
          rintro e w4 ⟨rfl, f4⟩
          have T4 := T3.fr f4 (by simp)
          clear S2' S2
          have S3' := S3.out w4 T4
          have k1 : ¬ (y < n) := by omega
          go_wp2_with fail
          refine S3'.mono ?_
          rintro e w5 ⟨rfl, f5⟩
          clear S3' S3
          go_wp2_with fail
          go_meet
          exact ((f2.trans f3).trans f4).trans f5
        · rw [if_neg hi] at S1
          go_wp2_with fail
          refine S1.mono ?_
          rintro e w3 ⟨rfl, f3⟩
          have T3 := T2.fr f3 (by simp)
          clear S1
          have S2' := S2.out w3 T3
          go_wp2_with fail
          refine S2'.mono ?_
          rintro e w4 ⟨rfl, f4⟩
          have T4 := T3.fr f4 (by simp)
          clear S2' S2
          have S3' := S3.out w4 T4
          have k1 : ¬ (y < n) := by omega
          have k2 : ¬ (k < 0) := by omega
          go_wp2_with fail
          refine S3'.mono ?_
          rintro e w5 ⟨rfl, f5⟩
          clear S3' S3
          go_wp2_with fail
          go_meet
          exact ((f2.trans f3).trans f4).trans f5
      · have g1 : ¬ ((p.size : Int) + 3 ≤ 50) := by omega
        go_wp2_with fail
        go_meet
        exact f2
    case rest =>
      have f3 : Fr [] w wc := hcut
      have T3 := hT.fr f3 (by simp)
      clear hcut f2 T2
      go_wp2_with fail
      refine (HN.out wc).mono ?_
      rintro e w4 ⟨b, rfl, rfl, hA⟩
      by_cases hi : 0 ≤ i
      · cases b with
        | true =>
          go_wp2
          go_ret
          exact ⟨rfl, f3⟩
        | false =>
          by_cases hs : p.size ≤ 46
          · have g1 : (p.size : Int) + 4 ≤ 50 := by omega
            have S := HI.out.anc (hA rfl) hs hi _ T3
            obtain ⟨I, rfl⟩ : ∃ I : Nat, i = I := ⟨i.toNat, by omega⟩
            have hbb : (I : Int) + n ≤ x.size ∧ 0 ≤ n := by rcases Hb.out with ⟨h, -⟩ | ⟨-, h1, h2⟩ <;> omega
            obtain ⟨hb1, hb2⟩ := hbb
            rw [Int.toNat_natCast] at S
            go_wp2_with fail
            refine S.mono ?_
            rintro e w5 ⟨rfl, f5⟩
            clear S
            go_wp2
            go_ret
            exact ⟨rfl, f3.trans f5⟩
          · have g1 : ¬ ((p.size : Int) + 4 ≤ 50) := by omega
            go_wp2
            go_ret
            exact ⟨rfl, f3⟩
      · go_wp2
        go_ret
        exact ⟨rfl, f3⟩

end Go.Proofs.YticaoekmlaipnaaDoor
