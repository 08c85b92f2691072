/-
  Found: the statement's function.
-/
import Derived.Test.YticaoekmlaipnaaDoorYc
set_option linter.unusedSimpArgs false
set_option linter.unusedVariables false
namespace Go.Proofs.YticaoekmlaipnaaDoor
open Go.RowKit

/-- What Look answers: a place and an error, none just where the text is a pattern. -/
theorem look_says (t : ByteArray) (hm : t.size ≤ maxLen) : ∃ a c : Int, (c = 0 ↔ (t.size ≤ 50 ∧ readOk t = true)) ∧ ∀ W, Tab W → Calls Tryd.prog 9 #[.string t] W fun e w' => e = .returned (.tuple #[.int .i64 a, .int .i64 c]) ∧ Fr [] W w' := by
  by_cases h : t.size ≤ 50
  · cases hok : readOk t with
    | true => exact ⟨0, 0, ⟨fun _ => ⟨h, rfl⟩, fun _ => rfl⟩, fun W hT => look_ok t W h hT hok⟩
    | false => exact ⟨_, 2, ⟨fun h => by omega, fun h => by cases h.2⟩, fun W hT => look_bad t W h hT hok⟩
  · exact ⟨0, 1, ⟨fun h => by omega, fun h' => absurd h'.1 h⟩, fun W hT => (look_long t W (by omega) hm).mono fun e w' ⟨h1, h2⟩ => ⟨h1, by rw [h2]; exact Fr.refl [] W⟩⟩

/-- All that Found asks of two patterns. -/
structure FoundI (p q t t' x : ByteArray) (fr : Nat) (i n j k : Int) : Prop where
  p : FirstSays p x fr i n
  q : FirstSays q x fr j k
  or1 : FirstSays t x fr (leftF (i, n) (j, k)).1 (leftF (i, n) (j, k)).2
  or2 : FirstSays t' x fr (leftF (i, n) (j, k)).1 (leftF (i, n) (j, k)).2

theorem found_facts' (p q t t' x : ByteArray) (fr : Nat) (o1 : Or2 p q t) (o2 : Or2 q p t') (hx : x.size ≤ 100) (hp : p.size + q.size ≤ 45) (hok : readOk p = true) (hok2 : readOk q = true) (hfr : fr ≤ x.size) : ∃ i n j k, FoundI p q t t' x fr i n j k := by
  have s1 := first_says t x fr hx (by rw [o1.size]; omega) (or_ok o1 hok hok2 hp) hfr
  have s2 := first_says t' x fr hx (by rw [o2.size]; omega) (or_ok o2 hok2 hok (by omega)) hfr
  rw [fd_or o1 hok hok2 hp hfr] at s1
  rw [fd_or_comm o1 o2 hok hok2 hp hfr, fd_or o1 hok hok2 hp hfr] at s2
  exact ⟨(Fd p x fr).1, (Fd p x fr).2, (Fd q x fr).1, (Fd q x fr).2, first_says p x fr hx (by omega) hok hfr, first_says q x fr hx (by omega) hok2 hfr, s1, s2⟩

theorem found_facts (p q x : ByteArray) (fr : Nat) (hx : x.size ≤ 100) (hp : p.size + q.size ≤ 45) (hok : readOk p = true) (hok2 : readOk q = true) (hfr : fr ≤ x.size) :
    ∃ i n j k, FoundI p q (⟨#[40]⟩ ++ p ++ ⟨#[41, 124, 40]⟩ ++ q ++ ⟨#[41]⟩) (⟨#[40]⟩ ++ q ++ ⟨#[41, 124, 40]⟩ ++ p ++ ⟨#[41]⟩) x fr i n j k :=
  found_facts' p q _ _ x fr (or_text p q) (or_text q p) hx hp hok hok2 hfr

set_option maxRecDepth 100000 in
set_option maxHeartbeats 4000000 in
theorem found_any (p q x : ByteArray) (fr : Int) (w : World) (hT : Tab w) (h1 : p.size ≤ 140737488355328) (h2 : q.size ≤ 140737488355328) (h3 : x.size ≤ 140737488355328) :
    Calls Tryd.prog 4 #[.string p, .string q, .string x, .int .i64 fr] w fun e w' => e = .returned (.bool true) ∧ Fr [] w w' := by
  have hk := knows_any w hT
  obtain ⟨ap, cp, hcp, hlp⟩ := look_says p (by unfold maxLen; omega)
  obtain ⟨aq, cq, hcq, hlq⟩ := look_says q (by unfold maxLen; omega)
  obtain ⟨X, hX⟩ : ∃ X, (if 100 < x.size then x.extract 0 100 else x) = X := ⟨_, rfl⟩
  have hX100 : X.size ≤ 100 := by
    rw [← hX]
    split
    · rw [ByteArray.size_extract]; omega
    · omega
  obtain ⟨F, hF⟩ : ∃ F : Nat, (if fr < 0 then 0 else if (X.size : Int) < fr then (X.size : Int) else fr) = F := by
    split
    · exact ⟨0, rfl⟩
    · split
      · exact ⟨X.size, rfl⟩
      · exact ⟨fr.toNat, by omega⟩
  have hFX : F ≤ X.size := by split at hF <;> (try split at hF) <;> omega
  have Hlp : Hid _ := hlp
  have Hlq : Hid _ := hlq
  have Hcp : Hid _ := hcp
  have Hcq : Hid _ := hcq
  have HX : Hid _ := hX
  have HF : Hid _ := hF
  clear hlp hlq hcp hcq hX hF
  go_enter Tryd.func4, Tryd.ntmps4
  go_wp2_with fail
  refine hk.mono ?_
  rintro e w1 ⟨rfl, f1⟩
  have T1 := hT.fr f1 (by simp)
  clear hk
  go_upto_if 33 with fail
  go_cut [2] from 28 (fun s2 wx => s2 = .string X ∧ wx = w1)
  case first =>
    have hX := HX.out
    by_cases hl : 100 < x.size
    · have g1 : (100 : Int) < x.size := by omega
      rw [if_pos hl] at hX
      go_wp2_with fail
      go_meet
      exact ⟨by rw [← hX], rfl⟩
    · have g1 : ¬ ((100 : Int) < x.size) := by omega
      rw [if_neg hl] at hX
      go_wp2_with fail
      go_meet
      exact ⟨by rw [← hX], rfl⟩
  case rest =>
    obtain ⟨rfl, rfl⟩ := hcut
    go_upto_if 37 with fail
    go_cut [3] from 28 (fun s3 wx => s3 = .int .i64 (if fr < 0 then 0 else fr) ∧ wx = wc)
    case first =>
      by_cases hl : fr < 0
      · go_wp2_with fail
        go_meet
        exact ⟨by rw [if_pos hl], rfl⟩
      · go_wp2_with fail
        go_meet
        exact ⟨by rw [if_neg (by omega)], rfl⟩
    case rest =>
      obtain ⟨rfl, rfl⟩ := hcut
      obtain ⟨G, hG⟩ : ∃ G, (if fr < 0 then 0 else fr) = G := ⟨_, rfl⟩
      have hF : (if (X.size : Int) < G then (X.size : Int) else G) = F := by
        rw [← HF.out, ← hG]
        by_cases hl : fr < 0
        · rw [if_pos hl, if_pos hl, if_neg (by omega)]
        · rw [if_neg hl, if_neg hl]
      rw [hG]
      have HF2 : Hid _ := hF
      clear hG hF HF HX
      go_upto_if 41 with fail
      go_cut [3] from 28 (fun s3 wx => s3 = .int .i64 F ∧ wx = wc)
      case first =>
        have hF := HF2.out
        by_cases hl : (X.size : Int) < G
        · rw [if_pos hl] at hF
          go_wp2_with fail
          go_meet
          exact ⟨by rw [← hF], rfl⟩
        · rw [if_neg hl] at hF
          go_wp2_with fail
          go_meet
          exact ⟨by rw [← hF], rfl⟩
      case rest =>
        obtain ⟨rfl, rfl⟩ := hcut
        clear HF2
        go_wp2_with fail
        refine (Hlp.out _ T1).mono ?_
        rintro e w2 ⟨rfl, f2⟩
        have T2 := T1.fr f2 (by simp)
        go_wp2_with fail
        refine (Hlq.out _ T2).mono ?_
        rintro e w3 ⟨rfl, f3⟩
        have T3 := T2.fr f3 (by simp)
        clear Hlp Hlq
        have ff := (f1.trans f2).trans f3
        clear f1 f2 f3
        by_cases c1 : cp = 0
        · have okp := Hcp.out.1 c1
          have hwi := within_any p X F w3 hX100 okp.1 T3 okp.2 hFX
          subst c1
          clear Hcp
          go_wp2_with fail
          refine hwi.mono ?_
          rintro e w4 ⟨rfl, f4⟩
          have T4 := T3.fr f4 (by simp)
          clear hwi
          by_cases c2 : cq = 0
          · have okq := Hcq.out.1 c2
            subst c2
            clear Hcq
            obtain ⟨p50, okp'⟩ := okp
            obtain ⟨q50, okq'⟩ := okq
            by_cases c3 : p.size + q.size + 5 ≤ 50
            · obtain ⟨i, n, j, k, hI⟩ := found_facts p q X F hX100 (by omega) okp' okq' hFX
              have g1 : ¬ ((50 : Int) < (p.size : Int) + q.size + 5) := by omega
              have hle := leftmost_any i n j k
              have S1 := hI.p _ T4
              have S2 : Hid _ := hI.q
              have S3 : Hid _ := hI.or1
              have S4 : Hid _ := hI.or2
              clear hI okp' okq'
              generalize leftF (i, n) (j, k) = L at *
              have Hle : Hid _ := hle
              clear hle
              go_wp2_with fail
              refine S1.mono ?_
              rintro e w5 ⟨rfl, f5⟩
              have T5 := T4.fr f5 (by simp)
              clear S1
              go_wp2_with fail
              refine (S2.out _ T5).mono ?_
              rintro e w6 ⟨rfl, f6⟩
              have T6 := T5.fr f6 (by simp)
              clear S2
              go_wp2_with fail
              refine (S3.out _ T6).mono ?_
              rintro e w7 ⟨rfl, f7⟩
              have T7 := T6.fr f7 (by simp)
              clear S3
              go_wp2_with fail
              refine (S4.out _ T7).mono ?_
              rintro e w8 ⟨rfl, f8⟩
              clear S4
              go_wp2_with fail
              refine (Hle.out _).mono ?_
              rintro e w9 ⟨rfl, rfl⟩
              go_wp2
              go_ret
              exact ⟨rfl, ((((ff.trans f4).trans f5).trans f6).trans f7).trans f8⟩
            · have g1 : (50 : Int) < (p.size : Int) + q.size + 5 := by omega
              go_wp2
              go_ret
              exact ⟨rfl, ff.trans f4⟩
          · go_wp2
            go_ret
            exact ⟨rfl, ff.trans f4⟩
        · go_wp2
          go_ret
          exact ⟨rfl, ff⟩

end Go.Proofs.YticaoekmlaipnaaDoor
