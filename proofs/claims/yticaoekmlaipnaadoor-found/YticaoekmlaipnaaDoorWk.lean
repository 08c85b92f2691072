/-
  The reader's small functions: need, plain, closes, bound.
-/
import Derived.Test.YticaoekmlaipnaaDoorWj
set_option linter.unusedSimpArgs false
set_option linter.unusedVariables false
namespace Go.Proofs.YticaoekmlaipnaaDoor
open Go.RowKit

variable {w : World} {r pb : Nat} {t : ByteArray} {wh : Nat → Value} {s : St}

theorem failM_any (h : M w r pb t wh s) : Calls Tryd.prog 105 #[.pointer (some ⟨r, 0, none⟩)] w fun e w' => e = .returned (.tuple #[]) ∧ M w' r pb t wh (failF s) ∧ Fr [r] w w' := by
  refine (fail_any r t s.pos s.fault s.atoms pb w h.rd).mono ?_
  rintro e w' ⟨rfl, rfl⟩
  exact ⟨rfl, h.fail, (Fr.refl [r] w).setCell (p := ⟨r, 2, none⟩) (.inl (by simp)) _⟩

set_option maxHeartbeats 400000 in
theorem need_any (b : Int) (h : M w r pb t wh s) (hs : t.size ≤ 50) (hp : s.pos ≤ 1000) : Calls Tryd.prog 100 #[.pointer (some ⟨r, 0, none⟩), .int .i64 b] w fun e w' =>
    e = .returned (.tuple #[]) ∧ M w' r pb t wh (needF t s b) ∧ Fr [r] w w' := by
  have hk := skip_any b h hs hp
  unfold needF
  unfold skipF at hk
  by_cases hb : peekF t s = b
  · rw [if_pos hb] at hk ⊢
    go_enter Tryd.func100, Tryd.ntmps100
    go_wp2_with fail
    refine hk.mono ?_
    rintro e w1 ⟨rfl, h1, f1⟩
    go_wp2
    go_end0
    exact ⟨rfl, h1, f1⟩
  · rw [if_neg hb] at hk ⊢
    go_enter Tryd.func100, Tryd.ntmps100
    go_wp2_with fail
    refine hk.mono ?_
    rintro e w1 ⟨rfl, h1, f1⟩
    go_wp2_with fail
    refine (failM_any h1).mono ?_
    rintro e w2 ⟨rfl, h2, f2⟩
    go_wp2
    go_end0
    exact ⟨rfl, h2, f1.trans f2⟩

theorem skip_pos (b : Int) : s.pos ≤ (skipF t s b).2.pos ∧ (skipF t s b).2.pos ≤ s.pos + 1 := by
  unfold skipF; split <;> simp [advF]

set_option maxHeartbeats 400000 in
theorem plain_any (h : M w r pb t wh s) (hs : t.size ≤ 50) (hp : s.pos ≤ 900) : Calls Tryd.prog 104 #[.pointer (some ⟨r, 0, none⟩)] w fun e w' =>
    e = .returned (.int .i64 (plainF t s).1) ∧ M w' r pb t wh (plainF t s).2 ∧ Fr [r] w w' := by
  have hsp := skip_pos (t := t) (s := s) 92
  have hk := skip_any 92 h hs (by omega)
  unfold plainF
  generalize (skipF t s 92).1 = b1 at *
  generalize (skipF t s 92).2 = s1 at *
  by_cases hb : peekF t s1 = -1
  · have he : (peekF t s1 == -1) = true := by simp [hb]
    rw [if_pos hb]
    clear hb
    go_enter Tryd.func104, Tryd.ntmps104
    go_wp2_with fail
    refine hk.mono ?_
    rintro e w1 ⟨rfl, h1, f1⟩
    go_wp2_with fail
    refine (peek_any h1 hs).mono ?_
    rintro e w2 ⟨rfl, n, rfl⟩
    go_wp2_with fail
    refine (failM_any (h1.heap (w' := w1.drewN n) rfl)).mono ?_
    rintro e w2 ⟨rfl, h2, f2⟩
    go_wp2
    go_ret
    exact ⟨rfl, h2, f1.trans ((f1.drewN n).trans f2 |> fun _ => (((Fr.refl [r] w1).drewN n).trans f2))⟩
  · have he : (peekF t s1 == -1) = false := by simpa using hb
    rw [if_neg hb]
    clear hb
    go_enter Tryd.func104, Tryd.ntmps104
    go_wp2_with fail
    refine hk.mono ?_
    rintro e w1 ⟨rfl, h1, f1⟩
    have c1 := h1.rd.c1
    have z1 := h1.rd.f1
    go_wp2_with fail
    refine (peek_any h1 hs).mono ?_
    rintro e w2 ⟨rfl, n, rfl⟩
    go_wp2
    go_ret
    exact ⟨rfl, h1.adv.heap rfl, (f1.setCell (p := ⟨r, 1, none⟩) (.inl (by simp)) _).drewN n⟩

set_option maxHeartbeats 400000 in
theorem closes_any (k : Nat) (h : M w r pb t wh s) (hs : t.size ≤ 50) (hk : k ≤ 1000) : Calls Tryd.prog 109 #[.pointer (some ⟨r, 0, none⟩), .int .i64 k] w fun e w' =>
    e = .returned (.bool (closesF t k)) ∧ w' = w := by
  have c0 := h.rd.c0
  unfold closesF byteAt
  by_cases hlt : k < t.size
  · have hd : decide ((k : Int) < (t.size : Int)) = true := by simp; omega
    have hl : (k : Int) < t.size := by omega
    rw [dif_pos hlt]
    go_enter Tryd.func109, Tryd.ntmps109
    go_wp2
    go_ret
    refine ⟨congrArg (fun x => Ending.returned (Value.bool x)) ?_, rfl⟩
    rw [Bool.eq_iff_iff]; simp
  · have hd : decide ((k : Int) < (t.size : Int)) = false := by simp; omega
    rw [dif_neg hlt]
    go_enter Tryd.func109, Tryd.ntmps109
    go_wp2
    go_ret
    exact ⟨rfl, rfl⟩

set_option maxHeartbeats 400000 in
theorem bound_any (least : Int) (h : M w r pb t wh s) (hs : t.size ≤ 50) (hp : s.pos ≤ 900) : Calls Tryd.prog 108 #[.pointer (some ⟨r, 0, none⟩), .int .i64 least] w fun e w' =>
    e = .returned (.int .i64 (boundF t s least).1) ∧ M w' r pb t wh (boundF t s least).2 ∧ Fr [r] w w' := by
  unfold boundF
  by_cases h93 : peekF t s = 93
  · have he : (peekF t s == 93) = true := by simp [h93]
    have hpk := peek_any h hs
    rw [if_pos h93]
    clear h93
    go_enter Tryd.func108, Tryd.ntmps108
    go_wp2_with fail
    refine hpk.mono ?_
    rintro e w1 ⟨rfl, n, rfl⟩
    go_wp2_with fail
    refine (failM_any (h.heap (w' := w.drewN n) rfl)).mono ?_
    rintro e w2 ⟨rfl, h2, f2⟩
    go_wp2
    go_ret
    exact ⟨rfl, h2, ((Fr.refl [r] w).drewN n).trans f2⟩
  · have he0 : (peekF t s == 93) = false := by simpa using h93
    have hpk := peek_any h hs
    rw [if_neg h93]
    clear h93
    have hsp := skip_pos (t := t) (s := s) 92
    have hk := fun (W : World) (hW : M W r pb t wh s) => skip_any 92 hW hs (by omega)
    generalize (skipF t s 92).1 = b1 at *
    generalize (skipF t s 92).2 = s1 at *
    have Hk := (show Hid _ from hk)
    clear hk
    by_cases hb : peekF t s1 < least
    · rw [if_pos hb]
      go_enter Tryd.func108, Tryd.ntmps108
      go_wp2_with fail
      refine hpk.mono ?_
      rintro e w1 ⟨rfl, n, rfl⟩
      go_wp2_with fail
      refine (Hk.out _ (h.heap (w' := w.drewN n) rfl)).mono ?_
      rintro e w1 ⟨rfl, h1, f1⟩
      go_wp2_with fail
      refine (peek_any h1 hs).mono ?_
      rintro e w2 ⟨rfl, m, rfl⟩
      go_wp2_with fail
      refine (failM_any (h1.heap (w' := w1.drewN m) rfl)).mono ?_
      rintro e w2 ⟨rfl, h2, f2⟩
      go_wp2
      go_ret
      exact ⟨rfl, h2, ((((Fr.refl [r] w).drewN n).trans f1).drewN m).trans f2⟩
    · rw [if_neg hb]
      go_enter Tryd.func108, Tryd.ntmps108
      go_wp2_with fail
      refine hpk.mono ?_
      rintro e w1 ⟨rfl, n, rfl⟩
      go_wp2_with fail
      refine (Hk.out _ (h.heap (w' := w.drewN n) rfl)).mono ?_
      rintro e w1 ⟨rfl, h1, f1⟩
      have c1 := h1.rd.c1
      have z1 := h1.rd.f1
      go_wp2_with fail
      refine (peek_any h1 hs).mono ?_
      rintro e w2 ⟨rfl, m, rfl⟩
      go_wp2
      go_ret
      exact ⟨rfl, h1.adv.heap rfl, ((((Fr.refl [r] w).drewN n).trans f1).setCell (p := ⟨r, 1, none⟩) (.inl (by simp)) _).drewN m⟩

end Go.Proofs.YticaoekmlaipnaaDoor
