/-
  What the program reads of a pattern matches what the document says: the parts. What the program reads of a pattern matches what the document says.
-/
import Derived.Test.YtakbfoegkjaphaaGreatDoorM21
set_option linter.unusedSimpArgs false
set_option linter.unusedVariables false
namespace Go.Proofs.YtakbfoegkjaphaaGreatDoor

section
variable {t : ByteArray} {s : St}

theorem class_val (n : Nat) (hs : s.fault = false) (hr : (classF t n s).2.fault = false) : ∃ (S : St) (P : Nat → Bool) (hi : Nat), classF t n s = takeOfF S P ∧ S.pos = hi + 1 ∧ S.atoms = s.atoms ∧ S.tk = s.tk ∧ S.fo = s.fo ∧
    s.pos ≤ hi ∧ hi < t.size ∧ byteN t hi = 93 ∧ (∃ k, units t k s.pos hi) ∧ ∀ c, P c = listedF t s.pos hi c := by
  have e0 : classF t n s = takeOfF (needF t (classLF t n (itemF t (skipF t s 94).2 (fun _ => false)).1 (itemF t (skipF t s 94).2 (fun _ => false)).2).2 93) (fun b => (classLF t n (itemF t (skipF t s 94).2 (fun _ => false)).1 (itemF t (skipF t s 94).2 (fun _ => false)).2).1 b == !(skipF t s 94).1) := rfl
  have n1 := skip_near (t := t) s 94 (by decide)
  have n2 := item_near (t := t) (skipF t s 94).2 (fun _ => false)
  have n3 := classL_near (t := t) n (itemF t (skipF t s 94).2 (fun _ => false)).1 (itemF t (skipF t s 94).2 (fun _ => false)).2
  have n5 := (n1.trans n2).trans n3
  rw [e0] at hr ⊢
  have hr' : (needF t (classLF t n (itemF t (skipF t s 94).2 (fun _ => false)).1 (itemF t (skipF t s 94).2 (fun _ => false)).2).2 93).fault = false := hr
  have hCf : (classLF t n (itemF t (skipF t s 94).2 (fun _ => false)).1 (itemF t (skipF t s 94).2 (fun _ => false)).2).2.fault = false := by
    cases hf : (classLF t n (itemF t (skipF t s 94).2 (fun _ => false)).1 (itemF t (skipF t s 94).2 (fun _ => false)).2).2.fault with
    | false => rfl
    | true => rw [need_fault (by decide) hf] at hr'; cases hr'
  have hpk : peekF t (classLF t n (itemF t (skipF t s 94).2 (fun _ => false)).1 (itemF t (skipF t s 94).2 (fun _ => false)).2).2 = 93 := by
    unfold needF at hr'
    by_cases c : peekF t (classLF t n (itemF t (skipF t s 94).2 (fun _ => false)).1 (itemF t (skipF t s 94).2 (fun _ => false)).2).2 = 93
    · exact c
    · rw [if_neg c] at hr'; cases hr'
  have hneed : needF t (classLF t n (itemF t (skipF t s 94).2 (fun _ => false)).1 (itemF t (skipF t s 94).2 (fun _ => false)).2).2 93 = advF (classLF t n (itemF t (skipF t s 94).2 (fun _ => false)).1 (itemF t (skipF t s 94).2 (fun _ => false)).2).2 := by
    unfold needF; rw [if_pos hpk]
  have hif : (itemF t (skipF t s 94).2 (fun _ => false)).2.fault = false := by
    cases hf : (itemF t (skipF t s 94).2 (fun _ => false)).2.fault with
    | false => rfl
    | true => rw [classL_fault n _ _ hf] at hCf; cases hCf
  obtain ⟨a1, a2, a3, -⟩ := item_val (fun _ => false) hif
  have hcons : classLF t (n + 1) (fun _ => false) (skipF t s 94).2 = classLF t n (itemF t (skipF t s 94).2 (fun _ => false)).1 (itemF t (skipF t s 94).2 (fun _ => false)).2 := by
    rw [classLF, if_neg]
    rintro (h | h)
    · rw [a1] at h; cases h
    · exact a3 (peekQ_byte (c := 93) (by rw [h]; rfl)).2.2
  have hv := classL_val (t := t) (n + 1) (fun _ => false) (skipF t s 94).2 (by rw [hcons]; exact hCf) (by rw [hcons]; exact hpk)
  rw [hcons] at hv
  obtain ⟨v1, ⟨k, v2⟩, v3⟩ := hv
  have h93 := peekQ_byte (c := 93) (t := t) (by rw [hpk]; rfl)
  rw [hneed]
  generalize classLF t n (itemF t (skipF t s 94).2 (fun _ => false)).1 (itemF t (skipF t s 94).2 (fun _ => false)).2 = C at *
  refine ⟨advF C.2, _, C.2.pos, rfl, rfl, n5.atoms, n5.tk, n5.fo, n5.le, h93.2.1, h93.2.2, ?_, ?_⟩
  · by_cases c : peekF t s = 94
    · have hk : skipF t s 94 = (true, advF s) := by unfold skipF; rw [if_pos c]
      rw [hk] at v1 v2
      have hb := peekQ_byte (c := 94) (t := t) (s := s) (by rw [c]; rfl)
      have hp1 : (advF s).pos = s.pos + 1 := rfl
      refine ⟨k + 1, unit_one (by simp only [hp1] at v1; omega) (by omega) ?_⟩
      unfold escI
      rw [if_neg (by omega)]
      exact v2
    · have hk : skipF t s 94 = (false, s) := by unfold skipF; rw [if_neg c]
      rw [hk] at v2
      exact ⟨k, v2⟩
  · intro c
    unfold listedF
    by_cases c1 : peekF t s = 94
    · have hk : skipF t s 94 = (true, advF s) := by unfold skipF; rw [if_pos c1]
      rw [hk] at v1 v3 ⊢
      have hb := peekQ_byte (c := 94) (t := t) (s := s) (by rw [c1]; rfl)
      have hp1 : (advF s).pos = s.pos + 1 := rfl
      simp only [hp1] at v1 v3
      rw [if_pos ⟨by omega, hb.2.2⟩, ← v3 c (C.2.pos - s.pos) (by omega)]
      cases C.1 c <;> rfl
    · have hk : skipF t s 94 = (false, s) := by unfold skipF; rw [if_neg c1]
      rw [hk] at v1 v3 a2 ⊢
      simp only at v1 v3 a2
      have hno : ¬ (s.pos < C.2.pos ∧ byteN t s.pos = 94) := fun h => c1 ((peek_is (c := 94) hs).2 ⟨a2, h.2⟩)
      rw [if_neg hno, ← v3 c (C.2.pos - s.pos) (by omega)]
      cases C.1 c <;> rfl

theorem plain_val (hr : (plainF t s).2.fault = false) : s.fault = false ∧ s.pos < t.size ∧ (plainF t s).1 = (byteN t (escI t s.pos) : Int) ∧ (plainF t s).2 = { s with pos := escI t s.pos + 1 } ∧ escI t s.pos < t.size := by
  have hf : s.fault = false := by
    cases hf : s.fault with
    | false => rfl
    | true => rw [plain_fault hf] at hr; cases hr
  unfold escI
  unfold plainF at hr ⊢
  rcases peek_cases t s with e | ⟨c, hc, e⟩
  · have hs : skipF t s 92 = (false, s) := by unfold skipF; rw [if_neg (by rw [e]; decide)]
    rw [hs] at hr
    simp only at hr
    rw [if_pos e] at hr
    cases hr
  · obtain ⟨_, h2, h3⟩ := peekQ_byte e
    by_cases c92 : c = 92
    · have hs : skipF t s 92 = (true, advF s) := by unfold skipF; rw [if_pos (by rw [e]; omega)]
      rw [hs] at hr ⊢
      simp only at hr ⊢
      have h92 : byteN t s.pos = 92 := by omega
      rw [if_pos h92]
      by_cases e1 : peekF t (advF s) = -1
      · rw [if_pos e1] at hr; cases hr
      · rw [if_neg e1]
        rcases peek_cases t (advF s) with e2 | ⟨d, hd, e2⟩
        · exact absurd e2 e1
        · obtain ⟨_, g2, g3⟩ := peekQ_byte e2
          refine ⟨hf, h2, ?_, rfl, g2⟩
          show peekF t (advF s) = _
          rw [e2, ← g3]; rfl
    · have hs : skipF t s 92 = (false, s) := by unfold skipF; rw [if_neg (by rw [e]; omega)]
      rw [hs] at hr ⊢
      simp only at hr ⊢
      have h92 : ¬ byteN t s.pos = 92 := by omega
      rw [if_neg h92, if_neg (by rw [e]; omega), e]
      exact ⟨hf, h2, by show (c : Int) = _; rw [h3], rfl, h2⟩

end

/-- The relation of a piece. -/
def MatR (q : Piece) (tk : Nat → Nat) (fo : Nat → Nat → Nat) (x : ByteArray) : RelN := fun i j => i ≤ x.size ∧ mat q tk fo x (x.size - i) j

section
variable {A B C : Nat} {q q1 q2 : Piece} {tk tk' : Nat → Nat} {fo fo' : Nat → Nat → Nat} {x : ByteArray}

theorem matR_bd : BdN x.size (MatR q tk fo x) := fun i j h => by
  have := mat_bounds (Nat.sub_le x.size i) h.2
  have := h.1
  omega
theorem matR_le : ∀ i j, MatR q tk fo x i j → i ≤ x.size := fun _ _ h => h.1
theorem matR_congr (h : Cl A B q fo) (ht : ∀ c a, a < B → (tk' c).testBit a = (tk c).testBit a) (hf : ∀ s a, a < B → fo' s a = fo s a) : MatR q tk fo x = MatR q tk' fo' x := by
  funext i j
  exact propext (and_congr Iff.rfl (mat_congr h (fun c a _ hb => (ht c a hb).symm) (fun s a _ hb => (hf s a hb).symm)))
theorem matR_nothing : MatR nothingF tk fo x = sameN x.size := by
  funext i j
  refine propext (and_congr_right fun h => ?_)
  rw [mat_nothing, show x.size - (x.size - i) = i by omega]
theorem matR_begin : MatR (anchorF 1) tk fo x = fun i j => i = 0 ∧ j = 0 := by
  funext i j
  apply propext
  unfold MatR
  rw [mat_anchor]
  constructor
  · rintro ⟨h, h1, h2⟩
    rw [show x.size - (x.size - i) = i by omega] at h1 h2
    have := spot_1.1 h1
    omega
  · rintro ⟨rfl, rfl⟩
    refine ⟨by omega, ?_, by omega⟩
    rw [show x.size - (x.size - 0) = 0 by omega]
    exact spot_1.2 rfl
theorem matR_end : MatR (anchorF 2) tk fo x = fun i j => i = x.size ∧ j = x.size := by
  funext i j
  apply propext
  unfold MatR
  rw [mat_anchor]
  constructor
  · rintro ⟨h, h1, h2⟩
    rw [show x.size - (x.size - i) = i by omega] at h1 h2
    have := spot_2.1 h1
    omega
  · rintro ⟨rfl, rfl⟩
    refine ⟨by omega, ?_, by omega⟩
    rw [show x.size - (x.size - x.size) = x.size by omega]
    exact spot_2.2 rfl
theorem matR_take {a : Nat} (hf : ∀ s, fo s a = 0) : MatR (fun _ => ⟨false, 2 ^ a, 2 ^ a⟩) tk fo x = fun i j => i < x.size ∧ (tk (byteN x i)).testBit a = true ∧ j = i + 1 := by
  funext i j
  apply propext
  unfold MatR
  rw [mat_take hf (by omega)]
  constructor
  · rintro ⟨h, h1, h2, h3⟩
    rw [show x.size - (x.size - i) = i by omega] at h2 h3
    exact ⟨by omega, h2, h3⟩
  · rintro ⟨h, h2, h3⟩
    rw [show x.size - (x.size - i) = i by omega]
    exact ⟨by omega, by omega, h2, h3⟩
theorem matR_either (h1 : Cl A B q1 fo) (h2 : Cl B C q2 fo) : MatR (eitherF q1 q2) tk fo x = eitherN (MatR q1 tk fo x) (MatR q2 tk fo x) := by
  funext i j
  apply propext
  unfold MatR eitherN
  rw [mat_either h1 h2]
  exact and_or_left
theorem matR_join (h1 : Cl A B q1 fo) (h2 : Cl B C q2 fo) : MatR (joinF q1 q2) tk (tieP fo q1 q2) x = behindN (MatR q1 tk fo x) (MatR q2 tk fo x) := by
  funext i j
  apply propext
  unfold MatR behindN
  rw [mat_join h1 h2 (by omega)]
  constructor
  · rintro ⟨h, k, g1, g2⟩
    have := mat_bounds (Nat.sub_le x.size i) g1
    exact ⟨k, ⟨h, g1⟩, by omega, g2⟩
  · rintro ⟨k, ⟨h, g1⟩, _, g2⟩
    exact ⟨h, k, g1, g2⟩
theorem matR_plus : MatR q tk (tieP fo q q) x = behindN (MatR q tk fo x) (oftenN x.size (MatR q tk fo x)) := by
  funext i j
  apply propext
  show (i ≤ x.size ∧ mat q tk (tieP fo q q) x (x.size - i) j) ↔ ∃ k, (i ≤ x.size ∧ mat q tk fo x (x.size - i) k) ∧ (k ≤ x.size ∧ Star (MatR q tk fo x) k j)
  rw [mat_repeat (by omega)]
  constructor
  · rintro ⟨h, k, g1, g2⟩
    have := mat_bounds (Nat.sub_le x.size i) g1
    exact ⟨k, ⟨h, g1⟩, by omega, g2⟩
  · rintro ⟨k, ⟨h, g1⟩, _, g2⟩
    exact ⟨h, k, g1, g2⟩
theorem matR_opt : MatR (eitherF q nothingF) tk fo x = eitherN (MatR q tk fo x) (sameN x.size) := by
  funext i j
  apply propext
  unfold MatR eitherN sameN
  rw [mat_opt]
  constructor
  · rintro ⟨h, g | g⟩
    · exact .inl ⟨h, g⟩
    · exact .inr ⟨h, by omega⟩
  · rintro (⟨h, g⟩ | ⟨h, g⟩)
    · exact ⟨h, .inl g⟩
    · exact ⟨h, .inr (by omega)⟩
theorem often_split {N : Nat} {R : RelN} (hb : ∀ i j, R i j → i ≤ N ∧ j ≤ N) : eitherN (behindN R (oftenN N R)) (sameN N) = oftenN N R := by
  funext i j
  apply propext
  constructor
  · rintro (⟨k, h1, h2, h3⟩ | ⟨h1, rfl⟩)
    · exact ⟨(hb i k h1).1, Star.head h1 h3⟩
    · exact ⟨h1, Star.refl _⟩
  · rintro ⟨h, n, hc⟩
    cases n with
    | zero => cases hc; exact .inr ⟨h, rfl⟩
    | succ n =>
      obtain ⟨k, h1, h2⟩ := hc
      exact .inl ⟨k, h1, (hb i k h1).2, n, h2⟩
theorem matR_star : MatR (eitherF q nothingF) tk (tieP fo q q) x = oftenN x.size (MatR q tk fo x) := by
  rw [matR_opt, matR_plus]
  exact often_split fun i j h => ⟨h.1, (matR_bd i j h).2⟩

theorem Cl.agree (h : Cl A B q fo) (hf : ∀ s a, a < B → fo' s a = fo s a) : Cl A B q fo' := ⟨h.f, h.l, fun s a b h1 h2 h3 => h.fo s a b h1 h2 (by rw [← hf s a h2]; exact h3)⟩
theorem Cl.nothing (A : Nat) : Cl A A nothingF fo := ⟨fun s b h => by simp [nothingF] at h, fun s b h => by simp [nothingF] at h, fun s a b h1 h2 => by omega⟩
theorem Cl.anchor (A m : Nat) : Cl A A (anchorF m) fo := ⟨fun s b h => by simp [anchorF] at h, fun s b h => by simp [anchorF] at h, fun s a b h1 h2 => by omega⟩
theorem Cl.take (hf : ∀ s, fo s A = 0) : Cl A (A + 1) (fun _ => ⟨false, 2 ^ A, 2 ^ A⟩) fo := by
  refine ⟨fun s b h => ?_, fun s b h => ?_, fun s a b h1 h2 h3 => ?_⟩
  · simp only [two_testBit, decide_eq_true_eq] at h; omega
  · simp only [two_testBit, decide_eq_true_eq] at h; omega
  · obtain rfl : a = A := by omega
    rw [hf] at h3; simp at h3
theorem Cl.either (h1 : Cl A B q1 fo) (h2 : Cl B C q2 fo) (hAB : A ≤ B) (hBC : B ≤ C) : Cl A C (eitherF q1 q2) fo := by
  refine ⟨fun s b h => ?_, fun s b h => ?_, fun s a b ha hb h => ?_⟩
  · simp only [eitherF, Nat.testBit_or, Bool.or_eq_true] at h
    rcases h with h | h
    · have := h1.f s b h; omega
    · have := h2.f s b h; omega
  · simp only [eitherF, Nat.testBit_or, Bool.or_eq_true] at h
    rcases h with h | h
    · have := h1.l s b h; omega
    · have := h2.l s b h; omega
  · rcases Nat.lt_or_ge a B with c | c
    · have := h1.fo s a b ha c h; omega
    · have := h2.fo s a b c hb h; omega
theorem Cl.join (h1 : Cl A B q1 fo) (h2 : Cl B C q2 fo) (hAB : A ≤ B) (hBC : B ≤ C) : Cl A C (joinF q1 q2) (tieP fo q1 q2) := by
  refine ⟨fun s b h => ?_, fun s b h => ?_, fun s a b ha hb h => ?_⟩
  · simp only [joinF, joinedF] at h
    split at h
    · rw [Nat.testBit_or, Bool.or_eq_true] at h
      rcases h with h | h
      · have := h1.f s b h; omega
      · have := h2.f s b h; omega
    · have := h1.f s b h; omega
  · simp only [joinF, joinedF] at h
    split at h
    · rw [Nat.testBit_or, Bool.or_eq_true] at h
      rcases h with h | h
      · have := h2.l s b h; omega
      · have := h1.l s b h; omega
    · have := h2.l s b h; omega
  · have old : (fo s a).testBit b = true → A ≤ b ∧ b < C := fun h => by
      rcases Nat.lt_or_ge a B with c | c
      · have := h1.fo s a b ha c h; omega
      · have := h2.fo s a b c hb h; omega
    unfold tieP at h
    split at h
    · rw [Nat.testBit_or, Bool.or_eq_true] at h
      rcases h with h | h
      · exact old h
      · have := h2.f s b h; omega
    · exact old h
theorem Cl.tie (h : Cl A B q fo) : Cl A B q (tieP fo q q) := by
  refine ⟨h.f, h.l, fun s a b ha hb h3 => ?_⟩
  unfold tieP at h3
  split at h3
  · rw [Nat.testBit_or, Bool.or_eq_true] at h3
    rcases h3 with h3 | h3
    · exact h.fo s a b ha hb h3
    · exact h.f s b h3
  · exact h.fo s a b ha hb h3
theorem Cl.opt (h : Cl A B q fo) : Cl A B (eitherF q nothingF) fo := by
  refine ⟨fun s b h1 => ?_, fun s b h1 => ?_, h.fo⟩
  · simp only [eitherF, nothingF, Nat.or_zero] at h1; exact h.f s b h1
  · simp only [eitherF, nothingF, Nat.or_zero] at h1; exact h.l s b h1
theorem tie_below (h : Cl A B q1 fo') {s a : Nat} (ha : a < A) : tieP fo q1 q2 s a = fo s a := by
  unfold tieP
  rw [if_neg]
  intro e
  have := h.l s a e
  omega

end
end Go.Proofs.YtakbfoegkjaphaaGreatDoor

namespace Go.Proofs.YtakbfoegkjaphaaGreatDoor

/-- What was read is of the atoms from A on; below these all is as it was. -/
structure Got (A : Nat) (s : St) (r : Piece × St) : Prop where
  cl : Cl A r.2.atoms r.1 r.2.fo
  tk : ∀ c a, a < A → (r.2.tk c).testBit a = (s.tk c).testBit a
  fo : ∀ sp a, a < A → r.2.fo sp a = s.fo sp a

/-- An atom, however deep. -/
def AtomX (t x : ByteArray) (lo hi : Nat) (R : RelN) : Prop := ∃ n, atomD t x n lo hi R

theorem atomD_more {t x : ByteArray} {lo hi : Nat} {R : RelN} (n : Nat) : ∀ d, atomD t x n lo hi R → atomD t x (n + d) lo hi R
  | 0, h => h
  | d + 1, h => atomD_up _ _ _ _ (atomD_more n d h)
theorem atomD_le {t x : ByteArray} {lo hi : Nat} {R : RelN} {n m : Nat} (hnm : n ≤ m) (h : atomD t x n lo hi R) : atomD t x m lo hi R := by
  obtain ⟨d, rfl⟩ := Nat.exists_eq_add_of_le hnm
  exact atomD_more n d h
theorem row_unif {t x : ByteArray} : ∀ k lo hi R, rowD t x (AtomX t x) k lo hi R → ∃ n, rowD t x (atomD t x n) k lo hi R
  | 0, _, _, _, h => ⟨0, h⟩
  | k + 1, lo, hi, R, ⟨mid, R1, R2, ⟨j, Ra, m, h0, ⟨n1, h1⟩, h2⟩, h3, h4, h5⟩ => by
    obtain ⟨n2, h6⟩ := row_unif k mid hi R2 h4
    exact ⟨max n1 n2, mid, R1, R2, ⟨j, Ra, m, h0, atomD_le (Nat.le_max_left _ _) h1, h2⟩, h3, rowD_mono (fun _ _ _ h => atomD_le (Nat.le_max_right _ _) h) _ _ _ _ h6, h5⟩
theorem choice_unif {t x : ByteArray} : ∀ k lo hi R, choiceD t x (AtomX t x) k lo hi R → ∃ n, choiceD t x (atomD t x n) k lo hi R
  | 0, _, _, _, h => h.elim
  | k + 1, lo, hi, R, ⟨mid, R1, m, h1, h2⟩ => by
    obtain ⟨n1, h3⟩ := row_unif m lo mid R1 h1
    rcases h2 with h2 | ⟨a, b, R2, c, d⟩
    · exact ⟨n1, mid, R1, m, h3, .inl h2⟩
    · obtain ⟨n2, h4⟩ := choice_unif k (mid + 1) hi R2 c
      exact ⟨max n1 n2, mid, R1, m, rowD_mono (fun _ _ _ h => atomD_le (Nat.le_max_left _ _) h) _ _ _ _ h3, .inr ⟨a, b, R2, choiceD_mono (fun _ _ _ h => atomD_le (Nat.le_max_right _ _) h) _ _ _ _ h4, d⟩⟩

/-- The relation of what was read. -/
abbrev RelOf (x : ByteArray) (r : Piece × St) : RelN := MatR r.1 r.2.tk r.2.fo x

structure RdAll (t x : ByteArray) (n : Nat) : Prop where
  alt : ∀ s, Inv t s → FoZ s → 6 * (t.size - s.pos) + 3 ≤ n → (altF t n s).2.fault = false → Got s.atoms s (altF t n s) ∧ ∃ k, choiceD t x (AtomX t x) k s.pos (altF t n s).2.pos (RelOf x (altF t n s))
  altL : ∀ q s A lo, Inv t s → FoZ s → PB s.atoms q → A ≤ s.atoms → Cl A s.atoms q s.fo → 6 * (t.size - s.pos) + 2 ≤ n → (∃ k, choiceD t x (AtomX t x) k lo s.pos (MatR q s.tk s.fo x)) → (altLF t n q s).2.fault = false →
    Got A s (altLF t n q s) ∧ ∃ k, choiceD t x (AtomX t x) k lo (altLF t n q s).2.pos (RelOf x (altLF t n q s))
  seq : ∀ s, Inv t s → FoZ s → 6 * (t.size - s.pos) + 2 ≤ n → (seqF t n s).2.fault = false → Got s.atoms s (seqF t n s) ∧ ∃ k, rowD t x (AtomX t x) k s.pos (seqF t n s).2.pos (RelOf x (seqF t n s))
  seqL : ∀ q s A lo, Inv t s → FoZ s → PB s.atoms q → A ≤ s.atoms → Cl A s.atoms q s.fo → lo ≤ s.pos → (lo < s.pos → ¬ isMark (byteN t s.pos)) → 6 * (t.size - s.pos) + 1 ≤ n → (∃ k, rowD t x (AtomX t x) k lo s.pos (MatR q s.tk s.fo x)) → (seqLF t n q s).2.fault = false →
    Got A s (seqLF t n q s) ∧ ∃ k, rowD t x (AtomX t x) k lo (seqLF t n q s).2.pos (RelOf x (seqLF t n q s))
  part : ∀ s, Inv t s → FoZ s → ¬ StopP (peekF t s) → 6 * (t.size - s.pos) ≤ n + 1 → (partF t n s).2.fault = false → Got s.atoms s (partF t n s) ∧ partD t x (AtomX t x) s.pos (partF t n s).2.pos (RelOf x (partF t n s)) ∧ ¬ isMark (byteN t (partF t n s).2.pos)
  partL : ∀ q s A lo j R1 k, Inv t s → FoZ s → PB s.atoms q → A ≤ s.atoms → Cl A s.atoms q s.fo → lo < j → AtomX t x lo j R1 → marksD t x k j s.pos R1 (MatR q s.tk s.fo x) → 6 * (t.size - s.pos) + 1 ≤ n → (partLF t n q s).2.fault = false →
    Got A s (partLF t n q s) ∧ partD t x (AtomX t x) lo (partLF t n q s).2.pos (RelOf x (partLF t n q s)) ∧ ¬ isMark (byteN t (partLF t n q s).2.pos)
  atom : ∀ s, Inv t s → FoZ s → ¬ StopP (peekF t s) → 6 * (t.size - s.pos) ≤ n + 2 → (atomF t n s).2.fault = false → Got s.atoms s (atomF t n s) ∧ s.pos < (atomF t n s).2.pos ∧ AtomX t x s.pos (atomF t n s).2.pos (RelOf x (atomF t n s))

section
variable {t x : ByteArray} {s : St}

theorem Got.refl {A : Nat} {q : Piece} (h : Cl A s.atoms q s.fo) : Got A s (q, s) := ⟨h, fun _ _ _ => rfl, fun _ _ _ => rfl⟩

/-- An atom that takes one byte of a set. -/
theorem take_got {S : St} (P : Nat → Bool) (hS : ∀ b, S.tk b < 2 ^ S.atoms) (hz : FoZ S) (ha : S.atoms = s.atoms) (ht : S.tk = s.tk) (hf : S.fo = s.fo) :
    Got s.atoms s (takeOfF S P) ∧ RelOf x (takeOfF S P) = fun i j => i < x.size ∧ P (byteN x i) = true ∧ j = i + 1 := by
  have hz' : ∀ sp, S.fo sp S.atoms = 0 := fun sp => hz sp _ (Nat.le_refl _)
  refine ⟨⟨?_, fun c a hc => ?_, fun sp a hc => ?_⟩, ?_⟩
  · rw [← ha]; exact Cl.take hz'
  · show (if P c = true then S.tk c ||| 2 ^ S.atoms else S.tk c).testBit a = _
    rw [← ht]
    split
    · rw [Nat.testBit_or, two_testBit, decide_eq_false (by omega), Bool.or_false]
    · rfl
  · show S.fo sp a = _
    rw [hf]
  · show MatR (fun _ => ⟨false, 2 ^ S.atoms, 2 ^ S.atoms⟩) (fun b => if P b = true then S.tk b ||| 2 ^ S.atoms else S.tk b) S.fo x = _
    rw [matR_take hz']
    funext i j
    have hb : (S.tk (byteN x i)).testBit S.atoms = false := Nat.testBit_lt_two_pow (hS _)
    have : ((if P (byteN x i) = true then S.tk (byteN x i) ||| 2 ^ S.atoms else S.tk (byteN x i)).testBit S.atoms = true) = (P (byteN x i) = true) := by
      split
      · rename_i hp; rw [hp, Nat.testBit_or, two_testBit]; simp
      · rename_i hp; rw [hb]; simp [hp]
    rw [this]

theorem not_mark_of_peek (h1 : peekF t s ≠ 42) (h2 : peekF t s ≠ 43) (h3 : peekF t s ≠ 63) (hf : s.fault = false) : ¬ isMark (byteN t s.pos) := by
  by_cases hl : s.pos < t.size
  · have e := (peek_is (t := t) (c := byteN t s.pos) hf).2 ⟨hl, rfl⟩
    rw [e] at h1 h2 h3
    unfold isMark
    omega
  · have : byteN t s.pos = 0 := by unfold byteN; rw [dif_neg hl]
    rw [this]; unfold isMark; omega

theorem markN_star (N : Nat) (R : RelN) : markN N 42 R = oftenN N R := rfl
theorem markN_plus (N : Nat) (R : RelN) : markN N 43 R = behindN R (oftenN N R) := rfl
theorem markN_opt (N : Nat) (R : RelN) : markN N 63 R = eitherN R (sameN N) := rfl

theorem stop_byte (hs : ¬ StopP (peekF t s)) : s.fault = false ∧ s.pos < t.size ∧ peekF t s = (byteN t s.pos : Int) ∧ byteN t s.pos ≠ 41 ∧ byteN t s.pos ≠ 124 ∧ ¬ isMark (byteN t s.pos) := by
  have hn := peek_ne (t := t) (s := s) (fun e => hs (.inl e))
  have e := (peek_is (t := t) (c := byteN t s.pos) hn.1).2 ⟨hn.2, rfl⟩
  rw [e] at hs
  unfold StopP at hs
  refine ⟨hn.1, hn.2, e, by omega, by omega, ?_⟩
  unfold isMark; omega

theorem rdAll (t x : ByteArray) : ∀ n, RdAll t x n
  | 0 => ⟨fun _ _ _ h => by omega, fun _ _ _ _ _ _ _ _ _ h => by omega, fun _ _ _ h => by omega, fun _ _ _ _ _ _ _ _ _ _ _ h => by omega,
      fun s _ _ hs h => by have := (stop_byte hs).2.1; omega, fun _ _ _ _ _ _ _ _ _ _ _ _ _ _ _ h => by omega, fun s _ _ hs h => by have := (stop_byte hs).2.1; omega⟩
  | n + 1 => by
    have ih := rdAll t x n
    have gv := givesAll t n
    have fz := foAll t n
    refine ⟨fun s hi hz h hr => ?_, fun q s A lo hi hz hq hA hc h hd hr => ?_, fun s hi hz h hr => ?_, fun q s A lo hi hz hq hA hc hlo hm h hd hr => ?_, fun s hi hz hs h hr => ?_, fun q s A lo j R1 k hi hz hq hA hc hlj ha hmk h hr => ?_, fun s hi hz hs h hr => ?_⟩
    · rw [altF_s] at hr ⊢
      have g := gv.seq s hi
      have := g.le
      have hsf := FaultAll.altL' hr
      obtain ⟨g1, k, g2⟩ := ih.seq s hi hz (by omega) hsf
      obtain ⟨r1, k2, r2⟩ := ih.altL _ _ s.atoms s.pos g.inv (fz.seq s hi hz) g.pb g.al g1.cl (by omega) ⟨1, _, _, k, g2, .inl ⟨rfl, rfl⟩⟩ hr
      exact ⟨⟨r1.cl, fun c a hc => (r1.tk c a hc).trans (g1.tk c a hc), fun sp a hc => (r1.fo sp a hc).trans (g1.fo sp a hc)⟩, k2, r2⟩
    · rw [altLF_s] at hr ⊢
      by_cases c : peekF t s = 124
      · rw [if_pos c] at hr ⊢
        have hp : peekF t s ≠ -1 := by rw [c]; decide
        have hl := (peek_ne hp).2
        have hav := hi.adv hp
        have e1 : (advF s).pos = s.pos + 1 := rfl
        have g := gv.seq _ hav
        have hle := g.le
        have hal := g.al
        have hsf := FaultAll.altL' hr
        have hz1 : FoZ (advF s) := hz.near (near_adv hp)
        obtain ⟨g1, k, g2⟩ := ih.seq (advF s) hav hz1 (by omega) hsf
        obtain ⟨kd, hd⟩ := hd
        have hb : byteN t s.pos = 124 := (peekQ_byte (c := 124) (by rw [c]; rfl)).2.2
        have hcA : Cl A s.atoms q (seqF t n (advF s)).2.fo := hc.agree (fun sp a ha => g1.fo sp a ha)
        have hR : MatR q s.tk s.fo x = MatR q (seqF t n (advF s)).2.tk (seqF t n (advF s)).2.fo x := matR_congr hc (fun c a ha => g1.tk c a ha) (fun sp a ha => g1.fo sp a ha)
        rw [hR] at hd
        have hch := choiceD_snoc kd lo s.pos (seqF t n (advF s)).2.pos _ _ k hd hb (by omega) g2
        rw [← matR_either hcA g1.cl] at hch
        have hpb : PB (seqF t n (advF s)).2.atoms (eitherF q (seqF t n (advF s)).1) := (hq.mono g.al).either g.pb
        obtain ⟨r1, k2, r2⟩ := ih.altL _ _ A lo g.inv (fz.seq _ hav hz1) hpb (Nat.le_trans hA hal) (hcA.either g1.cl hA hal) (by omega) ⟨_, hch⟩ hr
        exact ⟨⟨r1.cl, fun c a ha => (r1.tk c a ha).trans (g1.tk c a (Nat.lt_of_lt_of_le ha hA)), fun sp a ha => (r1.fo sp a ha).trans (g1.fo sp a (Nat.lt_of_lt_of_le ha hA))⟩, k2, r2⟩
      · rw [if_neg c] at hr ⊢
        exact ⟨Got.refl hc, hd⟩
    · rw [seqF_s] at hr ⊢
      obtain ⟨r1, k, r2⟩ := ih.seqL nothingF s s.atoms s.pos hi hz (PB.nothing _) (Nat.le_refl _) (Cl.nothing _) (Nat.le_refl _) (fun h => absurd h (Nat.lt_irrefl _)) (by omega) ⟨0, rfl, matR_nothing⟩ hr
      exact ⟨r1, k, r2⟩
    · rw [seqLF_s] at hr ⊢
      by_cases c : peekF t s = -1 ∨ peekF t s = 41 ∨ peekF t s = 124 ∨ peekF t s = 42 ∨ peekF t s = 43 ∨ peekF t s = 63
      · rw [if_pos c] at hr ⊢
        exact ⟨Got.refl hc, hd⟩
      · rw [if_neg c] at hr ⊢
        have hp : peekF t s ≠ -1 := fun e => c (.inl e)
        have hl := (peek_ne hp).2
        have g := gv.part s hi hp
        have hle := g.le
        have hal := g.al
        obtain ⟨k0, rfl⟩ : ∃ k0, n = k0 + 2 := ⟨n - 2, by omega⟩
        have hpr := part_prog (n := k0) hi hp
        have hsf : ({ (partF t (k0 + 2) s).2 with fo := tieP (partF t (k0 + 2) s).2.fo q (partF t (k0 + 2) s).1 } : St).fault = false := FaultAll.seqL' hr
        obtain ⟨g1, g2, g3⟩ := ih.part s hi hz c (by omega) hsf
        obtain ⟨kd, hd⟩ := hd
        have hcA : Cl A s.atoms q (partF t (k0 + 2) s).2.fo := hc.agree (fun sp a ha => g1.fo sp a ha)
        have hR : MatR q s.tk s.fo x = MatR q (partF t (k0 + 2) s).2.tk (partF t (k0 + 2) s).2.fo x := matR_congr hc (fun c a ha => g1.tk c a ha) (fun sp a ha => g1.fo sp a ha)
        rw [hR] at hd
        have hrow := rowD_snoc kd lo s.pos _ _ _ hd g2 (fun i j h => matR_le i j h) matR_bd hlo hm
        rw [← matR_join hcA g1.cl] at hrow
        have hz1 := (fz.part s hi hp hz).tie (q := q) (r := (partF t (k0 + 2) s).1) (hq.mono hal)
        obtain ⟨r1, k2, r2⟩ := ih.seqL _ _ A lo (g.inv.tie g.pb) hz1 ((hq.mono hal).join g.pb) (Nat.le_trans hA hal) (hcA.join g1.cl hA hal) (by show lo ≤ (partF t (k0 + 2) s).2.pos; omega) (fun _ => g3)
          (by show 6 * (t.size - (partF t (k0 + 2) s).2.pos) + 1 ≤ k0 + 2; omega) ⟨_, hrow⟩ hr
        refine ⟨⟨r1.cl, fun c a ha => (r1.tk c a ha).trans (g1.tk c a (Nat.lt_of_lt_of_le ha hA)), fun sp a ha => (r1.fo sp a ha).trans ?_⟩, k2, r2⟩
        show tieP (partF t (k0 + 2) s).2.fo q (partF t (k0 + 2) s).1 sp a = s.fo sp a
        rw [tie_below hc ha]
        exact g1.fo sp a (Nat.lt_of_lt_of_le ha hA)
    · have hp : peekF t s ≠ -1 := fun e => hs (.inl e)
      have hl := (peek_ne hp).2
      rw [partF_s] at hr ⊢
      have g := gv.atom s hi hp
      obtain ⟨k0, rfl⟩ : ∃ k0, n = k0 + 1 := ⟨n - 1, by omega⟩
      have hpr := atom_prog (n := k0) hi hp
      have hsf := FaultAll.partL' hr
      obtain ⟨g1, g2, g3⟩ := ih.atom s hi hz hs (by omega) hsf
      obtain ⟨r1, r2, r3⟩ := ih.partL _ _ s.atoms s.pos _ _ 0 g.inv (fz.atom s hi hp hz) g.pb g.al g1.cl g2 g3 ⟨rfl, rfl⟩ (by omega) hr
      exact ⟨⟨r1.cl, fun c a ha => (r1.tk c a ha).trans (g1.tk c a ha), fun sp a ha => (r1.fo sp a ha).trans (g1.fo sp a ha)⟩, r2, r3⟩
    · rw [partLF_s] at hr ⊢
      have byteIs : ∀ c : Nat, peekF t s = (c : Int) → byteN t s.pos = c ∧ s.pos < t.size := fun c e => ⟨(peekQ_byte e).2.2, (peekQ_byte e).2.1⟩
      by_cases c1 : peekF t s = 42
      · obtain ⟨hb, hl⟩ := byteIs 42 (by rw [c1]; rfl)
        rw [if_pos c1] at hr ⊢
        have hi2 := hi.tie (q := q) hq
        have hp2 : peekF t { s with fo := tieP s.fo q q } ≠ -1 := by rw [peek_tie, c1]; decide
        have hav := hi2.adv hp2
        have hmk2 := marksD_snoc k j s.pos R1 _ (byteN t s.pos) hmk (by rw [hb]; exact .inl rfl) rfl
        rw [hb, markN_star, ← matR_star] at hmk2
        obtain ⟨r1, r2⟩ := ih.partL (eitherF q nothingF) (advF { s with fo := tieP s.fo q q }) A lo j R1 (k + 1) hav ((hz.tie hq).near (near_adv hp2)) (hq.either (PB.nothing _)) hA hc.tie.opt hlj ha hmk2 (by show 6 * (t.size - (s.pos + 1)) + 1 ≤ n; omega) hr
        exact ⟨⟨r1.cl, r1.tk, fun sp a h => (r1.fo sp a h).trans (tie_below hc h)⟩, r2⟩
      · rw [if_neg c1] at hr ⊢
        by_cases c2 : peekF t s = 43
        · obtain ⟨hb, hl⟩ := byteIs 43 (by rw [c2]; rfl)
          rw [if_pos c2] at hr ⊢
          have hi2 := hi.tie (q := q) hq
          have hp2 : peekF t { s with fo := tieP s.fo q q } ≠ -1 := by rw [peek_tie, c2]; decide
          have hav := hi2.adv hp2
          have hmk2 := marksD_snoc k j s.pos R1 _ (byteN t s.pos) hmk (by rw [hb]; exact .inr (.inl rfl)) rfl
          rw [hb, markN_plus, ← matR_plus] at hmk2
          obtain ⟨r1, r2⟩ := ih.partL q (advF { s with fo := tieP s.fo q q }) A lo j R1 (k + 1) hav ((hz.tie hq).near (near_adv hp2)) hq hA hc.tie hlj ha hmk2 (by show 6 * (t.size - (s.pos + 1)) + 1 ≤ n; omega) hr
          exact ⟨⟨r1.cl, r1.tk, fun sp a h => (r1.fo sp a h).trans (tie_below hc h)⟩, r2⟩
        · rw [if_neg c2] at hr ⊢
          by_cases c3 : peekF t s = 63
          · obtain ⟨hb, hl⟩ := byteIs 63 (by rw [c3]; rfl)
            rw [if_pos c3] at hr ⊢
            have hp2 : peekF t s ≠ -1 := by rw [c3]; decide
            have hav := hi.adv hp2
            have hmk2 := marksD_snoc k j s.pos R1 _ (byteN t s.pos) hmk (by rw [hb]; exact .inr (.inr rfl)) rfl
            rw [hb, markN_opt, ← matR_opt] at hmk2
            obtain ⟨r1, r2⟩ := ih.partL (eitherF q nothingF) (advF s) A lo j R1 (k + 1) hav (hz.near (near_adv hp2)) (hq.either (PB.nothing _)) hA hc.opt hlj ha hmk2 (by show 6 * (t.size - (s.pos + 1)) + 1 ≤ n; omega) hr
            exact ⟨⟨r1.cl, r1.tk, r1.fo⟩, r2⟩
          · rw [if_neg c3] at hr ⊢
            exact ⟨Got.refl hc, ⟨j, R1, k, hlj, ha, hmk⟩, not_mark_of_peek c1 c2 c3 hr⟩
    · obtain ⟨hf, hl, hpk, b1, b2, b3⟩ := stop_byte hs
      have hp : peekF t s ≠ -1 := fun e => hs (.inl e)
      have hav := hi.adv hp
      have hz1 : FoZ (advF s) := hz.near (near_adv hp)
      rw [atomF_s] at hr ⊢
      rw [hpk] at hr ⊢
      by_cases c1 : (byteN t s.pos : Int) = 40
      · rw [if_pos c1] at hr ⊢
        simp only at hr ⊢
        have hAf : (altF t n (advF s)).2.fault = false := by
          cases hx : (altF t n (advF s)).2.fault with
          | false => rfl
          | true => rw [need_fault (by decide) hx] at hr; cases hr
        obtain ⟨g1, k, g2⟩ := ih.alt (advF s) hav hz1 (by show 6 * (t.size - (s.pos + 1)) + 3 ≤ n; omega) hAf
        have hle := (gv.alt _ hav).le
        have e1 : (advF s).pos = s.pos + 1 := rfl
        have hpk2 : peekF t (altF t n (advF s)).2 = 41 := by
          unfold needF at hr
          by_cases cc : peekF t (altF t n (advF s)).2 = 41
          · exact cc
          · rw [if_neg cc] at hr; cases hr
        have hneed : needF t (altF t n (advF s)).2 41 = advF (altF t n (advF s)).2 := by unfold needF; rw [if_pos hpk2]
        have h41 := peekQ_byte (t := t) (c := 41) (by rw [hpk2]; rfl)
        obtain ⟨m, g3⟩ := choice_unif _ _ _ _ g2
        rw [hneed]
        refine ⟨⟨g1.cl, g1.tk, g1.fo⟩, by show s.pos < (altF t n (advF s)).2.pos + 1; omega, m + 1, ?_⟩
        show atomD t x (m + 1) s.pos ((altF t n (advF s)).2.pos + 1) (RelOf x (altF t n (advF s)))
        rw [atomD]
        refine ⟨h41.2.1, by omega, b1, b2, b3, .inl ⟨by omega, by omega, by rw [Nat.add_sub_cancel]; exact h41.2.2, k, ?_⟩⟩
        rw [Nat.add_sub_cancel]
        exact g3
      · rw [if_neg c1] at hr ⊢
        by_cases c2 : (byteN t s.pos : Int) = 91
        · rw [if_pos c2] at hr ⊢
          obtain ⟨S, P, hi', e0, e1, e2, e3, e4, e5, e6, e7, ⟨k, e8⟩, e9⟩ := class_val n (s := advF s) hf hr
          have hp1 : (advF s).pos = s.pos + 1 := rfl
          have hz2 : FoZ S := fun sp a h => by rw [e4]; exact hz1 sp a (by rw [← e2]; exact h)
          obtain ⟨r1, r2⟩ := take_got (x := x) (s := s) P (S := S) (fun b => by rw [e3, e2]; exact hav.tk b) hz2 e2 e3 e4
          rw [e0]
          refine ⟨r1, by show s.pos < S.pos; omega, 1, ?_⟩
          show atomD t x 1 s.pos S.pos _
          rw [r2, e1, atomD]
          refine ⟨by omega, by omega, b1, b2, b3, .inr (.inr (.inr ⟨by omega, by omega, by omega, .inr (.inl ⟨by omega, by omega, by rw [Nat.add_sub_cancel]; exact e7, k, by rw [Nat.add_sub_cancel]; exact e8⟩), ?_⟩))⟩
          funext i j'
          unfold oneF
          rw [if_neg (by omega), if_pos (by omega), Nat.add_sub_cancel, e9]
          rfl
        · rw [if_neg c2] at hr ⊢
          by_cases c3 : (byteN t s.pos : Int) = 46
          · rw [if_pos c3] at hr ⊢
            obtain ⟨r1, r2⟩ := take_got (x := x) (s := s) (markF (fun _ => false) 0 255) (S := advF s) hi.tk hz1 rfl rfl rfl
            refine ⟨r1, by show s.pos < s.pos + 1; omega, 1, ?_⟩
            show atomD t x 1 s.pos (s.pos + 1) (RelOf x (takeOfF (advF s) (markF (fun _ => false) 0 255)))
            rw [r2, atomD]
            refine ⟨by omega, by omega, b1, b2, b3, .inr (.inr (.inr ⟨by omega, by omega, by omega, .inr (.inr ⟨by omega, by omega, rfl⟩), ?_⟩))⟩
            funext i j'
            unfold oneF
            rw [if_pos (by omega)]
            have := byteN_lt x i
            have hmm : markF (fun _ => false) 0 255 (byteN x i) = true := by
              unfold markF
              rw [decide_eq_true (show (0 : Int) ≤ (byteN x i : Int) by omega), decide_eq_true (show (byteN x i : Int) ≤ 255 by omega)]; rfl
            rw [hmm]
          · rw [if_neg c3] at hr ⊢
            by_cases c4 : (byteN t s.pos : Int) = 94
            · rw [if_pos c4] at hr ⊢
              refine ⟨⟨Cl.anchor _ 1, fun _ _ _ => rfl, fun _ _ _ => rfl⟩, by show s.pos < s.pos + 1; omega, 1, ?_⟩
              show atomD t x 1 s.pos (s.pos + 1) (MatR (anchorF 1) (advF s).tk (advF s).fo x)
              rw [matR_begin, atomD]
              exact ⟨by omega, by omega, b1, b2, b3, .inr (.inl ⟨by omega, rfl, rfl⟩)⟩
            · rw [if_neg c4] at hr ⊢
              by_cases c5 : (byteN t s.pos : Int) = 36
              · rw [if_pos c5] at hr ⊢
                refine ⟨⟨Cl.anchor _ 2, fun _ _ _ => rfl, fun _ _ _ => rfl⟩, by show s.pos < s.pos + 1; omega, 1, ?_⟩
                show atomD t x 1 s.pos (s.pos + 1) (MatR (anchorF 2) (advF s).tk (advF s).fo x)
                rw [matR_end, atomD]
                exact ⟨by omega, by omega, b1, b2, b3, .inr (.inr (.inl ⟨by omega, rfl, rfl⟩))⟩
              · rw [if_neg c5] at hr ⊢
                have hr2 : (plainF t s).2.fault = false := hr
                obtain ⟨p1, p2, p3, p4, p5⟩ := plain_val hr2
                have hge := escI_ge (t := t) s.pos
                obtain ⟨r1, r2⟩ := take_got (x := x) (s := s) (markF (fun _ => false) (plainF t s).1 (plainF t s).1) (S := (plainF t s).2) (by rw [p4]; exact hi.tk) (by rw [p4]; exact hz) (by rw [p4]) (by rw [p4]) (by rw [p4])
                have hpos : (plainF t s).2.pos = escI t s.pos + 1 := by rw [p4]
                refine ⟨r1, by show s.pos < (plainF t s).2.pos; omega, 1, ?_⟩
                show atomD t x 1 s.pos (plainF t s).2.pos (RelOf x (takeOfF (plainF t s).2 (markF (fun _ => false) (plainF t s).1 (plainF t s).1)))
                rw [r2, hpos, atomD]
                have he92 : byteN t s.pos = 92 → escI t s.pos = s.pos + 1 := fun h => by unfold escI; rw [if_pos h]
                have hn92 : byteN t s.pos ≠ 92 → escI t s.pos = s.pos := fun h => by unfold escI; rw [if_neg h]
                refine ⟨by omega, by omega, b1, b2, b3, .inr (.inr (.inr ⟨by omega, by omega, by omega, ?_, ?_⟩))⟩
                · by_cases c92 : byteN t s.pos = 92
                  · exact .inl ⟨c92, by rw [he92 c92]⟩
                  · exact .inr (.inr ⟨c92, by omega, by rw [hn92 c92]⟩)
                · funext i j'
                  have hm1 : markF (fun _ => false) (plainF t s).1 (plainF t s).1 (byteN x i) = oneF t s.pos (escI t s.pos + 1) (byteN x i) := by
                    rw [p3, mark_val]
                    unfold oneF
                    rw [if_neg (by omega), if_neg (by omega)]
                    by_cases c92 : byteN t s.pos = 92
                    · rw [if_pos c92, he92 c92, Bool.false_or, ← Bool.decide_and]
                      exact decide_eq_decide.2 (by omega)
                    · rw [if_neg c92, hn92 c92, Bool.false_or, ← Bool.decide_and]
                      exact decide_eq_decide.2 (by omega)
                  rw [hm1]

/-- What a pattern matches is what the document says. -/
theorem read_means (t x : ByteArray) (ht : t.size ≤ 50) (hok : readOk t = true) : ∃ n k, choiceD t x (atomD t x n) k 0 t.size (MatR (readF t).1 (readF t).2.tk (readF t).2.fo x) := by
  obtain ⟨o1, o2⟩ := ok_parts hok
  have h := (rdAll t x 400).alt st0 (st0_inv t) (fun _ _ _ => rfl) (by show 6 * (t.size - 0) + 3 ≤ 400; omega) o1
  obtain ⟨-, k, h⟩ := h
  change choiceD t x (AtomX t x) k 0 (readF t).2.pos (RelOf x (readF t)) at h
  rw [o2] at h
  obtain ⟨n, h⟩ := choice_unif _ _ _ _ h
  exact ⟨n, k, h⟩

end
end Go.Proofs.YtakbfoegkjaphaaGreatDoor

