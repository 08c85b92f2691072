/-
  What (p)?, (p)*, (p)+, (p)|(q) and ^(p)$ match, told of what p and q match: plain functions alone.
-/
import Derived.Test.YticaoekmlaipnaaDoorPk
import Derived.Test.YticaoekmlaipnaaDoorPl
import Derived.Test.YticaoekmlaipnaaDoorPf
set_option linter.unusedSimpArgs false
set_option linter.unusedVariables false
namespace Go.Proofs.YticaoekmlaipnaaDoor

section
variable {q : Piece} {tk : Nat → Nat} {fo : Nat → Nat → Nat} {x : ByteArray}

theorem mat_opt {d e : Nat} : mat (eitherF q nothingF) tk fo x d e ↔ mat q tk fo x d e ∨ e = x.size - d := by
  unfold mat eitherF nothingF
  simp only [Bool.or_true, Nat.or_zero, true_and]
  constructor
  · rintro (h | h)
    · exact .inr h
    · exact .inl (.inr h)
  · rintro ((h | h) | h)
    · exact .inl h.2
    · exact .inr h
    · exact .inl h

theorem way_more {L : Nat → Nat} {fo' : Nat → Nat → Nat} (h : ∀ s a b, (fo s a).testBit b = true → (fo' s a).testBit b = true) : ∀ d a e, way L tk fo x d a e → way L tk fo' x d a e
  | 0, _, _, hw => hw
  | d + 1, a, e, hw => by
    refine ⟨hw.1, ?_⟩
    rcases hw.2 with h1 | ⟨b, h1, h2⟩
    · exact .inl h1
    · exact .inr ⟨b, h _ _ _ h1, way_more h d b e h2⟩

theorem tie_more (r : Piece) (s a b : Nat) (h : (fo s a).testBit b = true) : (tieP fo q r s a).testBit b = true := by
  unfold tieP
  split
  · rw [Nat.testBit_or, h]; rfl
  · exact h

theorem mat_plus {d e : Nat} (h : mat q tk fo x d e) : mat q tk (tieP fo q q) x d e := by
  rcases h with h | ⟨b, h1, h2⟩
  · exact .inl h
  · exact .inr ⟨b, h1, way_more (tie_more q) d b e h2⟩

theorem way_plus_back : ∀ d a e, way (fun s => (q s).l) tk (tieP fo q q) x d a e → ∃ e', way (fun s => (q s).l) tk fo x d a e'
  | 0, _, _, h => h.elim
  | d + 1, a, e, h => by
    by_cases c : (q (spotN (x.size - d) x.size)).l.testBit a = true
    · exact ⟨x.size - d, h.1, .inl ⟨c, rfl⟩⟩
    · rcases h.2 with h1 | ⟨b, h1, h2⟩
      · exact absurd h1.1 c
      · unfold tieP at h1
        rw [if_neg c] at h1
        obtain ⟨e', h3⟩ := way_plus_back d b e h2
        exact ⟨e', h.1, .inr ⟨b, h1, h3⟩⟩

theorem mat_plus_back {d e : Nat} (h : mat q tk (tieP fo q q) x d e) : ∃ e', mat q tk fo x d e' := by
  rcases h with h | ⟨b, h1, h2⟩
  · exact ⟨e, .inl h⟩
  · obtain ⟨e', h3⟩ := way_plus_back d b e h2
    exact ⟨e', .inr ⟨b, h1, h3⟩⟩

end

section
variable {A : Nat} {q1 q2 : Piece} {tk1 tk2 : Nat → Nat} {fo1 fo2 : Nat → Nat → Nat} {x : ByteArray}

/-- Nothing of the first goes beyond its A atoms. -/
structure Low (A : Nat) (q : Piece) (tk : Nat → Nat) (fo : Nat → Nat → Nat) : Prop where
  f : ∀ s, (q s).f < 2 ^ A
  l : ∀ s, (q s).l < 2 ^ A
  tk : ∀ b, tk b < 2 ^ A
  fo : ∀ s a, fo s a < 2 ^ A

theorem low_high {A X Y b : Nat} (hX : X < 2 ^ A) : (X ||| (Y <<< A)).testBit b = if b < A then X.testBit b else Y.testBit (b - A) := by
  rw [Nat.testBit_or, Nat.testBit_shiftLeft]
  by_cases c : b < A
  · rw [if_pos c, decide_eq_false (by omega)]; simp
  · have : X.testBit b = false := Nat.testBit_lt_two_pow (Nat.lt_of_lt_of_le hX (Nat.pow_le_pow_right (by decide) (by omega)))
    rw [if_neg c, this, decide_eq_true (by omega)]; simp

def tkOr (A : Nat) (tk1 tk2 : Nat → Nat) : Nat → Nat := fun b => tk1 b ||| (tk2 b <<< A)
def foOr (A : Nat) (fo1 fo2 : Nat → Nat → Nat) : Nat → Nat → Nat := fun sp a => if a < A then fo1 sp a else fo2 sp (a - A) <<< A

theorem way_or (h : Low A q1 tk1 fo1) : ∀ d a e, way (fun s => (q1 s).l ||| ((q2 s).l <<< A)) (tkOr A tk1 tk2) (foOr A fo1 fo2) x d a e ↔
    if a < A then way (fun s => (q1 s).l) tk1 fo1 x d a e else way (fun s => (q2 s).l) tk2 fo2 x d (a - A) e
  | 0, a, e => by simp [way]
  | d + 1, a, e => by
    have ih := way_or h d
    rw [way_s, low_high (h.l _)]
    unfold tkOr
    rw [low_high (h.tk _)]
    unfold foOr
    by_cases c : a < A
    · rw [if_pos c, if_pos c, if_pos c, if_pos c, way_s]
      refine and_congr Iff.rfl (or_congr Iff.rfl ⟨?_, ?_⟩)
      · rintro ⟨b, h1, h2⟩
        have hb := bitAt_lt (h.fo _ _) h1
        have := (ih b e).1 h2
        rw [if_pos hb] at this
        exact ⟨b, h1, this⟩
      · rintro ⟨b, h1, h2⟩
        have hb := bitAt_lt (h.fo _ _) h1
        exact ⟨b, h1, (ih b e).2 (by rw [if_pos hb]; exact h2)⟩
    · rw [if_neg c, if_neg c, if_neg c, if_neg c, way_s]
      refine and_congr Iff.rfl (or_congr Iff.rfl ⟨?_, ?_⟩)
      · rintro ⟨b, h1, h2⟩
        rw [Nat.testBit_shiftLeft, Bool.and_eq_true, decide_eq_true_eq] at h1
        have := (ih b e).1 h2
        rw [if_neg (by omega)] at this
        exact ⟨b - A, h1.2, this⟩
      · rintro ⟨b, h1, h2⟩
        refine ⟨b + A, ?_, (ih (b + A) e).2 ?_⟩
        · rw [Nat.testBit_shiftLeft, Bool.and_eq_true, decide_eq_true_eq]
          exact ⟨by omega, by rw [Nat.add_sub_cancel]; exact h1⟩
        · rw [if_neg (by omega), Nat.add_sub_cancel]; exact h2

theorem mat_or (h : Low A q1 tk1 fo1) {d e : Nat} : mat (eitherF q1 (shP A q2)) (tkOr A tk1 tk2) (foOr A fo1 fo2) x d e ↔ mat q1 tk1 fo1 x d e ∨ mat q2 tk2 fo2 x d e := by
  unfold mat eitherF shP
  simp only [Bool.or_eq_true]
  have hw := way_or (q2 := q2) (tk2 := tk2) (fo2 := fo2) (x := x) h d
  constructor
  · rintro (⟨h1 | h1, h2⟩ | ⟨b, h1, h2⟩)
    · exact .inl (.inl ⟨h1, h2⟩)
    · exact .inr (.inl ⟨h1, h2⟩)
    · rw [low_high (h.f _)] at h1
      have h3 := (hw b e).1 h2
      by_cases c : b < A
      · rw [if_pos c] at h1 h3; exact .inl (.inr ⟨b, h1, h3⟩)
      · rw [if_neg c] at h1 h3; exact .inr (.inr ⟨b - A, h1, h3⟩)
  · rintro ((⟨h1, h2⟩ | ⟨b, h1, h2⟩) | (⟨h1, h2⟩ | ⟨b, h1, h2⟩))
    · exact .inl ⟨.inl h1, h2⟩
    · have c := bitAt_lt (h.f _) h1
      exact .inr ⟨b, by rw [low_high (h.f _), if_pos c]; exact h1, (hw b e).2 (by rw [if_pos c]; exact h2)⟩
    · exact .inl ⟨.inr h1, h2⟩
    · refine .inr ⟨b + A, ?_, (hw (b + A) e).2 ?_⟩
      · rw [low_high (h.f _), if_neg (by omega), Nat.add_sub_cancel]; exact h1
      · rw [if_neg (by omega), Nat.add_sub_cancel]; exact h2

end

section
variable {q : Piece} {tk : Nat → Nat} {fo : Nat → Nat → Nat} {x : ByteArray}

/-- Every spot is alike. -/
structure Bare (q : Piece) (fo : Nat → Nat → Nat) : Prop where
  q : ∀ s s', q s = q s'
  fo : ∀ s s', fo s = fo s'

theorem spot_zero (n : Nat) : spotN 0 n &&& 1 ≠ 0 := by unfold spotN; rw [if_pos rfl]; split <;> decide
theorem spot_end (k : Nat) : spotN k k &&& 2 ≠ 0 := by unfold spotN; rw [if_pos rfl]; split <;> decide

def ancQ (q : Piece) : Piece := joinF (joinF (anchorF 1) q) (anchorF 2)
theorem ancQ_l (q : Piece) {s : Nat} (h : s &&& 2 ≠ 0) (b : Nat) (hb : (q s).l.testBit b = true) : (ancQ q s).l.testBit b = true := by
  unfold ancQ joinF joinedF anchorF
  simp only
  rw [if_pos (by simpa using h), Nat.zero_or]
  split
  · rw [Nat.or_zero]; exact hb
  · exact hb
theorem ancQ_f (q : Piece) {s : Nat} (h : s &&& 1 ≠ 0) (b : Nat) (hb : (q s).f.testBit b = true) : (ancQ q s).f.testBit b = true := by
  unfold ancQ joinF joinedF anchorF
  have h' : (s &&& 1 != 0) = true := by simpa using h
  simp only [h', if_true, Bool.true_and, Nat.zero_or]
  split
  · rw [Nat.or_zero]; exact hb
  · exact hb
theorem ancQ_e (q : Piece) {s : Nat} (h1 : s &&& 1 ≠ 0) (h2 : s &&& 2 ≠ 0) (h : (q s).e = true) : (ancQ q s).e = true := by
  unfold ancQ joinF joinedF anchorF
  have h' : (s &&& 1 != 0) = true := by simpa using h1
  have h'' : (s &&& 2 != 0) = true := by simpa using h2
  simp only [h', h'', h, Bool.and_self]

theorem way_anc (hb : Bare q fo) {i n : Nat} (hin : i + n ≤ x.size) (y : ByteArray) (hy : y.size = n) (hy2 : ∀ j, j < n → byteN y j = byteN x (i + j)) :
    ∀ d a, d ≤ n → way (fun s => (q s).l) tk fo x (d + (x.size - (i + n))) a (i + n) → way (fun s => (ancQ q s).l) tk fo y d a n
  | 0, a, hd, h => by
    have := way_bounds (x := x) _ a (i + n) (by omega) h
    omega
  | d + 1, a, hd, h => by
    rw [show d + 1 + (x.size - (i + n)) = (d + (x.size - (i + n))) + 1 by omega, way_s] at h
    obtain ⟨h1, h2⟩ := h
    rw [way_s, hy]
    refine ⟨?_, ?_⟩
    · rw [hy2 _ (by omega), show i + (n - (d + 1)) = x.size - (d + (x.size - (i + n)) + 1) by omega]; exact h1
    · rcases h2 with ⟨h3, h4⟩ | ⟨b, h3, h4⟩
      · have hd0 : d = 0 := by omega
        subst hd0
        left
        refine ⟨ancQ_l q (spot_end _) a ?_, rfl⟩
        rw [hb.q _ (spotN (x.size - (0 + (x.size - (i + n)))) x.size)]; exact h3
      · right
        refine ⟨b, ?_, way_anc hb hin y hy hy2 d b (by omega) h4⟩
        rw [hb.fo _ (spotN (x.size - (d + (x.size - (i + n)))) x.size)]; exact h3

/-- What matches does so by itself. -/
theorem mat_anc (hb : Bare q fo) {i n : Nat} (hin : i + n ≤ x.size) (y : ByteArray) (hy : y.size = n) (hy2 : ∀ j, j < n → byteN y j = byteN x (i + j)) (h : mat q tk fo x (x.size - i) (i + n)) :
    mat (ancQ q) tk fo y y.size n := by
  unfold mat
  rw [Nat.sub_self, hy]
  rcases h with ⟨h1, h2⟩ | ⟨b, h1, h2⟩
  · have hn : n = 0 := by omega
    subst hn
    left
    refine ⟨ancQ_e q (spot_zero _) (spot_end _) ?_, rfl⟩
    rw [hb.q _ (spotN (x.size - (x.size - i)) x.size)]; exact h1
  · right
    refine ⟨b, ancQ_f q (spot_zero _) b ?_, ?_⟩
    · rw [hb.q _ (spotN (x.size - (x.size - i)) x.size)]; exact h1
    · refine way_anc hb hin y hy hy2 n b (Nat.le_refl _) ?_
      rw [show n + (x.size - (i + n)) = x.size - i by omega]; exact h2

end
end Go.Proofs.YticaoekmlaipnaaDoor
