/-
  What pieces match, told of what their parts match: alternatives, one behind the other, repeated. Sets of atoms by ranges. How the document takes a pattern apart, and the relation between places that it gives to each part. A class is the same to the program and to the document.
-/
import Derived.Test.YtakbfoegkjaphaaGreatDoorM18
import Derived.Test.YtakbfoegkjaphaaGreatDoorM20
set_option linter.unusedSimpArgs false
set_option linter.unusedVariables false
namespace Go.Proofs.YtakbfoegkjaphaaGreatDoor

/-- A piece of the atoms from A to below B, and what comes behind these is of them. -/
structure Cl (A B : Nat) (q : Piece) (fo : Nat → Nat → Nat) : Prop where
  f : ∀ s b, (q s).f.testBit b = true → A ≤ b ∧ b < B
  l : ∀ s b, (q s).l.testBit b = true → A ≤ b ∧ b < B
  fo : ∀ s a b, A ≤ a → a < B → (fo s a).testBit b = true → A ≤ b ∧ b < B

section
variable {A B C : Nat} {q q1 q2 : Piece} {tk tk' : Nat → Nat} {fo fo' : Nat → Nat → Nat} {x : ByteArray}

/-- Only those atoms count. -/
theorem way_congr {L L' : Nat → Nat} (hc : ∀ s a b, A ≤ a → a < B → (fo s a).testBit b = true → A ≤ b ∧ b < B) (ht : ∀ c a, A ≤ a → a < B → (tk c).testBit a = (tk' c).testBit a) (hf : ∀ s a, A ≤ a → a < B → fo s a = fo' s a)
    (hL : ∀ s a, A ≤ a → a < B → (L s).testBit a = (L' s).testBit a) : ∀ d a e, A ≤ a → a < B → (way L tk fo x d a e ↔ way L' tk' fo' x d a e)
  | 0, _, _, _, _ => Iff.rfl
  | d + 1, a, e, h1, h2 => by
    have ih := way_congr hc ht hf hL d
    rw [way_s, way_s, ht _ a h1 h2, hL _ a h1 h2, hf _ a h1 h2]
    refine and_congr Iff.rfl (or_congr Iff.rfl ⟨?_, ?_⟩)
    · rintro ⟨b, g1, g2⟩
      have hb := hc (spotN (x.size - d) x.size) a b h1 h2 (by rw [hf _ a h1 h2]; exact g1)
      exact ⟨b, g1, (ih b e hb.1 hb.2).1 g2⟩
    · rintro ⟨b, g1, g2⟩
      have hb := hc (spotN (x.size - d) x.size) a b h1 h2 (by rw [hf _ a h1 h2]; exact g1)
      exact ⟨b, g1, (ih b e hb.1 hb.2).2 g2⟩
theorem mat_congr (h : Cl A B q fo) (ht : ∀ c a, A ≤ a → a < B → (tk c).testBit a = (tk' c).testBit a) (hf : ∀ s a, A ≤ a → a < B → fo s a = fo' s a) {d e : Nat} :
    mat q tk fo x d e ↔ mat q tk' fo' x d e := by
  unfold mat
  refine or_congr Iff.rfl ⟨?_, ?_⟩
  · rintro ⟨b, h1, h2⟩
    have hb := h.f _ b h1
    exact ⟨b, h1, (way_congr h.fo ht hf (fun _ _ _ _ => rfl) d b e hb.1 hb.2).1 h2⟩
  · rintro ⟨b, h1, h2⟩
    have hb := h.f _ b h1
    exact ⟨b, h1, (way_congr h.fo ht hf (fun _ _ _ _ => rfl) d b e hb.1 hb.2).2 h2⟩

theorem mat_nothing {d e : Nat} : mat nothingF tk fo x d e ↔ e = x.size - d := by
  unfold mat nothingF
  simp [Nat.zero_testBit]
theorem mat_anchor {m d e : Nat} : mat (anchorF m) tk fo x d e ↔ (spotN (x.size - d) x.size &&& m ≠ 0 ∧ e = x.size - d) := by
  unfold mat anchorF
  simp [Nat.zero_testBit]
theorem spot_1 {i n : Nat} : spotN i n &&& 1 ≠ 0 ↔ i = 0 := by
  unfold spotN
  by_cases h1 : i = 0 <;> by_cases h2 : i = n
  · rw [if_pos h1, if_pos h2]; exact ⟨fun _ => h1, fun _ => by decide⟩
  · rw [if_pos h1, if_neg h2]; exact ⟨fun _ => h1, fun _ => by decide⟩
  · rw [if_neg h1, if_pos h2]; exact ⟨fun h => absurd rfl h, fun h => absurd h h1⟩
  · rw [if_neg h1, if_neg h2]; exact ⟨fun h => absurd rfl h, fun h => absurd h h1⟩
theorem spot_2 {i n : Nat} : spotN i n &&& 2 ≠ 0 ↔ i = n := by
  unfold spotN
  by_cases h1 : i = 0 <;> by_cases h2 : i = n
  · rw [if_pos h1, if_pos h2]; exact ⟨fun _ => h2, fun _ => by decide⟩
  · rw [if_pos h1, if_neg h2]; exact ⟨fun h => absurd rfl h, fun h => absurd h h2⟩
  · rw [if_neg h1, if_pos h2]; exact ⟨fun _ => h2, fun _ => by decide⟩
  · rw [if_neg h1, if_neg h2]; exact ⟨fun h => absurd rfl h, fun h => absurd h h2⟩

/-- One atom that takes a byte, and nothing behind it. -/
theorem mat_take {a : Nat} (hf : ∀ s, fo s a = 0) {d e : Nat} (hd : d ≤ x.size) : mat (fun _ => ⟨false, 2 ^ a, 2 ^ a⟩) tk fo x d e ↔ (0 < d ∧ (tk (byteN x (x.size - d))).testBit a = true ∧ e = x.size - d + 1) := by
  unfold mat
  simp only [two_testBit, Bool.false_eq_true, false_and, false_or, decide_eq_true_eq]
  constructor
  · rintro ⟨b, rfl, h⟩
    cases d with
    | zero => exact h.elim
    | succ d =>
      rw [way_s, hf] at h
      simp only [two_testBit, decide_true, true_and, Nat.zero_testBit, Bool.false_eq_true, false_and, exists_false, or_false] at h
      exact ⟨by omega, h.1, by omega⟩
  · rintro ⟨h1, h2, rfl⟩
    obtain ⟨k, rfl⟩ : ∃ k, d = k + 1 := ⟨d - 1, by omega⟩
    refine ⟨a, rfl, ?_⟩
    rw [way_s]
    refine ⟨h2, .inl ⟨?_, by omega⟩⟩
    simp [two_testBit]

/-- One or the other. -/
theorem mat_either (h1 : Cl A B q1 fo) (h2 : Cl B C q2 fo) {d e : Nat} : mat (eitherF q1 q2) tk fo x d e ↔ mat q1 tk fo x d e ∨ mat q2 tk fo x d e := by
  have w1 : ∀ d a e, A ≤ a → a < B → (way (fun s => (eitherF q1 q2 s).l) tk fo x d a e ↔ way (fun s => (q1 s).l) tk fo x d a e) := fun d a e ha hb =>
    way_congr (A := A) (B := B) h1.fo (fun _ _ _ _ => rfl) (fun _ _ _ _ => rfl) (fun s a ha hb => by
      unfold eitherF
      simp only [Nat.testBit_or]
      cases hq : (q2 s).l.testBit a with
      | false => simp
      | true => have := h2.l s a hq; omega) d a e ha hb
  have w2 : ∀ d a e, B ≤ a → a < C → (way (fun s => (eitherF q1 q2 s).l) tk fo x d a e ↔ way (fun s => (q2 s).l) tk fo x d a e) := fun d a e ha hb =>
    way_congr (A := B) (B := C) h2.fo (fun _ _ _ _ => rfl) (fun _ _ _ _ => rfl) (fun s a ha hb => by
      unfold eitherF
      simp only [Nat.testBit_or]
      cases hq : (q1 s).l.testBit a with
      | false => simp
      | true => have := h1.l s a hq; omega) d a e ha hb
  unfold mat
  constructor
  · rintro (⟨g1, g2⟩ | ⟨b, g1, g2⟩)
    · unfold eitherF at g1
      simp only [Bool.or_eq_true] at g1
      rcases g1 with g1 | g1
      · exact .inl (.inl ⟨g1, g2⟩)
      · exact .inr (.inl ⟨g1, g2⟩)
    · have g1' := g1
      unfold eitherF at g1'
      simp only [Nat.testBit_or, Bool.or_eq_true] at g1'
      rcases g1' with g | g
      · have hb := h1.f _ b g
        exact .inl (.inr ⟨b, g, (w1 d b e hb.1 hb.2).1 g2⟩)
      · have hb := h2.f _ b g
        exact .inr (.inr ⟨b, g, (w2 d b e hb.1 hb.2).1 g2⟩)
  · rintro ((⟨g1, g2⟩ | ⟨b, g1, g2⟩) | (⟨g1, g2⟩ | ⟨b, g1, g2⟩))
    · exact .inl ⟨by unfold eitherF; simp [g1], g2⟩
    · have hb := h1.f _ b g1
      exact .inr ⟨b, by unfold eitherF; simp [g1], (w1 d b e hb.1 hb.2).2 g2⟩
    · exact .inl ⟨by unfold eitherF; simp [g1], g2⟩
    · have hb := h2.f _ b g1
      exact .inr ⟨b, by unfold eitherF; simp [g1], (w2 d b e hb.1 hb.2).2 g2⟩

/-- One behind the other. -/
theorem way_join (h1 : Cl A B q1 fo) (h2 : Cl B C q2 fo) : ∀ d a e, A ≤ a → a < B → d ≤ x.size →
    (way (fun s => (joinF q1 q2 s).l) tk (tieP fo q1 q2) x d a e ↔ ∃ k, way (fun s => (q1 s).l) tk fo x d a k ∧ mat q2 tk fo x (x.size - k) e) := by
  have l2 : ∀ s a, B ≤ a → (q1 s).l.testBit a = false := fun s a ha => by
    cases hq : (q1 s).l.testBit a with
    | false => rfl
    | true => have := h1.l s a hq; omega
  have w2 : ∀ d a e, B ≤ a → a < C → (way (fun s => (joinF q1 q2 s).l) tk (tieP fo q1 q2) x d a e ↔ way (fun s => (q2 s).l) tk fo x d a e) := fun d a e ha hb => by
    refine (way_congr (A := B) (B := C) (fo := fo) (tk := tk) h2.fo (fun _ _ _ _ => rfl) (fun s a ha hb => ?_) (fun s a ha hb => ?_) d a e ha hb).symm
    · unfold tieP; rw [if_neg (by rw [l2 s a ha]; decide)]
    · unfold joinF joinedF
      simp only
      split
      · rw [Nat.testBit_or, l2 s a ha, Bool.or_false]
      · rfl
  intro d
  induction d with
  | zero =>
    intro a e _ _ _
    constructor
    · intro h; exact h.elim
    · rintro ⟨k, h, -⟩; exact h.elim
  | succ d ih =>
    intro a e ha hb hd
    have hll : ∀ s, (joinF q1 q2 s).l.testBit a = ((q2 s).e && (q1 s).l.testBit a) := fun s => by
      have hq2 : (q2 s).l.testBit a = false := by
        cases hq : (q2 s).l.testBit a with
        | false => rfl
        | true => have := h2.l s a hq; omega
      unfold joinF joinedF
      simp only
      cases hx : (q2 s).e with
      | true => simp [hq2]
      | false => simp [hq2]
    rw [way_s, hll]
    have hsz : x.size - (x.size - d) = d := by omega
    constructor
    · rintro ⟨g0, ⟨g1, rfl⟩ | ⟨b, g1, g2⟩⟩
      · rw [Bool.and_eq_true] at g1
        refine ⟨x.size - d, ⟨g0, .inl ⟨g1.2, rfl⟩⟩, .inl ⟨?_, by omega⟩⟩
        rw [hsz]; exact g1.1
      · unfold tieP at g1
        have old : ∀ b, (fo (spotN (x.size - d) x.size) a).testBit b = true → way (fun s => (joinF q1 q2 s).l) tk (tieP fo q1 q2) x d b e → ∃ k, way (fun s => (q1 s).l) tk fo x (d + 1) a k ∧ mat q2 tk fo x (x.size - k) e := fun b g g' => by
          have hbb := h1.fo _ a b ha hb g
          obtain ⟨k, k1, k2⟩ := (ih b e hbb.1 hbb.2 (by omega)).1 g'
          exact ⟨k, ⟨g0, .inr ⟨b, g, k1⟩⟩, k2⟩
        by_cases hl : (q1 (spotN (x.size - d) x.size)).l.testBit a = true
        · rw [if_pos hl, Nat.testBit_or, Bool.or_eq_true] at g1
          rcases g1 with g1 | g1
          · exact old b g1 g2
          · have hbb := h2.f _ b g1
            refine ⟨x.size - d, ⟨g0, .inl ⟨hl, rfl⟩⟩, .inr ⟨b, ?_, ?_⟩⟩
            · rw [hsz]; exact g1
            · rw [hsz]; exact (w2 d b e hbb.1 hbb.2).1 g2
        · rw [if_neg hl] at g1
          exact old b g1 g2
    · rintro ⟨k, ⟨g0, ⟨g1, rfl⟩ | ⟨b, g1, g2⟩⟩, g3⟩
      · refine ⟨g0, ?_⟩
        rcases g3 with ⟨g3, g4⟩ | ⟨b, g3, g4⟩
        · rw [hsz] at g3 g4
          exact .inl ⟨by rw [g3, g1]; rfl, g4⟩
        · rw [hsz] at g3 g4
          have hbb := h2.f _ b g3
          refine .inr ⟨b, ?_, (w2 d b e hbb.1 hbb.2).2 g4⟩
          unfold tieP
          rw [if_pos g1, Nat.testBit_or, g3, Bool.or_true]
      · have hbb := h1.fo _ a b ha hb g1
        exact ⟨g0, .inr ⟨b, tie_more q2 _ _ _ g1, (ih b e hbb.1 hbb.2 (by omega)).2 ⟨k, g2, g3⟩⟩⟩

theorem mat_join (h1 : Cl A B q1 fo) (h2 : Cl B C q2 fo) {d e : Nat} (hd : d ≤ x.size) : mat (joinF q1 q2) tk (tieP fo q1 q2) x d e ↔ ∃ k, mat q1 tk fo x d k ∧ mat q2 tk fo x (x.size - k) e := by
  have l2 : ∀ s a, B ≤ a → (q1 s).l.testBit a = false := fun s a ha => by
    cases hq : (q1 s).l.testBit a with
    | false => rfl
    | true => have := h1.l s a hq; omega
  have w2 : ∀ d a e, B ≤ a → a < C → (way (fun s => (joinF q1 q2 s).l) tk (tieP fo q1 q2) x d a e ↔ way (fun s => (q2 s).l) tk fo x d a e) := fun d a e ha hb => by
    refine (way_congr (A := B) (B := C) (fo := fo) (tk := tk) h2.fo (fun _ _ _ _ => rfl) (fun s a ha hb => ?_) (fun s a ha hb => ?_) d a e ha hb).symm
    · unfold tieP; rw [if_neg (by rw [l2 s a ha]; decide)]
    · unfold joinF joinedF
      simp only
      split
      · rw [Nat.testBit_or, l2 s a ha, Bool.or_false]
      · rfl
  have hsz : x.size - (x.size - d) = d := by omega
  have fj : ∀ b, (joinF q1 q2 (spotN (x.size - d) x.size)).f.testBit b = true ↔ (q1 (spotN (x.size - d) x.size)).f.testBit b = true ∨ ((q1 (spotN (x.size - d) x.size)).e = true ∧ (q2 (spotN (x.size - d) x.size)).f.testBit b = true) := fun b => by
    unfold joinF joinedF
    simp only
    cases hx : (q1 (spotN (x.size - d) x.size)).e with
    | true => simp [Nat.testBit_or]
    | false => simp
  have ej : (joinF q1 q2 (spotN (x.size - d) x.size)).e = ((q1 (spotN (x.size - d) x.size)).e && (q2 (spotN (x.size - d) x.size)).e) := rfl
  constructor
  · rintro (⟨g1, g2⟩ | ⟨b, g1, g2⟩)
    · rw [ej, Bool.and_eq_true] at g1
      exact ⟨x.size - d, .inl ⟨g1.1, rfl⟩, .inl ⟨by rw [hsz]; exact g1.2, by omega⟩⟩
    · rcases (fj b).1 g1 with g | ⟨g, g'⟩
      · have hbb := h1.f _ b g
        obtain ⟨k, k1, k2⟩ := (way_join h1 h2 d b e hbb.1 hbb.2 hd).1 g2
        exact ⟨k, .inr ⟨b, g, k1⟩, k2⟩
      · have hbb := h2.f _ b g'
        exact ⟨x.size - d, .inl ⟨g, rfl⟩, .inr ⟨b, by rw [hsz]; exact g', by rw [hsz]; exact (w2 d b e hbb.1 hbb.2).1 g2⟩⟩
  · rintro ⟨k, ⟨g1, rfl⟩ | ⟨b, g1, g2⟩, g3⟩
    · rcases g3 with ⟨g3, g4⟩ | ⟨b, g3, g4⟩
      · rw [hsz] at g3 g4
        exact .inl ⟨by rw [ej, g1, g3]; rfl, g4⟩
      · rw [hsz] at g3 g4
        have hbb := h2.f _ b g3
        exact .inr ⟨b, (fj b).2 (.inr ⟨g1, g3⟩), (w2 d b e hbb.1 hbb.2).2 g4⟩
    · have hbb := h1.f _ b g1
      exact .inr ⟨b, (fj b).2 (.inl g1), (way_join h1 h2 d b e hbb.1 hbb.2 hd).2 ⟨k, g2, g3⟩⟩

/-- n times, one behind the other. -/
def chain (R : Nat → Nat → Prop) : Nat → Nat → Nat → Prop
  | 0, i, j => i = j
  | n + 1, i, j => ∃ k, R i k ∧ chain R n k j
def Star (R : Nat → Nat → Prop) (i j : Nat) : Prop := ∃ n, chain R n i j

theorem Star.refl {R : Nat → Nat → Prop} (i : Nat) : Star R i i := ⟨0, rfl⟩
theorem Star.head {R : Nat → Nat → Prop} {i k j : Nat} (h : R i k) (h2 : Star R k j) : Star R i j := by obtain ⟨n, h2⟩ := h2; exact ⟨n + 1, k, h, h2⟩

/-- A way that ends may go on with another match. -/
theorem way_on {L : Nat → Nat} (hL : ∀ s, L s = (q s).l) (e2 : Nat) : ∀ d a k, d ≤ x.size → way L tk (tieP fo q q) x d a k →
    (∃ b, (q (spotN k x.size)).f.testBit b = true ∧ way L tk (tieP fo q q) x (x.size - k) b e2) → way L tk (tieP fo q q) x d a e2
  | 0, _, _, _, h, _ => h.elim
  | d + 1, a, k, hd, h, hb => by
    refine ⟨h.1, ?_⟩
    rcases h.2 with ⟨g1, rfl⟩ | ⟨c, g1, g2⟩
    · obtain ⟨b, b1, b2⟩ := hb
      rw [show x.size - (x.size - d) = d by omega] at b2
      refine .inr ⟨b, ?_, b2⟩
      rw [hL] at g1
      unfold tieP
      rw [if_pos g1, Nat.testBit_or, b1, Bool.or_true]
    · exact .inr ⟨c, g1, way_on hL e2 d c k (by omega) g2 hb⟩

/-- Repeated. -/
theorem mat_repeat {d e : Nat} (hd : d ≤ x.size) : mat q tk (tieP fo q q) x d e ↔ ∃ k, mat q tk fo x d k ∧ Star (fun i j => i ≤ x.size ∧ mat q tk fo x (x.size - i) j) k e := by
  have fwd : ∀ d a e, d ≤ x.size → way (fun s => (q s).l) tk (tieP fo q q) x d a e → ∃ k, way (fun s => (q s).l) tk fo x d a k ∧ Star (fun i j => i ≤ x.size ∧ mat q tk fo x (x.size - i) j) k e := by
    intro d
    induction d with
    | zero => intro a e _ h; exact h.elim
    | succ d ih =>
      intro a e hd h
      rcases h.2 with ⟨g1, rfl⟩ | ⟨b, g1, g2⟩
      · exact ⟨x.size - d, ⟨h.1, .inl ⟨g1, rfl⟩⟩, Star.refl _⟩
      · obtain ⟨k, k1, k2⟩ := ih b e (by omega) g2
        unfold tieP at g1
        by_cases hl : (q (spotN (x.size - d) x.size)).l.testBit a = true
        · rw [if_pos hl, Nat.testBit_or, Bool.or_eq_true] at g1
          rcases g1 with g1 | g1
          · exact ⟨k, ⟨h.1, .inr ⟨b, g1, k1⟩⟩, k2⟩
          · refine ⟨x.size - d, ⟨h.1, .inl ⟨hl, rfl⟩⟩, Star.head ⟨by omega, ?_⟩ k2⟩
            rw [show x.size - (x.size - d) = d by omega]
            exact .inr ⟨b, g1, k1⟩
        · rw [if_neg hl] at g1
          exact ⟨k, ⟨h.1, .inr ⟨b, g1, k1⟩⟩, k2⟩
  have bwd : ∀ n k, chain (fun i j => i ≤ x.size ∧ mat q tk fo x (x.size - i) j) n k e → ∀ d a, d ≤ x.size → way (fun s => (q s).l) tk (tieP fo q q) x d a k → way (fun s => (q s).l) tk (tieP fo q q) x d a e := by
    intro n
    induction n with
    | zero => intro k h d a _ hw; cases h; exact hw
    | succ n ih =>
      rintro k ⟨k2, ⟨hk, hm⟩, hc⟩ d a hd hw
      rcases hm with ⟨m1, m2⟩ | ⟨b, m1, m2⟩
      · rw [show x.size - (x.size - k) = k by omega] at m2
        subst m2
        exact ih _ hc d a hd hw
      · rw [show x.size - (x.size - k) = k by omega] at m1
        exact ih _ hc d a hd (way_on (fun _ => rfl) k2 d a k hd hw ⟨b, m1, way_more (tie_more q) _ _ _ m2⟩)
  constructor
  · rintro (h | ⟨b, h1, h2⟩)
    · exact ⟨e, .inl h, Star.refl e⟩
    · obtain ⟨k, k1, k2⟩ := fwd d b e hd h2
      exact ⟨k, .inr ⟨b, h1, k1⟩, k2⟩
  · rintro ⟨k, hm, n, hc⟩
    have go : ∀ n d k, d ≤ x.size → mat q tk fo x d k → chain (fun i j => i ≤ x.size ∧ mat q tk fo x (x.size - i) j) n k e → mat q tk (tieP fo q q) x d e := by
      intro n
      induction n with
      | zero => intro d k hd hm hc; cases hc; exact mat_plus hm
      | succ n ih =>
        intro d k hd hm hc
        rcases hm with ⟨g1, rfl⟩ | ⟨b, g1, g2⟩
        · obtain ⟨k2, ⟨hk, hm2⟩, hc2⟩ := hc
          rw [show x.size - (x.size - d) = d by omega] at hm2
          exact ih d k2 hd hm2 hc2
        · exact .inr ⟨b, g1, bwd _ k hc d b hd (way_more (tie_more q) _ _ _ g2)⟩
    exact go n d k hd hm hc

end
end Go.Proofs.YtakbfoegkjaphaaGreatDoor

namespace Go.Proofs.YtakbfoegkjaphaaGreatDoor

/-- Does the byte c stand in a class's text, from i to hi? -/
def listedL (t : ByteArray) (hi c : Nat) : Nat → Nat → Bool → Bool
  | 0, _, b => b
  | n + 1, i, b =>
    if i < hi then
      if (if byteN t i = 92 then i + 1 else i) + 1 + 1 < hi ∧ byteN t ((if byteN t i = 92 then i + 1 else i) + 1) = 45 then
        listedL t hi c n ((if byteN t ((if byteN t i = 92 then i + 1 else i) + 1 + 1) = 92 then (if byteN t i = 92 then i + 1 else i) + 1 + 1 + 1 else (if byteN t i = 92 then i + 1 else i) + 1 + 1) + 1)
          (b || (decide (byteN t (if byteN t i = 92 then i + 1 else i) ≤ c) && decide (c ≤ byteN t (if byteN t ((if byteN t i = 92 then i + 1 else i) + 1 + 1) = 92 then (if byteN t i = 92 then i + 1 else i) + 1 + 1 + 1 else (if byteN t i = 92 then i + 1 else i) + 1 + 1))))
      else listedL t hi c n ((if byteN t i = 92 then i + 1 else i) + 1) (b || (decide (byteN t (if byteN t i = 92 then i + 1 else i) ≤ c) && decide (c ≤ byteN t (if byteN t i = 92 then i + 1 else i))))
    else b
/-- The text of a class, from lo to hi, with ^ ahead or not. -/
def listedF (t : ByteArray) (lo hi c : Nat) : Bool :=
  if lo < hi ∧ byteN t lo = 94 then !(listedL t hi c (hi - lo) (lo + 1) false) else listedL t hi c (hi - lo) lo false
/-- Does the atom from lo to hi take the byte c? -/
def oneF (t : ByteArray) (lo hi c : Nat) : Bool :=
  if byteN t lo = 46 then true else if byteN t lo = 91 then listedF t (lo + 1) (hi - 1) c else if byteN t lo = 92 then decide (byteN t (lo + 1) = c) else decide (byteN t lo = c)

/-- From i to j within a class: no closing bracket but behind a backslash. -/
def units (t : ByteArray) : Nat → Nat → Nat → Prop
  | 0, i, j => i = j
  | n + 1, i, j => i < j ∧ byteN t i ≠ 93 ∧ units t n (if byteN t i = 92 then i + 2 else i + 1) j

abbrev RelN := Nat → Nat → Prop
def sameN (N : Nat) : RelN := fun i j => i ≤ N ∧ j = i
def behindN (R1 R2 : RelN) : RelN := fun i j => ∃ k, R1 i k ∧ R2 k j
def eitherN (R1 R2 : RelN) : RelN := fun i j => R1 i j ∨ R2 i j
def oftenN (N : Nat) (R : RelN) : RelN := fun i j => i ≤ N ∧ Star R i j
/-- A mark's work. -/
def markN (N c : Nat) (R : RelN) : RelN := if c = 42 then oftenN N R else if c = 43 then behindN R (oftenN N R) else eitherN R (sameN N)
def isMark (c : Nat) : Prop := c = 42 ∨ c = 43 ∨ c = 63

section
variable (t x : ByteArray)

def marksD : Nat → Nat → Nat → RelN → RelN → Prop
  | 0, j, hi, R1, R => j = hi ∧ R = R1
  | n + 1, j, hi, R1, R => j < hi ∧ isMark (byteN t j) ∧ marksD n (j + 1) hi (markN x.size (byteN t j) R1) R
def partD (D : Nat → Nat → RelN → Prop) (lo hi : Nat) (R : RelN) : Prop := ∃ j R1 n, lo < j ∧ D lo j R1 ∧ marksD t x n j hi R1 R
def rowD (D : Nat → Nat → RelN → Prop) : Nat → Nat → Nat → RelN → Prop
  | 0, lo, hi, R => lo = hi ∧ R = sameN x.size
  | n + 1, lo, hi, R => ∃ mid R1 R2, partD t x D lo mid R1 ∧ (mid < hi → ¬ isMark (byteN t mid)) ∧ rowD D n mid hi R2 ∧ R = behindN R1 R2
def choiceD (D : Nat → Nat → RelN → Prop) : Nat → Nat → Nat → RelN → Prop
  | 0, _, _, _ => False
  | n + 1, lo, hi, R => ∃ mid R1 k, rowD t x D k lo mid R1 ∧ ((mid = hi ∧ R = R1) ∨ (mid < hi ∧ byteN t mid = 124 ∧ ∃ R2, choiceD D n (mid + 1) hi R2 ∧ R = eitherN R1 R2))
/-- An atom that takes one byte: where it ends. -/
def spanD (lo hi : Nat) : Prop := (byteN t lo = 92 ∧ hi = lo + 2) ∨ (byteN t lo = 91 ∧ lo + 2 ≤ hi ∧ byteN t (hi - 1) = 93 ∧ ∃ n, units t n (lo + 1) (hi - 1)) ∨ (byteN t lo ≠ 92 ∧ byteN t lo ≠ 91 ∧ hi = lo + 1)
def atomD : Nat → Nat → Nat → RelN → Prop
  | 0, _, _, _ => False
  | n + 1, lo, hi, R => hi ≤ t.size ∧ lo < hi ∧ byteN t lo ≠ 41 ∧ byteN t lo ≠ 124 ∧ ¬ isMark (byteN t lo) ∧
      ((byteN t lo = 40 ∧ lo + 2 ≤ hi ∧ byteN t (hi - 1) = 41 ∧ ∃ k, choiceD t x (atomD n) k (lo + 1) (hi - 1) R) ∨
      (byteN t lo = 94 ∧ hi = lo + 1 ∧ R = fun i j => i = 0 ∧ j = 0) ∨
      (byteN t lo = 36 ∧ hi = lo + 1 ∧ R = fun i j => i = x.size ∧ j = x.size) ∨
      (byteN t lo ≠ 40 ∧ byteN t lo ≠ 94 ∧ byteN t lo ≠ 36 ∧ spanD t lo hi ∧ R = fun i j => i < x.size ∧ oneF t lo hi (byteN x i) = true ∧ j = i + 1))
end

section
variable {t x : ByteArray} {D D' : Nat → Nat → RelN → Prop}

theorem partD_mono (h : ∀ lo hi R, D lo hi R → D' lo hi R) {lo hi : Nat} {R : RelN} (hp : partD t x D lo hi R) : partD t x D' lo hi R := by
  obtain ⟨j, R1, n, h0, h1, h2⟩ := hp
  exact ⟨j, R1, n, h0, h _ _ _ h1, h2⟩
theorem rowD_mono (h : ∀ lo hi R, D lo hi R → D' lo hi R) : ∀ n lo hi R, rowD t x D n lo hi R → rowD t x D' n lo hi R
  | 0, _, _, _, hr => hr
  | n + 1, lo, hi, R, ⟨mid, R1, R2, h1, h2, h3, h4⟩ => ⟨mid, R1, R2, partD_mono h h1, h2, rowD_mono h n _ _ _ h3, h4⟩
theorem choiceD_mono (h : ∀ lo hi R, D lo hi R → D' lo hi R) : ∀ n lo hi R, choiceD t x D n lo hi R → choiceD t x D' n lo hi R
  | 0, _, _, _, hr => hr
  | n + 1, lo, hi, R, ⟨mid, R1, k, h1, h2⟩ => ⟨mid, R1, k, rowD_mono h k _ _ _ h1, h2.imp id fun ⟨a, b, R2, c, d⟩ => ⟨a, b, R2, choiceD_mono h n _ _ _ c, d⟩⟩
theorem atomD_up : ∀ n lo hi R, atomD t x n lo hi R → atomD t x (n + 1) lo hi R
  | 0, _, _, _, h => h.elim
  | n + 1, lo, hi, R, h => by
    rw [atomD] at h ⊢
    obtain ⟨h1, h2, h3, h4, h5, h6⟩ := h
    refine ⟨h1, h2, h3, h4, h5, h6.imp (fun ⟨a, b, c, k, d⟩ => ⟨a, b, c, k, choiceD_mono (atomD_up n) k _ _ _ d⟩) id⟩

theorem marksD_snoc : ∀ n j k R1 R c, marksD t x n j k R1 R → isMark (byteN t k) → c = byteN t k → marksD t x (n + 1) j (k + 1) R1 (markN x.size c R)
  | 0, j, k, R1, R, c, ⟨h1, h2⟩, hm, hc => by
    subst h1 h2 hc
    exact ⟨Nat.lt_succ_self _, hm, rfl, rfl⟩
  | n + 1, j, k, R1, R, c, ⟨h1, h2, h3⟩, hm, hc => ⟨by omega, h2, marksD_snoc n (j + 1) k _ R c h3 hm hc⟩

theorem behind_assoc (R1 R2 R3 : RelN) : behindN (behindN R1 R2) R3 = behindN R1 (behindN R2 R3) := by
  funext i j
  apply propext
  constructor
  · rintro ⟨k, ⟨l, h1, h2⟩, h3⟩; exact ⟨l, h1, k, h2, h3⟩
  · rintro ⟨l, h1, k, h2, h3⟩; exact ⟨k, ⟨l, h1, h2⟩, h3⟩
theorem either_assoc (R1 R2 R3 : RelN) : eitherN (eitherN R1 R2) R3 = eitherN R1 (eitherN R2 R3) := by
  funext i j
  exact propext or_assoc

/-- Relations of the places up to N, from the left to the right. -/
def BdN (N : Nat) (R : RelN) : Prop := ∀ i j, R i j → i ≤ j ∧ j ≤ N

theorem behind_same_left {N : Nat} {R : RelN} (h : ∀ i j, R i j → i ≤ N) : behindN (sameN N) R = R := by
  funext i j
  apply propext
  constructor
  · rintro ⟨k, ⟨_, rfl⟩, h2⟩; exact h2
  · intro h2; exact ⟨i, ⟨h i j h2, rfl⟩, h2⟩
theorem behind_same_right {N : Nat} {R : RelN} (h : BdN N R) : behindN R (sameN N) = R := by
  funext i j
  apply propext
  constructor
  · rintro ⟨k, h1, _, rfl⟩; exact h1
  · intro h2; exact ⟨j, h2, (h i j h2).2, rfl⟩

/-- One part more. -/
theorem rowD_snoc : ∀ n lo mid hi R1 R2, rowD t x D n lo mid R1 → partD t x D mid hi R2 → (∀ i j, R2 i j → i ≤ x.size) → BdN x.size R2 → lo ≤ mid → (lo < mid → ¬ isMark (byteN t mid)) →
    rowD t x D (n + 1) lo hi (behindN R1 R2)
  | 0, lo, mid, hi, R1, R2, ⟨h1, h2⟩, hp, hb, hb', hle, hm => by
    subst h1 h2
    exact ⟨hi, R2, sameN x.size, hp, fun h => absurd h (Nat.lt_irrefl _), ⟨rfl, rfl⟩, by rw [behind_same_left hb, behind_same_right hb']⟩
  | n + 1, lo, mid, hi, R1, R2, ⟨m2, Ra, Rb, h1, h2, h3, h4⟩, hp, hb, hb', hle, hm => by
    have hlt : lo < m2 := by
      obtain ⟨j, Rx, k, g0, g1, g2⟩ := h1
      have : ∀ k j m R R', marksD t x k j m R R' → j ≤ m := by
        intro k
        induction k with
        | zero => intro j m R R' h; exact Nat.le_of_eq h.1
        | succ k ih => intro j m R R' h; exact Nat.le_of_lt h.1
      have := this k j m2 Rx Ra g2
      omega
    have hrow_le : ∀ n lo hi R, rowD t x D n lo hi R → lo ≤ hi := by
      intro n
      induction n with
      | zero => intro lo hi R h; exact Nat.le_of_eq h.1
      | succ n ih =>
        rintro lo hi R ⟨m, Rx, Ry, ⟨j, Rz, k, g0, g1, g2⟩, _, g4, _⟩
        have : ∀ k j m R R', marksD t x k j m R R' → j ≤ m := by
          intro k
          induction k with
          | zero => intro j m R R' h; exact Nat.le_of_eq h.1
          | succ k ih => intro j m R R' h; exact Nat.le_of_lt h.1
        have := this k j m Rz Rx g2
        have := ih m hi Ry g4
        omega
    have hm2 := hrow_le n m2 mid Rb h3
    refine ⟨m2, Ra, behindN Rb R2, h1, fun h => ?_, rowD_snoc n m2 mid hi Rb R2 h3 hp hb hb' hm2 (fun h => hm (by omega)), by rw [h4, behind_assoc]⟩
    rcases Nat.eq_or_lt_of_le hm2 with e | e
    · rw [e]; exact hm (by omega)
    · exact h2 e

/-- One alternative more. -/
theorem choiceD_snoc : ∀ n lo mid hi R1 R2 k, choiceD t x D n lo mid R1 → byteN t mid = 124 → mid < hi → rowD t x D k (mid + 1) hi R2 → choiceD t x D (n + 1) lo hi (eitherN R1 R2)
  | 0, _, _, _, _, _, _, h, _, _, _ => h.elim
  | n + 1, lo, mid, hi, R1, R2, k, ⟨m, Ra, k', h1, h2⟩, hb, hlt, hr => by
    rcases h2 with ⟨rfl, rfl⟩ | ⟨a, b, Rb, c, rfl⟩
    · exact ⟨m, R1, k', h1, .inr ⟨hlt, hb, R2, ⟨hi, R2, k, hr, .inl ⟨rfl, rfl⟩⟩, rfl⟩⟩
    · exact ⟨m, Ra, k', h1, .inr ⟨by omega, b, eitherN Rb R2, choiceD_snoc n (m + 1) mid hi Rb R2 k c hb hlt hr, by rw [either_assoc]⟩⟩

end
end Go.Proofs.YtakbfoegkjaphaaGreatDoor

namespace Go.Proofs.YtakbfoegkjaphaaGreatDoor

section
variable {t : ByteArray} {s : St}

/-- Where a byte stands that may have a backslash ahead. -/
def escI (t : ByteArray) (i : Nat) : Nat := if byteN t i = 92 then i + 1 else i

theorem bound_val {l : Int} (hl : 0 ≤ l) (hr : (boundF t s l).2.fault = false) :
    s.fault = false ∧ s.pos < t.size ∧ byteN t s.pos ≠ 93 ∧ (boundF t s l).1 = (byteN t (escI t s.pos) : Int) ∧ (boundF t s l).2.pos = escI t s.pos + 1 ∧ escI t s.pos < t.size := by
  have hf : s.fault = false := by
    cases hf : s.fault with
    | false => rfl
    | true => rw [bound_fault hl hf] at hr; cases hr
  unfold escI
  unfold boundF at hr ⊢
  rcases peek_cases t s with e | ⟨c, hc, e⟩
  · have hs : skipF t s 92 = (false, s) := by unfold skipF; rw [if_neg (by rw [e]; decide)]
    rw [hs] at hr
    simp only at hr
    rw [e, if_neg (by decide), if_pos (by omega)] at hr
    cases hr
  · obtain ⟨_, h2, h3⟩ := peekQ_byte e
    by_cases c93 : c = 93
    · rw [if_pos (by rw [e]; omega)] at hr; cases hr
    · rw [if_neg (by rw [e]; omega)] at hr ⊢
      by_cases c92 : c = 92
      · have hs : skipF t s 92 = (true, advF s) := by unfold skipF; rw [if_pos (by rw [e]; omega)]
        rw [hs] at hr ⊢
        simp only at hr ⊢
        have h92 : byteN t s.pos = 92 := by omega
        rw [if_pos h92]
        rcases peek_cases t (advF s) with e1 | ⟨d, hd, e1⟩
        · rw [e1, if_pos (by omega)] at hr; cases hr
        · obtain ⟨_, g2, g3⟩ := peekQ_byte e1
          by_cases hlt : peekF t (advF s) < l
          · rw [if_pos hlt] at hr; cases hr
          · rw [if_neg hlt, e1]
            refine ⟨hf, h2, by omega, ?_, rfl, g2⟩
            show (d : Int) = _
            rw [← g3]; rfl
      · have hs : skipF t s 92 = (false, s) := by unfold skipF; rw [if_neg (by rw [e]; omega)]
        rw [hs] at hr ⊢
        simp only at hr ⊢
        have h92 : ¬ byteN t s.pos = 92 := by omega
        rw [if_neg h92]
        by_cases hlt : peekF t s < l
        · rw [if_pos hlt] at hr; cases hr
        · rw [if_neg hlt, e]
          exact ⟨hf, h2, by omega, by show (c : Int) = _; rw [h3], rfl, h2⟩

theorem peek_is {c : Nat} (hf : s.fault = false) : peekF t s = (c : Int) ↔ s.pos < t.size ∧ byteN t s.pos = c := by
  constructor
  · intro h; have := peekQ_byte h; exact this.2
  · rintro ⟨h1, h2⟩
    unfold peekF
    rw [hf]
    simp only [Bool.false_eq_true, if_false]
    rw [byteAt_eq h1, h2]
theorem closes_is (k : Nat) : closesF t k = true ↔ k < t.size ∧ byteN t k = 93 := by
  unfold closesF
  rw [decide_eq_true_eq]
  by_cases h : k < t.size
  · rw [byteAt_eq h]; constructor
    · intro e; exact ⟨h, by omega⟩
    · rintro ⟨_, e⟩; omega
  · rw [byteAt_end (by omega)]
    exact ⟨fun e => absurd e (by decide), fun e => absurd e.1 h⟩

/-- What an item is. -/
theorem item_val (P : Nat → Bool) (hr : (itemF t s P).2.fault = false) :
    s.fault = false ∧ s.pos < t.size ∧ byteN t s.pos ≠ 93 ∧
    ((escI t s.pos + 1 < t.size ∧ byteN t (escI t s.pos + 1) = 45 ∧ byteN t (escI t s.pos + 1 + 1) ≠ 93 ∧ (itemF t s P).2.pos = escI t (escI t s.pos + 1 + 1) + 1 ∧ (itemF t s P).1 = markF P (byteN t (escI t s.pos)) (byteN t (escI t (escI t s.pos + 1 + 1)))) ∨
     (¬ (escI t s.pos + 1 < t.size ∧ byteN t (escI t s.pos + 1) = 45 ∧ closesF t (escI t s.pos + 1 + 1) = false) ∧ (itemF t s P).2.pos = escI t s.pos + 1 ∧ (itemF t s P).1 = markF P (byteN t (escI t s.pos)) (byteN t (escI t s.pos)))) := by
  have hbf : (boundF t s 0).2.fault = false := by
    cases hf : (boundF t s 0).2.fault with
    | false => rfl
    | true =>
      unfold itemF at hr
      rw [if_neg (fun e => by rw [peek_fault' hf] at e; exact absurd e.1 (by decide))] at hr
      rw [hf] at hr; cases hr
  obtain ⟨a1, a2, a3, a4, a5, a6⟩ := bound_val (Int.le_refl 0) hbf
  refine ⟨a1, a2, a3, ?_⟩
  have hpk : peekF t (boundF t s 0).2 = 45 ↔ escI t s.pos + 1 < t.size ∧ byteN t (escI t s.pos + 1) = 45 := by
    have := peek_is (t := t) (s := (boundF t s 0).2) (c := 45) hbf
    rw [a5] at this; exact this
  unfold itemF at hr ⊢
  by_cases cr : peekF t (boundF t s 0).2 = 45 ∧ closesF t ((boundF t s 0).2.pos + 1) = false
  · rw [if_pos cr] at hr ⊢
    simp only at hr ⊢
    left
    have hcl := cr.2
    rw [a4] at hr ⊢
    obtain ⟨b1, b2, b3, b4, b5, b6⟩ := bound_val (s := advF (boundF t s 0).2) (by omega) hr
    have hp : (advF (boundF t s 0).2).pos = escI t s.pos + 1 + 1 := by show (boundF t s 0).2.pos + 1 = _; rw [a5]
    rw [hp] at b3 b4 b5
    have := hpk.1 cr.1
    exact ⟨this.1, this.2, b3, b5, by rw [b4]⟩
  · rw [if_neg cr] at hr ⊢
    simp only at hr ⊢
    right
    refine ⟨fun h => cr ⟨hpk.2 ⟨h.1, h.2.1⟩, by rw [a5]; exact h.2.2⟩, a5, by rw [a4]⟩

theorem classL_dash (n : Nat) (P : Nat → Bool) (hp : peekF t s = 45) (hc : closesF t (s.pos + 1) = true) (hr : (classLF t n P s).2.fault = false) (he : peekF t (classLF t n P s).2 = 93) : (classLF t n P s).2.pos = s.pos + 1 := by
  cases n with
  | zero => rw [classLF] at he; rw [hp] at he; exact absurd he (by decide)
  | succ n =>
    have hn := peek_ne (t := t) (s := s) (by rw [hp]; decide)
    rw [classLF, if_neg (by rw [hn.1, hp]; rintro (h | h); exact absurd h (by decide); exact absurd h (by decide))] at hr he ⊢
    have hif : (itemF t s P).2.fault = false := by
      cases hf : (itemF t s P).2.fault with
      | false => rfl
      | true => rw [classL_fault n _ _ hf] at hr; cases hr
    obtain ⟨_, a2, a3, a4⟩ := item_val P hif
    have hb : byteN t s.pos = 45 := (peekQ_byte (c := 45) (by rw [hp]; rfl)).2.2
    have he1 : escI t s.pos = s.pos := by unfold escI; rw [if_neg (by omega)]
    rw [he1] at a4
    have hcl := (closes_is _).1 hc
    have hpos : (itemF t s P).2.pos = s.pos + 1 := by
      rcases a4 with ⟨_, g2, _⟩ | ⟨_, g2, _⟩
      · omega
      · exact g2
    have hpk : peekF t (itemF t s P).2 = 93 := by
      have := (peek_is (t := t) (s := (itemF t s P).2) (c := 93) hif).2 (by rw [hpos]; exact hcl)
      rw [this]; rfl
    have : (classLF t n (itemF t s P).1 (itemF t s P).2).2 = (itemF t s P).2 := by
      cases n with
      | zero => rw [classLF]
      | succ n => rw [classLF, if_pos (.inr hpk)]
    rw [this, hpos]

theorem mark_val (P : Nat → Bool) (a b c : Nat) : markF P (a : Int) (b : Int) c = (P c || (decide (a ≤ c) && decide (c ≤ b))) := by
  unfold markF
  congr 2
  · exact decide_eq_decide.2 (by omega)
  · exact decide_eq_decide.2 (by omega)

theorem listedL_s (t : ByteArray) (hi c n i : Nat) (b : Bool) : listedL t hi c (n + 1) i b =
    if i < hi then
      if escI t i + 1 + 1 < hi ∧ byteN t (escI t i + 1) = 45 then listedL t hi c n (escI t (escI t i + 1 + 1) + 1) (b || (decide (byteN t (escI t i) ≤ c) && decide (c ≤ byteN t (escI t (escI t i + 1 + 1)))))
      else listedL t hi c n (escI t i + 1) (b || (decide (byteN t (escI t i) ≤ c) && decide (c ≤ byteN t (escI t i))))
    else b := rfl
theorem listedL_end (t : ByteArray) (hi c n i : Nat) (b : Bool) (h : hi ≤ i) : listedL t hi c n i b = b := by
  cases n with
  | zero => rfl
  | succ n => rw [listedL_s, if_neg (by omega)]

theorem unit_one {k i j : Nat} (h1 : i < j) (h2 : byteN t i ≠ 93) (h : units t k (escI t i + 1) j) : units t (k + 1) i j := by
  refine ⟨h1, h2, ?_⟩
  unfold escI at h
  split
  · rename_i hb; rw [if_pos hb] at h; exact h
  · rename_i hb; rw [if_neg hb] at h; exact h

theorem escI_ge (i : Nat) : i ≤ escI t i := by unfold escI; split <;> omega

theorem classL_val : ∀ (n : Nat) (P : Nat → Bool) (s : St), (classLF t n P s).2.fault = false → peekF t (classLF t n P s).2 = 93 →
    s.pos ≤ (classLF t n P s).2.pos ∧ (∃ k, units t k s.pos (classLF t n P s).2.pos) ∧ ∀ c f, (classLF t n P s).2.pos - s.pos ≤ f → (classLF t n P s).1 c = listedL t (classLF t n P s).2.pos c f s.pos (P c)
  | 0, P, s, hr, he => ⟨Nat.le_refl _, ⟨0, rfl⟩, fun c f _ => (listedL_end t _ c f _ _ (Nat.le_refl _)).symm⟩
  | n + 1, P, s, hr, he => by
    by_cases hc : s.fault = true ∨ peekF t s = 93
    · have e : classLF t (n + 1) P s = (P, s) := by rw [classLF, if_pos hc]
      rw [e]
      exact ⟨Nat.le_refl _, ⟨0, rfl⟩, fun c f _ => (listedL_end t _ c f _ _ (Nat.le_refl _)).symm⟩
    · have e : classLF t (n + 1) P s = classLF t n (itemF t s P).1 (itemF t s P).2 := by rw [classLF, if_neg hc]
      rw [e] at hr he ⊢
      have hif : (itemF t s P).2.fault = false := by
        cases hf : (itemF t s P).2.fault with
        | false => rfl
        | true => rw [classL_fault n _ _ hf] at hr; cases hr
      obtain ⟨i1, ⟨k, i2⟩, i3⟩ := classL_val n _ _ hr he
      obtain ⟨a1, a2, a3, a4⟩ := item_val P hif
      have hd := fun h1 h2 => classL_dash (s := (itemF t s P).2) n (itemF t s P).1 h1 h2 hr he
      have hsz : (classLF t n (itemF t s P).1 (itemF t s P).2).2.pos < t.size := (peekQ_byte (c := 93) (by rw [he]; rfl)).2.1
      generalize (classLF t n (itemF t s P).1 (itemF t s P).2).2.pos = hi at *
      have g0 := escI_ge (t := t) s.pos
      have g1 := escI_ge (t := t) (escI t s.pos + 1 + 1)
      rcases a4 with ⟨b1, b2, b3, b4, b5⟩ | ⟨b1, b2, b3⟩
      · rw [b4] at i1 i2 i3
        refine ⟨by omega, ⟨k + 1 + 1 + 1, unit_one (by omega) a3 (unit_one (by omega) (by omega) ?_)⟩, fun c f hf => ?_⟩
        · have : escI t (escI t s.pos + 1) = escI t s.pos + 1 := by
            show (if byteN t (escI t s.pos + 1) = 92 then _ else _) = _
            rw [if_neg (by omega)]
          rw [this]
          exact unit_one (by omega) b3 i2
        · obtain ⟨f', rfl⟩ : ∃ f', f = f' + 1 := ⟨f - 1, by omega⟩
          rw [listedL_s, if_pos (by omega), if_pos ⟨by omega, b2⟩, i3 c f' (by omega), b5, mark_val]
      · rw [b2] at i1 i2 i3
        refine ⟨by omega, ⟨k + 1, unit_one (by omega) a3 i2⟩, fun c f hf => ?_⟩
        obtain ⟨f', rfl⟩ : ∃ f', f = f' + 1 := ⟨f - 1, by omega⟩
        have hno : ¬ (escI t s.pos + 1 + 1 < hi ∧ byteN t (escI t s.pos + 1) = 45) := by
          rintro ⟨c1, c2⟩
          have k1 : peekF t (itemF t s P).2 = 45 := (peek_is (c := 45) hif).2 (by rw [b2]; exact ⟨by omega, c2⟩)
          have k2 : closesF t ((itemF t s P).2.pos + 1) = true := by
            rw [b2]
            cases hx : closesF t (escI t s.pos + 1 + 1) with
            | true => rfl
            | false => exact absurd ⟨by omega, c2, hx⟩ b1
          have := hd k1 k2
          rw [b2] at this
          omega
        rw [listedL_s, if_pos (by omega), if_neg hno, i3 c f' (by omega), b3, mark_val]

end
end Go.Proofs.YtakbfoegkjaphaaGreatDoor

