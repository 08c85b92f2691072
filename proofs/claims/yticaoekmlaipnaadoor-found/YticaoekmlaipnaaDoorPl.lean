/-
  The ends that the matcher tells are the farthest ends of ways through the pattern: plain functions alone.
-/
import Derived.Test.YticaoekmlaipnaaDoorPe
set_option linter.unusedSimpArgs false
set_option linter.unusedVariables false
namespace Go.Proofs.YticaoekmlaipnaaDoor

theorem le_farF {r : Nat → Int} {l : List Nat} {least e : Int} : e ≤ farF r least l ↔ e ≤ least ∨ ∃ a, a ∈ l ∧ e ≤ r a := by
  unfold farF
  induction l generalizing least with
  | nil => simp
  | cons a l ih =>
    simp only [List.foldl_cons]
    rw [ih]
    constructor
    · rintro (h | ⟨b, hb, h⟩)
      · rcases Int.le_total least (r a) with h2 | h2
        · exact .inr ⟨a, by simp, by omega⟩
        · exact .inl (by omega)
      · exact .inr ⟨b, by simp [hb], h⟩
    · rintro (h | ⟨b, hb, h⟩)
      · exact .inl (by omega)
      · rcases List.mem_cons.1 hb with rfl | hb
        · exact .inl (by omega)
        · exact .inr ⟨b, hb, h⟩

/-- There is a way that takes the byte d ahead of the end with the atom a, and ends at e. L: the atoms at which it may end. -/
def way (L : Nat → Nat) (tk : Nat → Nat) (fo : Nat → Nat → Nat) (x : ByteArray) : Nat → Nat → Nat → Prop
  | 0, _, _ => False
  | d + 1, a, e => (tk (byteN x (x.size - (d + 1)))).testBit a = true ∧
      (((L (spotN (x.size - d) x.size)).testBit a = true ∧ e = x.size - d) ∨ ∃ b, (fo (spotN (x.size - d) x.size) a).testBit b = true ∧ way L tk fo x d b e)

theorem way_z {L : Nat → Nat} {tk : Nat → Nat} {fo : Nat → Nat → Nat} {x : ByteArray} {a e : Nat} : way L tk fo x 0 a e ↔ False := Iff.rfl
theorem way_s {L : Nat → Nat} {tk : Nat → Nat} {fo : Nat → Nat → Nat} {x : ByteArray} {d a e : Nat} : way L tk fo x (d + 1) a e ↔ (tk (byteN x (x.size - (d + 1)))).testBit a = true ∧
      (((L (spotN (x.size - d) x.size)).testBit a = true ∧ e = x.size - d) ∨ ∃ b, (fo (spotN (x.size - d) x.size) a).testBit b = true ∧ way L tk fo x d b e) := Iff.rfl

/-- The piece q matches from d ahead of the end to e. -/
def mat (q : Piece) (tk : Nat → Nat) (fo : Nat → Nat → Nat) (x : ByteArray) (d e : Nat) : Prop :=
  ((q (spotN (x.size - d) x.size)).e = true ∧ e = x.size - d) ∨ ∃ b, (q (spotN (x.size - d) x.size)).f.testBit b = true ∧ way (fun s => (q s).l) tk fo x d b e

/-- All sets are sets of 64 atoms. -/
structure Small (q : Piece) (fo : Nat → Nat → Nat) : Prop where
  f : ∀ s, (q s).f < 2 ^ 64
  fo : ∀ s a, fo s a < 2 ^ 64

theorem bitAt_lt {X b n : Nat} (hX : X < 2 ^ n) (h : X.testBit b = true) : b < n := by
  rcases Nat.lt_or_ge b n with h1 | h1
  · exact h1
  · have : X.testBit b = false := Nat.testBit_lt_two_pow (Nat.lt_of_lt_of_le hX (Nat.pow_le_pow_right (by decide) h1))
    rw [this] at h; cases h

section
variable {q : Piece} {tk : Nat → Nat} {fo : Nat → Nat → Nat} {x : ByteArray}

theorem row_takes (d a e : Nat) (h : way (fun s => (q s).l) tk fo x d a e) : (rowsF q tk fo x d).1.testBit a = true := by
  cases d with
  | zero => exact h.elim
  | succ d => exact h.1

theorem rows_way (h : Small q fo) : ∀ d a, (rowsF q tk fo x d).1.testBit a = true → ∀ e : Nat, ((e : Int) ≤ (rowsF q tk fo x d).2 a ↔ ∃ e', e ≤ e' ∧ way (fun s => (q s).l) tk fo x d a e')
  | 0, a, ht, e => by simp [rowsF] at ht
  | d + 1, a, ht, e => by
    have ih := rows_way h d
    simp only [rowsF]
    rw [le_farF]
    have ht' : (tk (byteN x (x.size - (d + 1)))).testBit a = true := ht
    constructor
    · rintro (h1 | ⟨b, hb, h1⟩)
      · by_cases c : (q (spotN (x.size - d) x.size)).l.testBit a = true
        · rw [if_pos c] at h1
          exact ⟨x.size - d, by omega, ht', .inl ⟨c, rfl⟩⟩
        · rw [if_neg c] at h1; omega
      · rw [mem_bitsOf, Nat.testBit_and, Bool.and_eq_true] at hb
        obtain ⟨e', h2, h3⟩ := (ih b hb.2.2 e).1 h1
        exact ⟨e', h2, ht', .inr ⟨b, hb.2.1, h3⟩⟩
    · rintro ⟨e', h1, -, ⟨c, rfl⟩ | ⟨b, hb, h3⟩⟩
      · rw [if_pos c]; exact .inl (by omega)
      · refine .inr ⟨b, ?_, (ih b (row_takes d b e' h3) e).2 ⟨e', h1, h3⟩⟩
        rw [mem_bitsOf, Nat.testBit_and, Bool.and_eq_true]
        exact ⟨bitAt_lt (h.fo _ _) hb, hb, row_takes d b e' h3⟩

/-- The farthest end. -/
theorem le_endD (h : Small q fo) (d e : Nat) : (e : Int) ≤ endD q tk fo x d ↔ ∃ e', e ≤ e' ∧ mat q tk fo x d e' := by
  unfold endD mat
  rw [le_farF]
  constructor
  · rintro (h1 | ⟨b, hb, h1⟩)
    · by_cases c : (q (spotN (x.size - d) x.size)).e = true
      · rw [if_pos c] at h1
        exact ⟨x.size - d, by omega, .inl ⟨c, rfl⟩⟩
      · rw [if_neg c] at h1; omega
    · rw [mem_bitsOf, Nat.testBit_and, Bool.and_eq_true] at hb
      obtain ⟨e', h2, h3⟩ := (rows_way h d b hb.2.2 e).1 h1
      exact ⟨e', h2, .inr ⟨b, hb.2.1, h3⟩⟩
  · rintro ⟨e', h1, ⟨c, rfl⟩ | ⟨b, hb, h3⟩⟩
    · rw [if_pos c]; exact .inl (by omega)
    · refine .inr ⟨b, ?_, (rows_way h d b (row_takes d b e' h3) e).2 ⟨e', h1, h3⟩⟩
      rw [mem_bitsOf, Nat.testBit_and, Bool.and_eq_true]
      exact ⟨bitAt_lt (h.f _) hb, hb, row_takes d b e' h3⟩

theorem way_bounds {L : Nat → Nat} : ∀ d a e, d ≤ x.size → way L tk fo x d a e → x.size - d < e ∧ e ≤ x.size
  | 0, _, _, _, h => h.elim
  | d + 1, a, e, hd, h => by
    rcases h.2 with ⟨-, rfl⟩ | ⟨b, -, h2⟩
    · omega
    · have := way_bounds d b e (by omega) h2; omega
theorem mat_bounds {d e : Nat} (hd : d ≤ x.size) (h : mat q tk fo x d e) : x.size - d ≤ e ∧ e ≤ x.size := by
  rcases h with ⟨-, rfl⟩ | ⟨b, -, h⟩
  · omega
  · have := way_bounds d b e hd h; omega

/-- What is said of the ends at a place. -/
def matF (q : Piece) (tk : Nat → Nat) (fo : Nat → Nat → Nat) (x : ByteArray) (k e : Nat) : Prop := mat q tk fo x (x.size - k) e

/-- E tells the farthest ends of M. -/
def Far (E : Nat → Int) (M : Nat → Nat → Prop) (n : Nat) : Prop := ∀ k, k ≤ n → (E k = -1 ∧ ∀ e, ¬ M k e) ∨ ∃ e, E k = (e : Nat) ∧ k ≤ e ∧ e ≤ n ∧ M k e ∧ ∀ e', M k e' → e' ≤ e

theorem end_far (h : Small q fo) : Far (endF q tk fo x) (matF q tk fo x) x.size := by
  intro k hk
  have hd : x.size - k ≤ x.size := by omega
  have hl := fun e => le_endD (tk := tk) (x := x) h (x.size - k) e
  have hb := end_le q tk fo x (x.size - k)
  unfold endF matF
  by_cases c : endD q tk fo x (x.size - k) = -1
  · left
    refine ⟨c, fun e he => ?_⟩
    have := (hl e).2 ⟨e, Nat.le_refl e, he⟩
    omega
  · right
    obtain ⟨n, hn⟩ : ∃ n : Nat, endD q tk fo x (x.size - k) = n := ⟨(endD q tk fo x (x.size - k)).toNat, by omega⟩
    obtain ⟨e', h1, h2⟩ := (hl n).1 (by omega)
    have h3 := (hl e').2 ⟨e', Nat.le_refl _, h2⟩
    have h4 : e' = n := by omega
    subst h4
    have h5 := mat_bounds hd h2
    exact ⟨e', hn, by omega, by omega, h2, fun e hm => by have := (hl e).2 ⟨e, Nat.le_refl e, hm⟩; omega⟩

end
end Go.Proofs.YticaoekmlaipnaaDoor
