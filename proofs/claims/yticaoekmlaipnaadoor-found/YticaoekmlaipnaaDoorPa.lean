/-
  Plain facts on the bits of a number: no program in sight.
-/
import Derived.Lib.TrailingZeros
set_option linter.unusedSimpArgs false
set_option linter.unusedVariables false
namespace Go.Proofs.YticaoekmlaipnaaDoor

/-- The set bits, the least first. -/
def bitsOf (x : Nat) : List Nat := (List.range 64).filter (fun i => x.testBit i)

theorem mem_bitsOf {x i : Nat} : i ∈ bitsOf x ↔ i < 64 ∧ x.testBit i = true := by simp [bitsOf]

theorem bitsOf_zero : bitsOf 0 = [] := by simp [bitsOf]

theorem bitsOf_length (x : Nat) : (bitsOf x).length ≤ 64 := by
  have := List.length_filter_le (fun i => x.testBit i) (List.range 64)
  simpa [bitsOf] using this

theorem testBit_low (k m j : Nat) : (2 ^ (k + 1) * m + 2 ^ k).testBit j = if j < k + 1 then decide (k = j) else m.testBit (j - (k + 1)) := by
  rw [Nat.testBit_two_pow_mul_add _ (by rw [Nat.pow_succ]; have := Nat.two_pow_pos k; omega)]
  split
  · rw [Nat.testBit_two_pow]
  · rfl

theorem testBit_high (k m j : Nat) : (2 ^ (k + 1) * m).testBit j = if j < k + 1 then false else m.testBit (j - (k + 1)) := by
  have := Nat.testBit_two_pow_mul_add m (b := 0) (i := k + 1) (Nat.two_pow_pos _) j
  simpa using this

theorem and_pred (k m : Nat) : (2 ^ (k + 1) * m + 2 ^ k) &&& (2 ^ (k + 1) * m + 2 ^ k - 1) = 2 ^ (k + 1) * m := by
  have hp := Nat.two_pow_pos k
  have e : 2 ^ (k + 1) * m + 2 ^ k - 1 = 2 ^ (k + 1) * m + (2 ^ k - 1) := by omega
  rw [e]
  apply Nat.eq_of_testBit_eq
  intro j
  rw [Nat.testBit_and, testBit_low, testBit_high, Nat.testBit_two_pow_mul_add _ (by rw [Nat.pow_succ]; omega)]
  split
  · rw [Nat.testBit_two_pow_sub_one]
    by_cases h : k = j
    · subst h; simp
    · simp [h]
  · simp

theorem ctz_form (r : Nat) (h0 : r ≠ 0) (h : r < 18446744073709551616) : ∃ m, r = 2 ^ (Lib.ctz 64 r + 1) * m + 2 ^ Lib.ctz 64 r ∧ Lib.ctz 64 r < 64 := by
  obtain ⟨m, hm, hk⟩ := Lib.ctzFrom_spec 64 r (by omega) (by simpa using h)
  refine ⟨m, ?_, ?_⟩
  · simp only [Lib.ctz, if_neg h0]
    rw [Nat.pow_succ]
    rw [Nat.mul_assoc, ← Nat.mul_add_one]
    exact hm
  · simp only [Lib.ctz, if_neg h0]; exact hk

theorem filter_split (k : Nat) (hk : k < 64) (p : Nat → Bool) : (List.range 64).filter p = (List.range k).filter p ++ ([k].filter p ++ (List.range' (k + 1) (63 - k)).filter p) := by
  rw [← List.filter_append, ← List.filter_append]
  congr 1
  rw [List.range_eq_range', List.range_eq_range', show [k] = List.range' k 1 from rfl]
  rw [show k + 1 = k + 1 * 1 from by omega, List.range'_append, show List.range' k (1 + (63 - k)) = List.range' (0 + 1 * k) (1 + (63 - k)) from by simp, List.range'_append]
  congr 1; omega

theorem bitsOf_step (r : Nat) (h0 : r ≠ 0) (h : r < 18446744073709551616) : bitsOf r = Lib.ctz 64 r :: bitsOf (r &&& (r - 1)) := by
  obtain ⟨m, hm, hk⟩ := ctz_form r h0 h
  generalize Lib.ctz 64 r = k at *
  have e2 : r &&& (r - 1) = 2 ^ (k + 1) * m := by rw [hm]; exact and_pred k m
  rw [e2]
  unfold bitsOf
  rw [filter_split k hk, filter_split k hk (fun i => (2 ^ (k + 1) * m).testBit i)]
  have a1 : (List.range k).filter (fun i => r.testBit i) = [] := by
    rw [List.filter_eq_nil_iff]; intro j hj; rw [hm, testBit_low]; simp at hj; simp [show j < k + 1 from by omega]; omega
  have a2 : (List.range k).filter (fun i => (2 ^ (k + 1) * m).testBit i) = [] := by
    rw [List.filter_eq_nil_iff]; intro j hj; rw [testBit_high]; simp at hj; simp [show j < k + 1 from by omega]
  have b1 : [k].filter (fun i => r.testBit i) = [k] := by
    have : r.testBit k = true := by rw [hm, testBit_low]; simp
    simp [this]
  have b2 : [k].filter (fun i => (2 ^ (k + 1) * m).testBit i) = [] := by
    have : (2 ^ (k + 1) * m).testBit k = false := by rw [testBit_high]; simp
    simp [this]
  have c : (List.range' (k + 1) (63 - k)).filter (fun i => r.testBit i) = (List.range' (k + 1) (63 - k)).filter (fun i => (2 ^ (k + 1) * m).testBit i) := by
    apply List.filter_congr
    intro j hj
    rw [List.mem_range'_1] at hj
    rw [hm, testBit_low, testBit_high, if_neg (by omega), if_neg (by omega)]
  rw [a1, a2, b1, b2, c]
  simp

theorem and_pred_lt (r : Nat) (h : r < 18446744073709551616) : r &&& (r - 1) < 18446744073709551616 := Nat.lt_of_le_of_lt Nat.and_le_left h

end Go.Proofs.YticaoekmlaipnaaDoor
