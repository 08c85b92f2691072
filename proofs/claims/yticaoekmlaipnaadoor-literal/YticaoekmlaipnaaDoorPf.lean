/-
  What is read of a text with a backslash ahead of each byte, and what it matches: plain functions alone.
-/
import Derived.Test.YticaoekmlaipnaaDoorPe
import Derived.Test.YticaoekmlaipnaaDoorPc
set_option linter.unusedSimpArgs false
set_option linter.unusedVariables false
namespace Go.Proofs.YticaoekmlaipnaaDoor

theorem byteAt_eq {t : ByteArray} {k : Nat} (h : k < t.size) : byteAt t k = byteN t k := by unfold byteAt byteN; rw [dif_pos h, dif_pos h]
theorem byteAt_end {t : ByteArray} {k : Nat} (h : t.size ≤ k) : byteAt t k = -1 := by unfold byteAt; rw [dif_neg (by omega)]

/-- k bytes of lit, each behind a backslash. -/
def escN (lit : ByteArray) : Nat → ByteArray
  | 0 => ⟨#[]⟩
  | k + 1 => escN lit k ++ ⟨#[92]⟩ ++ lit.extract k (k + 1)

theorem escN_size (lit : ByteArray) : ∀ k, k ≤ lit.size → (escN lit k).size = 2 * k
  | 0, _ => rfl
  | k + 1, h => by
    rw [escN, ByteArray.size_append, ByteArray.size_append, escN_size lit k (by omega), ByteArray.size_extract]
    have : (ByteArray.mk #[92]).size = 1 := rfl
    omega

theorem byteN_append (a b : ByteArray) (i : Nat) : byteN (a ++ b) i = if i < a.size then byteN a i else byteN b (i - a.size) := by
  by_cases h : i < a.size
  · rw [if_pos h]; unfold byteN; rw [dif_pos (by rw [ByteArray.size_append]; omega), dif_pos h, ByteArray.getElem_append_left h]
  · rw [if_neg h]; unfold byteN
    by_cases h2 : i < (a ++ b).size
    · have h3 : i - a.size < b.size := by rw [ByteArray.size_append] at h2; omega
      rw [dif_pos h2, dif_pos h3, ByteArray.getElem_append_right (by omega)]
    · rw [dif_neg h2, dif_neg (by rw [ByteArray.size_append] at h2; omega)]
theorem byteN_extract (a : ByteArray) (s e i : Nat) (h : s + i < e) (he : e ≤ a.size) : byteN (a.extract s e) i = byteN a (s + i) := by
  have h2 : i < (a.extract s e).size := by rw [ByteArray.size_extract]; omega
  unfold byteN
  rw [dif_pos h2, dif_pos (by omega), ByteArray.getElem_extract]

theorem escN_byte (lit : ByteArray) : ∀ k, k ≤ lit.size → ∀ i, i < k → byteN (escN lit k) (2 * i) = 92 ∧ byteN (escN lit k) (2 * i + 1) = byteN lit i
  | 0, _, i, hi => by omega
  | k + 1, h, i, hi => by
    have hs := escN_size lit k (by omega)
    have h1 : (ByteArray.mk #[92]).size = 1 := rfl
    rw [escN, byteN_append, byteN_append, byteN_append, byteN_append, ByteArray.size_append, hs, h1]
    by_cases hik : i < k
    · rw [if_pos (by omega), if_pos (by omega), if_pos (by omega), if_pos (by omega)]
      exact escN_byte lit k (by omega) i hik
    · obtain rfl : i = k := by omega
      rw [if_pos (by omega), if_neg (by omega), if_neg (by omega), show 2 * i - 2 * i = 0 by omega, show 2 * i + 1 - (2 * i + 1) = 0 by omega, byteN_extract _ _ _ _ (by omega) (by omega)]
      exact ⟨rfl, rfl⟩

/-- What is read behind k bytes of lit. -/
structure LitSt (lit : ByteArray) (k : Nat) (q : Piece) (s : St) : Prop where
  pos : s.pos = 2 * k
  fault : s.fault = false
  atoms : s.atoms = k
  tk : ∀ b a, (s.tk b).testBit a = (decide (a < k) && decide (byteN lit a = b))
  fo : ∀ sp a c, (s.fo sp a).testBit c = (decide (c = a + 1) && decide (c < k))
  q : ∀ sp, q sp = if k = 0 then ⟨true, 0, 0⟩ else ⟨false, 1, 2 ^ (k - 1)⟩

theorem byteN_lt (t : ByteArray) (k : Nat) : byteN t k < 256 := by
  unfold byteN
  split
  · exact UInt8.toNat_lt _
  · decide

section
variable {lit t : ByteArray} {k m : Nat} {q : Piece} {s : St}

theorem two_testBit (i j : Nat) : (2 ^ i).testBit j = decide (j = i) := by
  rw [Nat.testBit_two_pow]
  by_cases h : i = j <;> simp [h, eq_comm]

/-- One byte more is read. -/
theorem LitSt.step (h : LitSt lit k q s) (hk : k < lit.size) (ht : t.size = 2 * lit.size) (hb : ∀ i, i < lit.size → byteN t (2 * i) = 92 ∧ byteN t (2 * i + 1) = byteN lit i) :
    LitSt lit (k + 1) (joinF q (partF t (m + 3) s).1) { (partF t (m + 3) s).2 with fo := tieP (partF t (m + 3) s).2.fo q (partF t (m + 3) s).1 } ∧ peekF t s = 92 := by
  have p0 : peekF t s = 92 := by
    unfold peekF
    rw [h.fault, h.pos, byteAt_eq (by omega), (hb k hk).1]
    rfl
  have p1 : peekF t (advF s) = (byteN lit k : Nat) := by
    unfold peekF advF
    rw [show ({ s with pos := s.pos + 1 } : St).fault = s.fault from rfl, h.fault, show ({ s with pos := s.pos + 1 } : St).pos = s.pos + 1 from rfl, h.pos, byteAt_eq (by omega), (hb k hk).2]
    rfl
  have hsk : skipF t s 92 = (true, advF s) := by unfold skipF; rw [if_pos p0]
  have hpl : plainF t s = ((byteN lit k : Int), advF (advF s)) := by
    unfold plainF
    rw [hsk]
    simp only
    rw [p1, if_neg (by omega)]
  have hat : atomF t (m + 2) s = takeF (advF (advF s)) (byteN lit k) (byteN lit k) := by
    rw [atomF_s, p0, if_neg (by decide), if_neg (by decide), if_neg (by decide), if_neg (by decide), if_neg (by decide), hpl]
  have p2 : peekF t (takeF (advF (advF s)) (byteN lit k) (byteN lit k)).2 = 92 ∨ peekF t (takeF (advF (advF s)) (byteN lit k) (byteN lit k)).2 = -1 := by
    unfold peekF
    have e1 : (takeF (advF (advF s)) (byteN lit k) (byteN lit k)).2.fault = false := h.fault
    have e2 : (takeF (advF (advF s)) (byteN lit k) (byteN lit k)).2.pos = 2 * (k + 1) := by show s.pos + 1 + 1 = _; rw [h.pos]; omega
    rw [e1, e2]
    by_cases hk1 : k + 1 < lit.size
    · left; rw [byteAt_eq (by omega), (hb (k + 1) hk1).1]; rfl
    · right; rw [byteAt_end (by omega)]; rfl
  have hpa : partF t (m + 3) s = takeF (advF (advF s)) (byteN lit k) (byteN lit k) := by
    rw [partF_s, hat, partLF_s]
    rcases p2 with e | e
    all_goals rw [e, if_neg (by decide), if_neg (by decide), if_neg (by decide)]
  refine ⟨?_, p0⟩
  rw [hpa]
  have ea : (advF (advF s)).atoms = k := h.atoms
  have ef : (advF (advF s)).fo = s.fo := rfl
  have et : (advF (advF s)).tk = s.tk := rfl
  refine ⟨by show s.pos + 1 + 1 = _; rw [h.pos]; omega, h.fault, ?_, fun b a => ?_, fun sp a c => ?_, fun sp => ?_⟩
  · show (advF (advF s)).atoms + 1 = k + 1; rw [ea]
  · simp only [takeF, takeOfF, ea, et, markF, Bool.false_or]
    by_cases e : b = byteN lit k
    · subst e
      rw [if_pos (by simp), Nat.testBit_or, h.tk, two_testBit]
      by_cases c : a = k
      · subst c; simp
      · have : (a < k + 1) ↔ a < k := by omega
        simp [c, this]
    · have hf : ¬ ((decide ((byteN lit k : Int) ≤ b) && decide ((b : Int) ≤ (byteN lit k : Int))) = true) := by
        simp only [Bool.and_eq_true, decide_eq_true_eq]; omega
      rw [if_neg hf, h.tk]
      by_cases c : a = k
      · subst c; simp; exact fun e' => e e'.symm
      · have : (a < k + 1) ↔ a < k := by omega
        simp [this]
  · simp only [takeF, takeOfF, ea, ef, tieP, h.q]
    by_cases k0 : k = 0
    · subst k0
      rw [if_pos rfl]
      simp only [Nat.zero_testBit, Bool.false_eq_true, if_false]
      rw [h.fo]
      by_cases e : c = a + 1
      · subst e; simp
      · simp [e]
    · rw [if_neg k0]
      simp only [two_testBit]
      by_cases e : a = k - 1
      · rw [if_pos (by simpa using e), Nat.testBit_or, h.fo, two_testBit]
        by_cases c1 : c = a + 1
        · have : c = k := by omega
          rw [decide_eq_true c1, decide_eq_true this, decide_eq_true (show c < k + 1 by omega)]; simp
        · have : c ≠ k := by omega
          simp [c1, this]
      · rw [if_neg (by simpa using e), h.fo]
        by_cases c1 : c = a + 1
        · have : c < k + 1 ↔ c < k := by omega
          simp [this]
        · simp [c1]
  · simp only [takeF, takeOfF, ea, joinF, joinedF, h.q]
    by_cases k0 : k = 0
    · subst k0; rfl
    · rw [if_neg k0, if_neg (Nat.succ_ne_zero k)]
      simp

/-- The sequence is read to its end. -/
theorem LitSt.seq (ht : t.size = 2 * lit.size) (hb : ∀ i, i < lit.size → byteN t (2 * i) = 92 ∧ byteN t (2 * i + 1) = byteN lit i) :
    ∀ j k q s, k + j = lit.size → LitSt lit k q s → LitSt lit lit.size (seqLF t (m + 4 + j) q s).1 (seqLF t (m + 4 + j) q s).2
  | 0, k, q, s, e, h => by
    have p : peekF t s = -1 := by unfold peekF; rw [h.fault, h.pos, byteAt_end (by omega)]; rfl
    rw [Nat.add_zero, show m + 4 = m + 3 + 1 by omega, seqLF_s, p, if_pos (Or.inl rfl)]
    rw [show lit.size = k by omega]; exact h
  | j + 1, k, q, s, e, h => by
    have hs := LitSt.step (m := m + j + 1) h (by omega) ht hb
    rw [show m + 4 + (j + 1) = (m + j + 1 + 3) + 1 by omega, seqLF_s, hs.2, if_neg (by decide)]
    rw [show m + j + 1 + 3 = m + 4 + j by omega] at hs ⊢
    exact LitSt.seq ht hb j (k + 1) _ _ (by omega) hs.1

end

theorem nat_zero_of_testBit {X : Nat} (h : ∀ c, X.testBit c = false) : X = 0 := Nat.eq_of_testBit_eq (fun c => by rw [h, Nat.zero_testBit])
theorem bitsOf_pow : ∀ k, k < 64 → bitsOf (2 ^ k) = [k] := by decide
theorem bitsOf_single {X k : Nat} {P : Bool} (hk : k < 64) (h : ∀ c, X.testBit c = (decide (c = k) && P)) : bitsOf X = if P = true then [k] else [] := by
  cases P with
  | false => rw [nat_zero_of_testBit (X := X) (fun c => by rw [h, Bool.and_false]), bitsOf_zero]; rfl
  | true =>
    have : X = 2 ^ k := Nat.eq_of_testBit_eq (fun c => by rw [h, two_testBit, Bool.and_true])
    rw [this, bitsOf_pow k hk]; rfl

/-- lit from its a-th byte on stands at the place p of x. -/
def mtB (lit x : ByteArray) (a p : Nat) : Bool := decide (p + (lit.size - a) ≤ x.size ∧ ∀ i, i < lit.size - a → byteN x (p + i) = byteN lit (a + i))
abbrev mt (lit x : ByteArray) (a p : Nat) : Prop := mtB lit x a p = true
theorem mt_iff {lit x : ByteArray} {a p : Nat} : mt lit x a p ↔ p + (lit.size - a) ≤ x.size ∧ ∀ i, i < lit.size - a → byteN x (p + i) = byteN lit (a + i) := by
  unfold mt mtB; exact decide_eq_true_iff

theorem mt_step {lit x : ByteArray} {a p : Nat} (ha : a < lit.size) (hp : p < x.size) : mt lit x a p ↔ byteN x p = byteN lit a ∧ mt lit x (a + 1) (p + 1) := by
  rw [mt_iff, mt_iff]
  constructor
  · rintro ⟨h1, h2⟩
    refine ⟨h2 0 (by omega), by omega, fun i hi => ?_⟩
    have := h2 (i + 1) (by omega)
    rwa [show p + (i + 1) = p + 1 + i by omega, show a + (i + 1) = a + 1 + i by omega] at this
  · rintro ⟨h0, h1, h2⟩
    refine ⟨by omega, fun i hi => ?_⟩
    rcases i with _ | i
    · exact h0
    · have := h2 i (by omega)
      rwa [show p + (i + 1) = p + 1 + i by omega, show a + (i + 1) = a + 1 + i by omega]

section
variable {lit x : ByteArray} {q : Piece} {s : St}

theorem lit_live (h : LitSt lit lit.size q s) (hl : lit.size ≤ 25) (d a : Nat) (ha : a < lit.size) (F : Nat) (hF : ∀ c, F.testBit c = decide (c = a)) :
    bitsOf (F &&& (rowsF q s.tk s.fo x d).1) = if d ≠ 0 ∧ byteN lit a = byteN x (x.size - d) then [a] else [] := by
  rw [bitsOf_single (k := a) (P := decide (d ≠ 0 ∧ byteN lit a = byteN x (x.size - d))) (by omega) (fun c => ?_)]
  · simp
  · rw [Nat.testBit_and, hF]
    by_cases hc : c = a
    · subst hc
      cases d with
      | zero => simp [rowsF]
      | succ d => simp only [rowsF, h.tk]; simp [ha]
    · simp [hc]

theorem lit_rows (h : LitSt lit lit.size q s) (hl : lit.size ≤ 25) : ∀ d, d < x.size → ∀ a, a < lit.size → byteN x (x.size - (d + 1)) = byteN lit a →
    (rowsF q s.tk s.fo x (d + 1)).2 a = if mt lit x a (x.size - (d + 1)) then ((x.size - (d + 1) + (lit.size - a) : Nat) : Int) else -1 := by
  intro d
  induction d with
  | zero =>
    intro hd a ha hb
    have hq : ∀ sp, q sp = ⟨false, 1, 2 ^ (lit.size - 1)⟩ := fun sp => by rw [h.q, if_neg (by omega)]
    simp only [rowsF, hq, two_testBit]
    have hz : bitsOf (s.fo (spotN (x.size - 0) x.size) a &&& 0) = [] := by rw [Nat.and_zero, bitsOf_zero]
    rw [hz]
    simp only [farF, List.foldl_nil]
    by_cases e : a = lit.size - 1
    · rw [if_pos (by simpa using e), if_pos]
      · congr 1; omega
      · rw [mt_step ha (by omega)]
        exact ⟨hb, mt_iff.2 ⟨by omega, fun i hi => by omega⟩⟩
    · rw [if_neg (by simpa using e), if_neg]
      intro hm'
      have h1 := (mt_iff.1 hm').1
      omega
  | succ d ih =>
    intro hd a ha hb
    have hp : x.size - (d + 1 + 1) + 1 = x.size - (d + 1) := by omega
    have hq : ∀ sp, q sp = ⟨false, 1, 2 ^ (lit.size - 1)⟩ := fun sp => by rw [h.q, if_neg (by omega)]
    rw [rowsF]
    simp only [hq, two_testBit]
    by_cases e : a = lit.size - 1
    · have hfo : s.fo (spotN (x.size - (d + 1)) x.size) a = 0 := nat_zero_of_testBit (fun c => by
        rw [h.fo]
        by_cases c1 : c = a + 1
        · have : ¬ c < lit.size := by omega
          simp [this]
        · simp [c1])
      rw [hfo, Nat.zero_and, bitsOf_zero]
      simp only [farF, List.foldl_nil]
      rw [if_pos (by simpa using e), if_pos]
      · congr 1; omega
      · rw [mt_step ha (by omega)]
        exact ⟨hb, mt_iff.2 ⟨by omega, fun i hi => by omega⟩⟩
    · rw [if_neg (by simpa using e), lit_live h hl (d + 1) (a + 1) (by omega) _ (fun c => by
        rw [h.fo]
        by_cases c1 : c = a + 1
        · have : c < lit.size := by omega
          simp [this]
        · simp [c1])]
      have hst := mt_step (lit := lit) (x := x) (a := a) (p := x.size - (d + 1 + 1)) ha (by omega)
      rw [hp] at hst
      by_cases c : byteN lit (a + 1) = byteN x (x.size - (d + 1))
      · rw [if_pos ⟨by omega, c⟩]
        simp only [farF, List.foldl_cons, List.foldl_nil]
        rw [ih (by omega) (a + 1) (by omega) c.symm]
        by_cases m : mt lit x (a + 1) (x.size - (d + 1))
        · rw [if_pos m, if_pos (hst.2 ⟨hb, m⟩)]; omega
        · rw [if_neg m, if_neg (fun m' => m (hst.1 m').2)]; omega
      · rw [if_neg (fun hh => c hh.2)]
        simp only [farF, List.foldl_nil]
        rw [if_neg]
        intro m'
        have := (mt_iff.1 (hst.1 m').2).2 0 (by omega)
        exact c this.symm

/-- What a text with a backslash ahead of each byte matches: that text. -/
theorem lit_end (h : LitSt lit lit.size q s) (hl : lit.size ≤ 25) (k : Nat) (hk : k ≤ x.size) :
    endF q s.tk s.fo x k = if mt lit x 0 k then ((k + lit.size : Nat) : Int) else -1 := by
  unfold endF endD
  have hd : x.size - (x.size - k) = k := by omega
  rw [hd, h.q]
  by_cases l0 : lit.size = 0
  · rw [if_pos l0]
    simp only [Nat.zero_and, bitsOf_zero, farF, List.foldl_nil, if_true]
    rw [if_pos (mt_iff.2 ⟨by omega, fun i hi => by omega⟩)]; congr 1; omega
  · rw [if_neg l0]
    simp only [Bool.false_eq_true, if_false]
    rw [lit_live h hl (x.size - k) 0 (by omega) 1 (fun c => by rw [show (1 : Nat) = 2 ^ 0 from rfl, two_testBit]), hd]
    by_cases c : x.size - k ≠ 0 ∧ byteN lit 0 = byteN x k
    · rw [if_pos c]
      simp only [farF, List.foldl_cons, List.foldl_nil]
      have hr := lit_rows (x := x) h hl (x.size - k - 1) (by omega) 0 (by omega) (by rw [show x.size - (x.size - k - 1 + 1) = k by omega]; exact c.2.symm)
      rw [show x.size - k - 1 + 1 = x.size - k by omega, hd] at hr
      rw [hr]
      by_cases m : mt lit x 0 k
      · rw [if_pos m, if_pos m]; omega
      · rw [if_neg m, if_neg m]; omega
    · rw [if_neg c]
      simp only [farF, List.foldl_nil]
      rw [if_neg]
      intro hm'
      obtain ⟨h1, h2⟩ := mt_iff.1 hm'
      exact c ⟨by omega, (h2 0 (by omega)).symm.trans (by rw [Nat.add_zero])⟩

end
end Go.Proofs.YticaoekmlaipnaaDoor
