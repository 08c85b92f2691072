/-
  What is read of (p)?, (p)*, (p)+, (p)|(q) and ^(p)$, once p and q are patterns. The ends that the matcher tells are the farthest ends of ways through the pattern: plain functions alone. What (p)?, (p)*, (p)+, (p)|(q) and ^(p)$ match, told of what p and q match: plain functions alone.
-/
import Derived.Test.YtakbfoegkjaphaaGreatDoorM17
import Derived.Test.YtakbfoegkjaphaaGreatDoorM12
import Derived.Test.YtakbfoegkjaphaaGreatDoorM14
set_option linter.unusedSimpArgs false
set_option linter.unusedVariables false
namespace Go.Proofs.YtakbfoegkjaphaaGreatDoor

section
variable {p q t : ByteArray}

theorem shP_zero (r : Piece) : shP 0 r = r := by funext sp; simp [shP]
theorem grp_zero (p : ByteArray) : grpS st0 p = { (readF p).2 with pos := (readF p).2.pos + 2 } := by
  unfold grpS shS advF
  simp only [st0, Nat.zero_add, Nat.add_zero, Nat.not_lt_zero, if_false, Nat.shiftLeft_zero, Nat.zero_or, Nat.sub_zero]

theorem seq_stop {s : St} (n : Nat) (r : Piece) (h : peekF t s = -1 ∨ peekF t s = 41 ∨ peekF t s = 124 ∨ peekF t s = 42 ∨ peekF t s = 43 ∨ peekF t s = 63) : seqLF t (n + 1) r s = (r, s) := by
  rw [seqLF_s, if_pos h]
theorem alt_stop {s : St} (n : Nat) (r : Piece) (h : peekF t s ≠ 124) : altLF t (n + 1) r s = (r, s) := by
  rw [altLF_s, if_neg h]
theorem seq_go {s : St} (n : Nat) (r x : Piece) (s' : St) (h : peekF t s = 40 ∨ peekF t s = 94 ∨ peekF t s = 36) (hp : partF t n s = (x, s')) :
    seqLF t (n + 1) r s = seqLF t n (joinF r x) { s' with fo := tieP s'.fo r x } := by
  rw [seqLF_s, if_neg (by rcases h with h | h | h <;> rw [h] <;> decide), hp]

/-- t is p in brackets with a byte behind it. -/
structure Grp (p t : ByteArray) (c : Int) : Prop where
  size : t.size = p.size + 3
  open_ : byteAt t 0 = 40
  in_ : ∀ i, i < p.size → byteAt t (i + 1) = byteAt p i
  close : byteAt t (p.size + 1) = 41
  mark : byteAt t (p.size + 2) = c

theorem Grp.ctx {c : Int} (h : Grp p t c) : Ctx p t (st0.pos + 1) := ⟨h.in_, h.close⟩

theorem st0_foz : FoZ st0 := fun _ _ _ => rfl

/-- All but the mark. -/
theorem Grp.atom {c : Int} (h : Grp p t c) (hok : readOk p = true) (hp : p.size ≤ 50) (n : Nat) (hn : 6 * p.size + 3 ≤ n) :
    atomF t (n + 1) st0 = ((readF p).1, { (readF p).2 with pos := p.size + 2 }) := by
  have e := group_atom h.ctx rfl st0_foz (by rw [peek_at rfl]; exact h.open_) hok hp n hn
  rw [e, grp_zero, (ok_parts hok).2]
  show (shP 0 _, _) = _
  rw [shP_zero]

theorem Grp.read {c : Int} (h : Grp p t c) {r : Piece} {f : Nat → Nat → Nat} (hp : p.size ≤ 50) (hf : (readF p).2.fault = false)
    (hpart : partF t 397 st0 = (r, { (readF p).2 with pos := p.size + 3, fo := f })) : readF t = (r, { (readF p).2 with pos := p.size + 3, fo := f }) := by
  have pk : ∀ g, peekF t { (readF p).2 with pos := p.size + 3, fo := g } = -1 := fun g => by
    rw [peek_at (by exact hf)]; exact byteAt_out (by rw [h.size]; exact Nat.lt_irrefl _)
  show altF t 400 st0 = _
  rw [show (400 : Nat) = 399 + 1 from rfl, altF_s, show (399 : Nat) = 398 + 1 from rfl, seqF_s, show (398 : Nat) = 397 + 1 from rfl, seq_go 397 nothingF _ _ (.inl (by rw [peek_at rfl]; exact h.open_)) hpart,
    join_nothing, tie_nothing, show (397 : Nat) = 396 + 1 from rfl, seq_stop _ _ (.inl (pk f)), alt_stop _ _ (by rw [pk f]; decide)]

theorem Grp.opt (h : Grp p t 63) (hok : readOk p = true) (hp : p.size ≤ 47) : readF t = (eitherF (readF p).1 nothingF, { (readF p).2 with pos := p.size + 3 }) := by
  have hf := (ok_parts hok).1
  refine h.read (by omega) hf ?_
  rw [show (397 : Nat) = 396 + 1 from rfl, partF_s, h.atom hok (by omega) 395 (by omega), partLF_s]
  simp only
  have p1 : peekF t { (readF p).2 with pos := p.size + 2 } = 63 := by rw [peek_at (by exact hf)]; exact h.mark
  have p2 : peekF t (advF { (readF p).2 with pos := p.size + 2 }) = -1 := by rw [peek_at (by exact hf)]; exact byteAt_out (by rw [h.size]; exact Nat.lt_irrefl _)
  rw [p1, if_neg (by decide), if_neg (by decide), if_pos rfl, show (395 : Nat) = 394 + 1 from rfl, partLF_s, p2, if_neg (by decide), if_neg (by decide), if_neg (by decide)]
  rfl
theorem Grp.plus (h : Grp p t 43) (hok : readOk p = true) (hp : p.size ≤ 47) : readF t = ((readF p).1, { (readF p).2 with pos := p.size + 3, fo := tieP (readF p).2.fo (readF p).1 (readF p).1 }) := by
  have hf := (ok_parts hok).1
  refine h.read (by omega) hf ?_
  rw [show (397 : Nat) = 396 + 1 from rfl, partF_s, h.atom hok (by omega) 395 (by omega), partLF_s]
  simp only
  have p1 : peekF t { (readF p).2 with pos := p.size + 2 } = 43 := by rw [peek_at (by exact hf)]; exact h.mark
  have p2 : peekF t (advF { (readF p).2 with pos := p.size + 2, fo := tieP (readF p).2.fo (readF p).1 (readF p).1 }) = -1 := by rw [peek_at (by exact hf)]; exact byteAt_out (by rw [h.size]; exact Nat.lt_irrefl _)
  rw [p1, if_neg (by decide), if_pos rfl, show (395 : Nat) = 394 + 1 from rfl, partLF_s, p2, if_neg (by decide), if_neg (by decide), if_neg (by decide)]
  rfl
theorem Grp.star (h : Grp p t 42) (hok : readOk p = true) (hp : p.size ≤ 47) : readF t = (eitherF (readF p).1 nothingF, { (readF p).2 with pos := p.size + 3, fo := tieP (readF p).2.fo (readF p).1 (readF p).1 }) := by
  have hf := (ok_parts hok).1
  refine h.read (by omega) hf ?_
  rw [show (397 : Nat) = 396 + 1 from rfl, partF_s, h.atom hok (by omega) 395 (by omega), partLF_s]
  simp only
  have p1 : peekF t { (readF p).2 with pos := p.size + 2 } = 42 := by rw [peek_at (by exact hf)]; exact h.mark
  have p2 : peekF t (advF { (readF p).2 with pos := p.size + 2, fo := tieP (readF p).2.fo (readF p).1 (readF p).1 }) = -1 := by rw [peek_at (by exact hf)]; exact byteAt_out (by rw [h.size]; exact Nat.lt_irrefl _)
  rw [p1, if_pos rfl, show (395 : Nat) = 394 + 1 from rfl, partLF_s, p2, if_neg (by decide), if_neg (by decide), if_neg (by decide)]
  rfl

theorem ok_at {r : Piece} {s : St} (h : readF t = (r, s)) (h1 : s.fault = false) (h2 : t.size ≤ s.pos) : readOk t = true := ok_of (by rw [h]; exact h1) (by rw [h]; exact h2)

/-- t is p in brackets or q in brackets. -/
structure Or2 (p q t : ByteArray) : Prop where
  size : t.size = p.size + q.size + 5
  open_ : byteAt t 0 = 40
  in_ : ∀ i, i < p.size → byteAt t (i + 1) = byteAt p i
  close : byteAt t (p.size + 1) = 41
  bar : byteAt t (p.size + 2) = 124
  open2 : byteAt t (p.size + 3) = 40
  in2 : ∀ i, i < q.size → byteAt t (i + (p.size + 4)) = byteAt q i
  close2 : byteAt t (q.size + (p.size + 4)) = 41

/-- What is read of p or q: the state. -/
def orS (p q : ByteArray) : St := ⟨p.size + q.size + 5, false, (readF q).2.atoms + (readF p).2.atoms, fun b => (readF p).2.tk b ||| ((readF q).2.tk b <<< (readF p).2.atoms),
  fun sp a => if a < (readF p).2.atoms then (readF p).2.fo sp a else (readF q).2.fo sp (a - (readF p).2.atoms) <<< (readF p).2.atoms⟩

theorem Or2.read (h : Or2 p q t) (hok : readOk p = true) (hok2 : readOk q = true) (hp : p.size + q.size ≤ 45) :
    readF t = (eitherF (readF p).1 (shP (readF p).2.atoms (readF q).1), orS p q) := by
  have hf := (ok_parts hok).1
  have hf2 := (ok_parts hok2).1
  have e1 : partF t 397 st0 = ((readF p).1, { (readF p).2 with pos := p.size + 2 }) := by
    have hb : byteAt t (st0.pos + p.size + 2) = 124 := by rw [show st0.pos + p.size + 2 = p.size + 2 by show 0 + p.size + 2 = _; omega]; exact h.bar
    rw [group_part (B := st0) ⟨h.in_, h.close⟩ rfl st0_foz h.open_ hok (by omega) 397 (by omega) (by rw [hb]; decide), grp_zero, (ok_parts hok).2]
    show (shP 0 _, _) = _
    rw [shP_zero]
  have p1 : peekF t { (readF p).2 with pos := p.size + 2 } = 124 := by rw [peek_at (by exact hf)]; exact h.bar
  have hz : FoZ (advF { (readF p).2 with pos := p.size + 2 }) := fun sp a ha => read_foz p sp a ha
  have p2 : peekF t (advF { (readF p).2 with pos := p.size + 2 }) = 40 := by rw [peek_at (by exact hf)]; exact h.open2
  have e2 : ∀ n, 6 * q.size + 10 ≤ n → partF t n (advF { (readF p).2 with pos := p.size + 2 }) = (shP (readF p).2.atoms (readF q).1, orS p q) := fun n hn => by
    have hb : byteAt t ((advF { (readF p).2 with pos := p.size + 2 }).pos + q.size + 2) = -1 := byteAt_out (by rw [h.size]; show ¬ (p.size + 2 + 1 + q.size + 2 < _); omega)
    rw [group_part (B := advF { (readF p).2 with pos := p.size + 2 }) ⟨h.in2, h.close2⟩ hf hz h.open2 hok2 (by omega) n hn (by rw [hb]; decide)]
    unfold grpS shS orS advF
    simp only [hf2, (ok_parts hok2).2]
    rw [show q.size + (p.size + 2 + 1 + 1) + 1 = p.size + q.size + 5 by omega]
  have p3 : peekF t (orS p q) = -1 := by rw [peek_at rfl]; exact byteAt_out (by rw [h.size]; exact Nat.lt_irrefl _)
  have s1 : seqF t 399 st0 = ((readF p).1, { (readF p).2 with pos := p.size + 2 }) := by
    rw [show (399 : Nat) = 398 + 1 from rfl, seqF_s, show (398 : Nat) = 397 + 1 from rfl, seq_go 397 nothingF _ _ (.inl (by rw [peek_at rfl]; exact h.open_)) e1, join_nothing, tie_nothing, show (397 : Nat) = 396 + 1 from rfl, seq_stop _ _ (.inr (.inr (.inl p1)))]
  have s2 : seqF t 398 (advF { (readF p).2 with pos := p.size + 2 }) = (shP (readF p).2.atoms (readF q).1, orS p q) := by
    rw [show (398 : Nat) = 397 + 1 from rfl, seqF_s, show (397 : Nat) = 396 + 1 from rfl, seq_go 396 nothingF _ _ (.inl p2) (e2 396 (by omega)), join_nothing, tie_nothing, show (396 : Nat) = 395 + 1 from rfl, seq_stop _ _ (.inl p3)]
  show altF t 400 st0 = _
  rw [show (400 : Nat) = 399 + 1 from rfl, altF_s, s1, show (399 : Nat) = 398 + 1 from rfl, altLF_s]
  simp only
  rw [if_pos p1, s2, show (398 : Nat) = 397 + 1 from rfl, alt_stop _ _ (by rw [p3]; decide)]

/-- t is p in brackets, between ^ and $. -/
structure Anc (p t : ByteArray) : Prop where
  size : t.size = p.size + 4
  begin_ : byteAt t 0 = 94
  open_ : byteAt t 1 = 40
  in_ : ∀ i, i < p.size → byteAt t (i + 2) = byteAt p i
  close : byteAt t (p.size + 2) = 41
  end_ : byteAt t (p.size + 3) = 36

theorem tie_anchor (fo : Nat → Nat → Nat) (m : Nat) (r : Piece) : tieP fo (anchorF m) r = fo := by funext sp a; simp [tieP, anchorF]
theorem tie_to_anchor (fo : Nat → Nat → Nat) (m : Nat) (r : Piece) : tieP fo r (anchorF m) = fo := by funext sp a; simp [tieP, anchorF]

theorem Anc.read (h : Anc p t) (hok : readOk p = true) (hp : p.size ≤ 46) :
    readF t = (joinF (joinF (anchorF 1) (readF p).1) (anchorF 2), { (readF p).2 with pos := p.size + 4 }) := by
  have hf := (ok_parts hok).1
  have pa : ∀ (n : Nat) (s : St) (c : Int) (m : Nat), (c = 94 ∧ m = 1 ∨ c = 36 ∧ m = 2) → peekF t s = c → peekF t (advF s) ≠ 42 ∧ peekF t (advF s) ≠ 43 ∧ peekF t (advF s) ≠ 63 → partF t (n + 2) s = (anchorF m, advF s) := by
    intro n s c m hc hs hn
    have e : atomF t (n + 1) s = (anchorF m, advF s) := by
      rw [atomF_s, hs]
      rcases hc with ⟨rfl, rfl⟩ | ⟨rfl, rfl⟩
      · rw [if_neg (by decide), if_neg (by decide), if_neg (by decide), if_pos rfl]
      · rw [if_neg (by decide), if_neg (by decide), if_neg (by decide), if_neg (by decide), if_pos rfl]
    rw [partF_s, e, partLF_s, if_neg hn.1, if_neg hn.2.1, if_neg hn.2.2]
  have q0 : peekF t st0 = 94 := by rw [peek_at rfl]; exact h.begin_
  have q1 : peekF t (advF st0) = 40 := by rw [peek_at rfl]; exact h.open_
  have q2 : peekF t { (readF p).2 with pos := p.size + 3 } = 36 := by rw [peek_at (by exact hf)]; exact h.end_
  have q3 : peekF t { (readF p).2 with pos := p.size + 4 } = -1 := by rw [peek_at (by exact hf)]; exact byteAt_out (by rw [h.size]; exact Nat.lt_irrefl _)
  have e1 : partF t 397 st0 = (anchorF 1, advF st0) := pa 395 st0 94 1 (.inl ⟨rfl, rfl⟩) q0 (by rw [q1]; decide)
  have e2 : partF t 396 (advF st0) = ((readF p).1, { (readF p).2 with pos := p.size + 3 }) := by
    have hb : byteAt t ((advF st0).pos + p.size + 2) = 36 := by rw [show (advF st0).pos + p.size + 2 = p.size + 3 by show 0 + 1 + p.size + 2 = _; omega]; exact h.end_
    rw [group_part (B := advF st0) ⟨h.in_, h.close⟩ rfl (fun _ _ _ => rfl) h.open_ hok (by omega) 396 (by omega) (by rw [hb]; decide)]
    show (shP 0 _, _) = _
    rw [shP_zero]
    unfold grpS shS advF
    simp only [st0, Nat.zero_add, Nat.add_zero, Nat.not_lt_zero, if_false, Nat.shiftLeft_zero, Nat.zero_or, Nat.sub_zero, (ok_parts hok).2]
  have e3 : partF t 395 { (readF p).2 with pos := p.size + 3 } = (anchorF 2, { (readF p).2 with pos := p.size + 4 }) := pa 393 _ 36 2 (.inr ⟨rfl, rfl⟩) q2 (by
    rw [show advF { (readF p).2 with pos := p.size + 3 } = { (readF p).2 with pos := p.size + 4 } from rfl, q3]; decide)
  show altF t 400 st0 = _
  rw [show (400 : Nat) = 399 + 1 from rfl, altF_s, show (399 : Nat) = 398 + 1 from rfl, seqF_s, show (398 : Nat) = 397 + 1 from rfl, seq_go 397 nothingF _ _ (.inr (.inl q0)) e1, join_nothing, tie_nothing,
    show (397 : Nat) = 396 + 1 from rfl, seq_go 396 _ _ _ (.inl q1) e2]
  simp only [tie_anchor]
  rw [show (396 : Nat) = 395 + 1 from rfl, seq_go 395 _ _ _ (.inr (.inr q2)) e3]
  simp only [tie_to_anchor]
  rw [show (395 : Nat) = 394 + 1 from rfl, seq_stop _ _ (.inl q3), alt_stop _ _ (by rw [q3]; decide)]

end
end Go.Proofs.YtakbfoegkjaphaaGreatDoor

namespace Go.Proofs.YtakbfoegkjaphaaGreatDoor

theorem le_farF {r : Nat → Int} {l : List Nat} {least e : Int} : e ≤ farF r least l ↔ e ≤ least ∨ ∃ a, a ∈ l ∧ e ≤ r a := by
  unfold farF
  induction l generalizing least with
  | nil => simp
  | cons a l ih =>
    simp only [List.foldl_cons]
    rw [ih]
    constructor
    · rintro (h | ⟨b, hb, h⟩)
      · rcases Int.le_total least (r a) with h2 | h2
        · exact .inr ⟨a, by simp, by omega⟩
        · exact .inl (by omega)
      · exact .inr ⟨b, by simp [hb], h⟩
    · rintro (h | ⟨b, hb, h⟩)
      · exact .inl (by omega)
      · rcases List.mem_cons.1 hb with rfl | hb
        · exact .inl (by omega)
        · exact .inr ⟨b, hb, h⟩

/-- There is a way that takes the byte d ahead of the end with the atom a, and ends at e. L: the atoms at which it may end. -/
def way (L : Nat → Nat) (tk : Nat → Nat) (fo : Nat → Nat → Nat) (x : ByteArray) : Nat → Nat → Nat → Prop
  | 0, _, _ => False
  | d + 1, a, e => (tk (byteN x (x.size - (d + 1)))).testBit a = true ∧
      (((L (spotN (x.size - d) x.size)).testBit a = true ∧ e = x.size - d) ∨ ∃ b, (fo (spotN (x.size - d) x.size) a).testBit b = true ∧ way L tk fo x d b e)

theorem way_z {L : Nat → Nat} {tk : Nat → Nat} {fo : Nat → Nat → Nat} {x : ByteArray} {a e : Nat} : way L tk fo x 0 a e ↔ False := Iff.rfl
theorem way_s {L : Nat → Nat} {tk : Nat → Nat} {fo : Nat → Nat → Nat} {x : ByteArray} {d a e : Nat} : way L tk fo x (d + 1) a e ↔ (tk (byteN x (x.size - (d + 1)))).testBit a = true ∧
      (((L (spotN (x.size - d) x.size)).testBit a = true ∧ e = x.size - d) ∨ ∃ b, (fo (spotN (x.size - d) x.size) a).testBit b = true ∧ way L tk fo x d b e) := Iff.rfl

/-- The piece q matches from d ahead of the end to e. -/
def mat (q : Piece) (tk : Nat → Nat) (fo : Nat → Nat → Nat) (x : ByteArray) (d e : Nat) : Prop :=
  ((q (spotN (x.size - d) x.size)).e = true ∧ e = x.size - d) ∨ ∃ b, (q (spotN (x.size - d) x.size)).f.testBit b = true ∧ way (fun s => (q s).l) tk fo x d b e

/-- All sets are sets of 64 atoms. -/
structure Small (q : Piece) (fo : Nat → Nat → Nat) : Prop where
  f : ∀ s, (q s).f < 2 ^ 64
  fo : ∀ s a, fo s a < 2 ^ 64

theorem bitAt_lt {X b n : Nat} (hX : X < 2 ^ n) (h : X.testBit b = true) : b < n := by
  rcases Nat.lt_or_ge b n with h1 | h1
  · exact h1
  · have : X.testBit b = false := Nat.testBit_lt_two_pow (Nat.lt_of_lt_of_le hX (Nat.pow_le_pow_right (by decide) h1))
    rw [this] at h; cases h

section
variable {q : Piece} {tk : Nat → Nat} {fo : Nat → Nat → Nat} {x : ByteArray}

theorem row_takes (d a e : Nat) (h : way (fun s => (q s).l) tk fo x d a e) : (rowsF q tk fo x d).1.testBit a = true := by
  cases d with
  | zero => exact h.elim
  | succ d => exact h.1

theorem rows_way (h : Small q fo) : ∀ d a, (rowsF q tk fo x d).1.testBit a = true → ∀ e : Nat, ((e : Int) ≤ (rowsF q tk fo x d).2 a ↔ ∃ e', e ≤ e' ∧ way (fun s => (q s).l) tk fo x d a e')
  | 0, a, ht, e => by simp [rowsF] at ht
  | d + 1, a, ht, e => by
    have ih := rows_way h d
    simp only [rowsF]
    rw [le_farF]
    have ht' : (tk (byteN x (x.size - (d + 1)))).testBit a = true := ht
    constructor
    · rintro (h1 | ⟨b, hb, h1⟩)
      · by_cases c : (q (spotN (x.size - d) x.size)).l.testBit a = true
        · rw [if_pos c] at h1
          exact ⟨x.size - d, by omega, ht', .inl ⟨c, rfl⟩⟩
        · rw [if_neg c] at h1; omega
      · rw [mem_bitsOf, Nat.testBit_and, Bool.and_eq_true] at hb
        obtain ⟨e', h2, h3⟩ := (ih b hb.2.2 e).1 h1
        exact ⟨e', h2, ht', .inr ⟨b, hb.2.1, h3⟩⟩
    · rintro ⟨e', h1, -, ⟨c, rfl⟩ | ⟨b, hb, h3⟩⟩
      · rw [if_pos c]; exact .inl (by omega)
      · refine .inr ⟨b, ?_, (ih b (row_takes d b e' h3) e).2 ⟨e', h1, h3⟩⟩
        rw [mem_bitsOf, Nat.testBit_and, Bool.and_eq_true]
        exact ⟨bitAt_lt (h.fo _ _) hb, hb, row_takes d b e' h3⟩

/-- The farthest end. -/
theorem le_endD (h : Small q fo) (d e : Nat) : (e : Int) ≤ endD q tk fo x d ↔ ∃ e', e ≤ e' ∧ mat q tk fo x d e' := by
  unfold endD mat
  rw [le_farF]
  constructor
  · rintro (h1 | ⟨b, hb, h1⟩)
    · by_cases c : (q (spotN (x.size - d) x.size)).e = true
      · rw [if_pos c] at h1
        exact ⟨x.size - d, by omega, .inl ⟨c, rfl⟩⟩
      · rw [if_neg c] at h1; omega
    · rw [mem_bitsOf, Nat.testBit_and, Bool.and_eq_true] at hb
      obtain ⟨e', h2, h3⟩ := (rows_way h d b hb.2.2 e).1 h1
      exact ⟨e', h2, .inr ⟨b, hb.2.1, h3⟩⟩
  · rintro ⟨e', h1, ⟨c, rfl⟩ | ⟨b, hb, h3⟩⟩
    · rw [if_pos c]; exact .inl (by omega)
    · refine .inr ⟨b, ?_, (rows_way h d b (row_takes d b e' h3) e).2 ⟨e', h1, h3⟩⟩
      rw [mem_bitsOf, Nat.testBit_and, Bool.and_eq_true]
      exact ⟨bitAt_lt (h.f _) hb, hb, row_takes d b e' h3⟩

theorem way_bounds {L : Nat → Nat} : ∀ d a e, d ≤ x.size → way L tk fo x d a e → x.size - d < e ∧ e ≤ x.size
  | 0, _, _, _, h => h.elim
  | d + 1, a, e, hd, h => by
    rcases h.2 with ⟨-, rfl⟩ | ⟨b, -, h2⟩
    · omega
    · have := way_bounds d b e (by omega) h2; omega
theorem mat_bounds {d e : Nat} (hd : d ≤ x.size) (h : mat q tk fo x d e) : x.size - d ≤ e ∧ e ≤ x.size := by
  rcases h with ⟨-, rfl⟩ | ⟨b, -, h⟩
  · omega
  · have := way_bounds d b e hd h; omega

/-- What is said of the ends at a place. -/
def matF (q : Piece) (tk : Nat → Nat) (fo : Nat → Nat → Nat) (x : ByteArray) (k e : Nat) : Prop := mat q tk fo x (x.size - k) e

/-- E tells the farthest ends of M. -/
def Far (E : Nat → Int) (M : Nat → Nat → Prop) (n : Nat) : Prop := ∀ k, k ≤ n → (E k = -1 ∧ ∀ e, ¬ M k e) ∨ ∃ e, E k = (e : Nat) ∧ k ≤ e ∧ e ≤ n ∧ M k e ∧ ∀ e', M k e' → e' ≤ e

theorem end_far (h : Small q fo) : Far (endF q tk fo x) (matF q tk fo x) x.size := by
  intro k hk
  have hd : x.size - k ≤ x.size := by omega
  have hl := fun e => le_endD (tk := tk) (x := x) h (x.size - k) e
  have hb := end_le q tk fo x (x.size - k)
  unfold endF matF
  by_cases c : endD q tk fo x (x.size - k) = -1
  · left
    refine ⟨c, fun e he => ?_⟩
    have := (hl e).2 ⟨e, Nat.le_refl e, he⟩
    omega
  · right
    obtain ⟨n, hn⟩ : ∃ n : Nat, endD q tk fo x (x.size - k) = n := ⟨(endD q tk fo x (x.size - k)).toNat, by omega⟩
    obtain ⟨e', h1, h2⟩ := (hl n).1 (by omega)
    have h3 := (hl e').2 ⟨e', Nat.le_refl _, h2⟩
    have h4 : e' = n := by omega
    subst h4
    have h5 := mat_bounds hd h2
    exact ⟨e', hn, by omega, by omega, h2, fun e hm => by have := (hl e).2 ⟨e, Nat.le_refl e, hm⟩; omega⟩

end
end Go.Proofs.YtakbfoegkjaphaaGreatDoor

namespace Go.Proofs.YtakbfoegkjaphaaGreatDoor

section
variable {q : Piece} {tk : Nat → Nat} {fo : Nat → Nat → Nat} {x : ByteArray}

theorem mat_opt {d e : Nat} : mat (eitherF q nothingF) tk fo x d e ↔ mat q tk fo x d e ∨ e = x.size - d := by
  unfold mat eitherF nothingF
  simp only [Bool.or_true, Nat.or_zero, true_and]
  constructor
  · rintro (h | h)
    · exact .inr h
    · exact .inl (.inr h)
  · rintro ((h | h) | h)
    · exact .inl h.2
    · exact .inr h
    · exact .inl h

theorem way_more {L : Nat → Nat} {fo' : Nat → Nat → Nat} (h : ∀ s a b, (fo s a).testBit b = true → (fo' s a).testBit b = true) : ∀ d a e, way L tk fo x d a e → way L tk fo' x d a e
  | 0, _, _, hw => hw
  | d + 1, a, e, hw => by
    refine ⟨hw.1, ?_⟩
    rcases hw.2 with h1 | ⟨b, h1, h2⟩
    · exact .inl h1
    · exact .inr ⟨b, h _ _ _ h1, way_more h d b e h2⟩

theorem tie_more (r : Piece) (s a b : Nat) (h : (fo s a).testBit b = true) : (tieP fo q r s a).testBit b = true := by
  unfold tieP
  split
  · rw [Nat.testBit_or, h]; rfl
  · exact h

theorem mat_plus {d e : Nat} (h : mat q tk fo x d e) : mat q tk (tieP fo q q) x d e := by
  rcases h with h | ⟨b, h1, h2⟩
  · exact .inl h
  · exact .inr ⟨b, h1, way_more (tie_more q) d b e h2⟩

theorem way_plus_back : ∀ d a e, way (fun s => (q s).l) tk (tieP fo q q) x d a e → ∃ e', way (fun s => (q s).l) tk fo x d a e'
  | 0, _, _, h => h.elim
  | d + 1, a, e, h => by
    by_cases c : (q (spotN (x.size - d) x.size)).l.testBit a = true
    · exact ⟨x.size - d, h.1, .inl ⟨c, rfl⟩⟩
    · rcases h.2 with h1 | ⟨b, h1, h2⟩
      · exact absurd h1.1 c
      · unfold tieP at h1
        rw [if_neg c] at h1
        obtain ⟨e', h3⟩ := way_plus_back d b e h2
        exact ⟨e', h.1, .inr ⟨b, h1, h3⟩⟩

theorem mat_plus_back {d e : Nat} (h : mat q tk (tieP fo q q) x d e) : ∃ e', mat q tk fo x d e' := by
  rcases h with h | ⟨b, h1, h2⟩
  · exact ⟨e, .inl h⟩
  · obtain ⟨e', h3⟩ := way_plus_back d b e h2
    exact ⟨e', .inr ⟨b, h1, h3⟩⟩

end

section
variable {A : Nat} {q1 q2 : Piece} {tk1 tk2 : Nat → Nat} {fo1 fo2 : Nat → Nat → Nat} {x : ByteArray}

/-- Nothing of the first goes beyond its A atoms. -/
structure Low (A : Nat) (q : Piece) (tk : Nat → Nat) (fo : Nat → Nat → Nat) : Prop where
  f : ∀ s, (q s).f < 2 ^ A
  l : ∀ s, (q s).l < 2 ^ A
  tk : ∀ b, tk b < 2 ^ A
  fo : ∀ s a, fo s a < 2 ^ A

theorem low_high {A X Y b : Nat} (hX : X < 2 ^ A) : (X ||| (Y <<< A)).testBit b = if b < A then X.testBit b else Y.testBit (b - A) := by
  rw [Nat.testBit_or, Nat.testBit_shiftLeft]
  by_cases c : b < A
  · rw [if_pos c, decide_eq_false (by omega)]; simp
  · have : X.testBit b = false := Nat.testBit_lt_two_pow (Nat.lt_of_lt_of_le hX (Nat.pow_le_pow_right (by decide) (by omega)))
    rw [if_neg c, this, decide_eq_true (by omega)]; simp

def tkOr (A : Nat) (tk1 tk2 : Nat → Nat) : Nat → Nat := fun b => tk1 b ||| (tk2 b <<< A)
def foOr (A : Nat) (fo1 fo2 : Nat → Nat → Nat) : Nat → Nat → Nat := fun sp a => if a < A then fo1 sp a else fo2 sp (a - A) <<< A

theorem way_or (h : Low A q1 tk1 fo1) : ∀ d a e, way (fun s => (q1 s).l ||| ((q2 s).l <<< A)) (tkOr A tk1 tk2) (foOr A fo1 fo2) x d a e ↔
    if a < A then way (fun s => (q1 s).l) tk1 fo1 x d a e else way (fun s => (q2 s).l) tk2 fo2 x d (a - A) e
  | 0, a, e => by simp [way]
  | d + 1, a, e => by
    have ih := way_or h d
    rw [way_s, low_high (h.l _)]
    unfold tkOr
    rw [low_high (h.tk _)]
    unfold foOr
    by_cases c : a < A
    · rw [if_pos c, if_pos c, if_pos c, if_pos c, way_s]
      refine and_congr Iff.rfl (or_congr Iff.rfl ⟨?_, ?_⟩)
      · rintro ⟨b, h1, h2⟩
        have hb := bitAt_lt (h.fo _ _) h1
        have := (ih b e).1 h2
        rw [if_pos hb] at this
        exact ⟨b, h1, this⟩
      · rintro ⟨b, h1, h2⟩
        have hb := bitAt_lt (h.fo _ _) h1
        exact ⟨b, h1, (ih b e).2 (by rw [if_pos hb]; exact h2)⟩
    · rw [if_neg c, if_neg c, if_neg c, if_neg c, way_s]
      refine and_congr Iff.rfl (or_congr Iff.rfl ⟨?_, ?_⟩)
      · rintro ⟨b, h1, h2⟩
        rw [Nat.testBit_shiftLeft, Bool.and_eq_true, decide_eq_true_eq] at h1
        have := (ih b e).1 h2
        rw [if_neg (by omega)] at this
        exact ⟨b - A, h1.2, this⟩
      · rintro ⟨b, h1, h2⟩
        refine ⟨b + A, ?_, (ih (b + A) e).2 ?_⟩
        · rw [Nat.testBit_shiftLeft, Bool.and_eq_true, decide_eq_true_eq]
          exact ⟨by omega, by rw [Nat.add_sub_cancel]; exact h1⟩
        · rw [if_neg (by omega), Nat.add_sub_cancel]; exact h2

theorem mat_or (h : Low A q1 tk1 fo1) {d e : Nat} : mat (eitherF q1 (shP A q2)) (tkOr A tk1 tk2) (foOr A fo1 fo2) x d e ↔ mat q1 tk1 fo1 x d e ∨ mat q2 tk2 fo2 x d e := by
  unfold mat eitherF shP
  simp only [Bool.or_eq_true]
  have hw := way_or (q2 := q2) (tk2 := tk2) (fo2 := fo2) (x := x) h d
  constructor
  · rintro (⟨h1 | h1, h2⟩ | ⟨b, h1, h2⟩)
    · exact .inl (.inl ⟨h1, h2⟩)
    · exact .inr (.inl ⟨h1, h2⟩)
    · rw [low_high (h.f _)] at h1
      have h3 := (hw b e).1 h2
      by_cases c : b < A
      · rw [if_pos c] at h1 h3; exact .inl (.inr ⟨b, h1, h3⟩)
      · rw [if_neg c] at h1 h3; exact .inr (.inr ⟨b - A, h1, h3⟩)
  · rintro ((⟨h1, h2⟩ | ⟨b, h1, h2⟩) | (⟨h1, h2⟩ | ⟨b, h1, h2⟩))
    · exact .inl ⟨.inl h1, h2⟩
    · have c := bitAt_lt (h.f _) h1
      exact .inr ⟨b, by rw [low_high (h.f _), if_pos c]; exact h1, (hw b e).2 (by rw [if_pos c]; exact h2)⟩
    · exact .inl ⟨.inr h1, h2⟩
    · refine .inr ⟨b + A, ?_, (hw (b + A) e).2 ?_⟩
      · rw [low_high (h.f _), if_neg (by omega), Nat.add_sub_cancel]; exact h1
      · rw [if_neg (by omega), Nat.add_sub_cancel]; exact h2

end

section
variable {q : Piece} {tk : Nat → Nat} {fo : Nat → Nat → Nat} {x : ByteArray}

/-- Every spot is alike. -/
structure Bare (q : Piece) (fo : Nat → Nat → Nat) : Prop where
  q : ∀ s s', q s = q s'
  fo : ∀ s s', fo s = fo s'

theorem spot_zero (n : Nat) : spotN 0 n &&& 1 ≠ 0 := by unfold spotN; rw [if_pos rfl]; split <;> decide
theorem spot_end (k : Nat) : spotN k k &&& 2 ≠ 0 := by unfold spotN; rw [if_pos rfl]; split <;> decide

def ancQ (q : Piece) : Piece := joinF (joinF (anchorF 1) q) (anchorF 2)
theorem ancQ_l (q : Piece) {s : Nat} (h : s &&& 2 ≠ 0) (b : Nat) (hb : (q s).l.testBit b = true) : (ancQ q s).l.testBit b = true := by
  unfold ancQ joinF joinedF anchorF
  simp only
  rw [if_pos (by simpa using h), Nat.zero_or]
  split
  · rw [Nat.or_zero]; exact hb
  · exact hb
theorem ancQ_f (q : Piece) {s : Nat} (h : s &&& 1 ≠ 0) (b : Nat) (hb : (q s).f.testBit b = true) : (ancQ q s).f.testBit b = true := by
  unfold ancQ joinF joinedF anchorF
  have h' : (s &&& 1 != 0) = true := by simpa using h
  simp only [h', if_true, Bool.true_and, Nat.zero_or]
  split
  · rw [Nat.or_zero]; exact hb
  · exact hb
theorem ancQ_e (q : Piece) {s : Nat} (h1 : s &&& 1 ≠ 0) (h2 : s &&& 2 ≠ 0) (h : (q s).e = true) : (ancQ q s).e = true := by
  unfold ancQ joinF joinedF anchorF
  have h' : (s &&& 1 != 0) = true := by simpa using h1
  have h'' : (s &&& 2 != 0) = true := by simpa using h2
  simp only [h', h'', h, Bool.and_self]

theorem way_anc (hb : Bare q fo) {i n : Nat} (hin : i + n ≤ x.size) (y : ByteArray) (hy : y.size = n) (hy2 : ∀ j, j < n → byteN y j = byteN x (i + j)) :
    ∀ d a, d ≤ n → way (fun s => (q s).l) tk fo x (d + (x.size - (i + n))) a (i + n) → way (fun s => (ancQ q s).l) tk fo y d a n
  | 0, a, hd, h => by
    have := way_bounds (x := x) _ a (i + n) (by omega) h
    omega
  | d + 1, a, hd, h => by
    rw [show d + 1 + (x.size - (i + n)) = (d + (x.size - (i + n))) + 1 by omega, way_s] at h
    obtain ⟨h1, h2⟩ := h
    rw [way_s, hy]
    refine ⟨?_, ?_⟩
    · rw [hy2 _ (by omega), show i + (n - (d + 1)) = x.size - (d + (x.size - (i + n)) + 1) by omega]; exact h1
    · rcases h2 with ⟨h3, h4⟩ | ⟨b, h3, h4⟩
      · have hd0 : d = 0 := by omega
        subst hd0
        left
        refine ⟨ancQ_l q (spot_end _) a ?_, rfl⟩
        rw [hb.q _ (spotN (x.size - (0 + (x.size - (i + n)))) x.size)]; exact h3
      · right
        refine ⟨b, ?_, way_anc hb hin y hy hy2 d b (by omega) h4⟩
        rw [hb.fo _ (spotN (x.size - (d + (x.size - (i + n)))) x.size)]; exact h3

/-- What matches does so by itself. -/
theorem mat_anc (hb : Bare q fo) {i n : Nat} (hin : i + n ≤ x.size) (y : ByteArray) (hy : y.size = n) (hy2 : ∀ j, j < n → byteN y j = byteN x (i + j)) (h : mat q tk fo x (x.size - i) (i + n)) :
    mat (ancQ q) tk fo y y.size n := by
  unfold mat
  rw [Nat.sub_self, hy]
  rcases h with ⟨h1, h2⟩ | ⟨b, h1, h2⟩
  · have hn : n = 0 := by omega
    subst hn
    left
    refine ⟨ancQ_e q (spot_zero _) (spot_end _) ?_, rfl⟩
    rw [hb.q _ (spotN (x.size - (x.size - i)) x.size)]; exact h1
  · right
    refine ⟨b, ancQ_f q (spot_zero _) b ?_, ?_⟩
    · rw [hb.q _ (spotN (x.size - (x.size - i)) x.size)]; exact h1
    · refine way_anc hb hin y hy hy2 n b (Nat.le_refl _) ?_
      rw [show n + (x.size - (i + n)) = x.size - i by omega]; exact h2

end
end Go.Proofs.YtakbfoegkjaphaaGreatDoor

