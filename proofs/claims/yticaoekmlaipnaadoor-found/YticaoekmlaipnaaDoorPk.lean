/-
  What is read of (p)?, (p)*, (p)+, (p)|(q) and ^(p)$, once p and q are patterns.
-/
import Derived.Test.YticaoekmlaipnaaDoorPj
set_option linter.unusedSimpArgs false
set_option linter.unusedVariables false
namespace Go.Proofs.YticaoekmlaipnaaDoor

section
variable {p q t : ByteArray}

theorem shP_zero (r : Piece) : shP 0 r = r := by funext sp; simp [shP]
theorem grp_zero (p : ByteArray) : grpS st0 p = { (readF p).2 with pos := (readF p).2.pos + 2 } := by
  unfold grpS shS advF
  simp only [st0, Nat.zero_add, Nat.add_zero, Nat.not_lt_zero, if_false, Nat.shiftLeft_zero, Nat.zero_or, Nat.sub_zero]

theorem seq_stop {s : St} (n : Nat) (r : Piece) (h : peekF t s = -1 ∨ peekF t s = 41 ∨ peekF t s = 124 ∨ peekF t s = 42 ∨ peekF t s = 43 ∨ peekF t s = 63) : seqLF t (n + 1) r s = (r, s) := by
  rw [seqLF_s, if_pos h]
theorem alt_stop {s : St} (n : Nat) (r : Piece) (h : peekF t s ≠ 124) : altLF t (n + 1) r s = (r, s) := by
  rw [altLF_s, if_neg h]
theorem seq_go {s : St} (n : Nat) (r x : Piece) (s' : St) (h : peekF t s = 40 ∨ peekF t s = 94 ∨ peekF t s = 36) (hp : partF t n s = (x, s')) :
    seqLF t (n + 1) r s = seqLF t n (joinF r x) { s' with fo := tieP s'.fo r x } := by
  rw [seqLF_s, if_neg (by rcases h with h | h | h <;> rw [h] <;> decide), hp]

/-- t is p in brackets with a byte behind it. -/
structure Grp (p t : ByteArray) (c : Int) : Prop where
  size : t.size = p.size + 3
  open_ : byteAt t 0 = 40
  in_ : ∀ i, i < p.size → byteAt t (i + 1) = byteAt p i
  close : byteAt t (p.size + 1) = 41
  mark : byteAt t (p.size + 2) = c

theorem Grp.ctx {c : Int} (h : Grp p t c) : Ctx p t (st0.pos + 1) := ⟨h.in_, h.close⟩

theorem st0_foz : FoZ st0 := fun _ _ _ => rfl

/-- All but the mark. -/
theorem Grp.atom {c : Int} (h : Grp p t c) (hok : readOk p = true) (hp : p.size ≤ 50) (n : Nat) (hn : 6 * p.size + 3 ≤ n) :
    atomF t (n + 1) st0 = ((readF p).1, { (readF p).2 with pos := p.size + 2 }) := by
  have e := group_atom h.ctx rfl st0_foz (by rw [peek_at rfl]; exact h.open_) hok hp n hn
  rw [e, grp_zero, (ok_parts hok).2]
  show (shP 0 _, _) = _
  rw [shP_zero]

theorem Grp.read {c : Int} (h : Grp p t c) {r : Piece} {f : Nat → Nat → Nat} (hp : p.size ≤ 50) (hf : (readF p).2.fault = false)
    (hpart : partF t 397 st0 = (r, { (readF p).2 with pos := p.size + 3, fo := f })) : readF t = (r, { (readF p).2 with pos := p.size + 3, fo := f }) := by
  have pk : ∀ g, peekF t { (readF p).2 with pos := p.size + 3, fo := g } = -1 := fun g => by
    rw [peek_at (by exact hf)]; exact byteAt_out (by rw [h.size]; exact Nat.lt_irrefl _)
  show altF t 400 st0 = _
  rw [show (400 : Nat) = 399 + 1 from rfl, altF_s, show (399 : Nat) = 398 + 1 from rfl, seqF_s, show (398 : Nat) = 397 + 1 from rfl, seq_go 397 nothingF _ _ (.inl (by rw [peek_at rfl]; exact h.open_)) hpart,
    join_nothing, tie_nothing, show (397 : Nat) = 396 + 1 from rfl, seq_stop _ _ (.inl (pk f)), alt_stop _ _ (by rw [pk f]; decide)]

theorem Grp.opt (h : Grp p t 63) (hok : readOk p = true) (hp : p.size ≤ 47) : readF t = (eitherF (readF p).1 nothingF, { (readF p).2 with pos := p.size + 3 }) := by
  have hf := (ok_parts hok).1
  refine h.read (by omega) hf ?_
  rw [show (397 : Nat) = 396 + 1 from rfl, partF_s, h.atom hok (by omega) 395 (by omega), partLF_s]
  simp only
  have p1 : peekF t { (readF p).2 with pos := p.size + 2 } = 63 := by rw [peek_at (by exact hf)]; exact h.mark
  have p2 : peekF t (advF { (readF p).2 with pos := p.size + 2 }) = -1 := by rw [peek_at (by exact hf)]; exact byteAt_out (by rw [h.size]; exact Nat.lt_irrefl _)
  rw [p1, if_neg (by decide), if_neg (by decide), if_pos rfl, show (395 : Nat) = 394 + 1 from rfl, partLF_s, p2, if_neg (by decide), if_neg (by decide), if_neg (by decide)]
  rfl
theorem Grp.plus (h : Grp p t 43) (hok : readOk p = true) (hp : p.size ≤ 47) : readF t = ((readF p).1, { (readF p).2 with pos := p.size + 3, fo := tieP (readF p).2.fo (readF p).1 (readF p).1 }) := by
  have hf := (ok_parts hok).1
  refine h.read (by omega) hf ?_
  rw [show (397 : Nat) = 396 + 1 from rfl, partF_s, h.atom hok (by omega) 395 (by omega), partLF_s]
  simp only
  have p1 : peekF t { (readF p).2 with pos := p.size + 2 } = 43 := by rw [peek_at (by exact hf)]; exact h.mark
  have p2 : peekF t (advF { (readF p).2 with pos := p.size + 2, fo := tieP (readF p).2.fo (readF p).1 (readF p).1 }) = -1 := by rw [peek_at (by exact hf)]; exact byteAt_out (by rw [h.size]; exact Nat.lt_irrefl _)
  rw [p1, if_neg (by decide), if_pos rfl, show (395 : Nat) = 394 + 1 from rfl, partLF_s, p2, if_neg (by decide), if_neg (by decide), if_neg (by decide)]
  rfl
theorem Grp.star (h : Grp p t 42) (hok : readOk p = true) (hp : p.size ≤ 47) : readF t = (eitherF (readF p).1 nothingF, { (readF p).2 with pos := p.size + 3, fo := tieP (readF p).2.fo (readF p).1 (readF p).1 }) := by
  have hf := (ok_parts hok).1
  refine h.read (by omega) hf ?_
  rw [show (397 : Nat) = 396 + 1 from rfl, partF_s, h.atom hok (by omega) 395 (by omega), partLF_s]
  simp only
  have p1 : peekF t { (readF p).2 with pos := p.size + 2 } = 42 := by rw [peek_at (by exact hf)]; exact h.mark
  have p2 : peekF t (advF { (readF p).2 with pos := p.size + 2, fo := tieP (readF p).2.fo (readF p).1 (readF p).1 }) = -1 := by rw [peek_at (by exact hf)]; exact byteAt_out (by rw [h.size]; exact Nat.lt_irrefl _)
  rw [p1, if_pos rfl, show (395 : Nat) = 394 + 1 from rfl, partLF_s, p2, if_neg (by decide), if_neg (by decide), if_neg (by decide)]
  rfl

theorem ok_at {r : Piece} {s : St} (h : readF t = (r, s)) (h1 : s.fault = false) (h2 : t.size ≤ s.pos) : readOk t = true := ok_of (by rw [h]; exact h1) (by rw [h]; exact h2)

/-- t is p in brackets or q in brackets. -/
structure Or2 (p q t : ByteArray) : Prop where
  size : t.size = p.size + q.size + 5
  open_ : byteAt t 0 = 40
  in_ : ∀ i, i < p.size → byteAt t (i + 1) = byteAt p i
  close : byteAt t (p.size + 1) = 41
  bar : byteAt t (p.size + 2) = 124
  open2 : byteAt t (p.size + 3) = 40
  in2 : ∀ i, i < q.size → byteAt t (i + (p.size + 4)) = byteAt q i
  close2 : byteAt t (q.size + (p.size + 4)) = 41

/-- What is read of p or q: the state. -/
def orS (p q : ByteArray) : St := ⟨p.size + q.size + 5, false, (readF q).2.atoms + (readF p).2.atoms, fun b => (readF p).2.tk b ||| ((readF q).2.tk b <<< (readF p).2.atoms),
  fun sp a => if a < (readF p).2.atoms then (readF p).2.fo sp a else (readF q).2.fo sp (a - (readF p).2.atoms) <<< (readF p).2.atoms⟩

theorem Or2.read (h : Or2 p q t) (hok : readOk p = true) (hok2 : readOk q = true) (hp : p.size + q.size ≤ 45) :
    readF t = (eitherF (readF p).1 (shP (readF p).2.atoms (readF q).1), orS p q) := by
  have hf := (ok_parts hok).1
  have hf2 := (ok_parts hok2).1
  have e1 : partF t 397 st0 = ((readF p).1, { (readF p).2 with pos := p.size + 2 }) := by
    have hb : byteAt t (st0.pos + p.size + 2) = 124 := by rw [show st0.pos + p.size + 2 = p.size + 2 by show 0 + p.size + 2 = _; omega]; exact h.bar
    rw [group_part (B := st0) ⟨h.in_, h.close⟩ rfl st0_foz h.open_ hok (by omega) 397 (by omega) (by rw [hb]; decide), grp_zero, (ok_parts hok).2]
    show (shP 0 _, _) = _
    rw [shP_zero]
  have p1 : peekF t { (readF p).2 with pos := p.size + 2 } = 124 := by rw [peek_at (by exact hf)]; exact h.bar
  have hz : FoZ (advF { (readF p).2 with pos := p.size + 2 }) := fun sp a ha => read_foz p sp a ha
  have p2 : peekF t (advF { (readF p).2 with pos := p.size + 2 }) = 40 := by rw [peek_at (by exact hf)]; exact h.open2
  have e2 : ∀ n, 6 * q.size + 10 ≤ n → partF t n (advF { (readF p).2 with pos := p.size + 2 }) = (shP (readF p).2.atoms (readF q).1, orS p q) := fun n hn => by
    have hb : byteAt t ((advF { (readF p).2 with pos := p.size + 2 }).pos + q.size + 2) = -1 := byteAt_out (by rw [h.size]; show ¬ (p.size + 2 + 1 + q.size + 2 < _); omega)
    rw [group_part (B := advF { (readF p).2 with pos := p.size + 2 }) ⟨h.in2, h.close2⟩ hf hz h.open2 hok2 (by omega) n hn (by rw [hb]; decide)]
    unfold grpS shS orS advF
    simp only [hf2, (ok_parts hok2).2]
    rw [show q.size + (p.size + 2 + 1 + 1) + 1 = p.size + q.size + 5 by omega]
  have p3 : peekF t (orS p q) = -1 := by rw [peek_at rfl]; exact byteAt_out (by rw [h.size]; exact Nat.lt_irrefl _)
  have s1 : seqF t 399 st0 = ((readF p).1, { (readF p).2 with pos := p.size + 2 }) := by
    rw [show (399 : Nat) = 398 + 1 from rfl, seqF_s, show (398 : Nat) = 397 + 1 from rfl, seq_go 397 nothingF _ _ (.inl (by rw [peek_at rfl]; exact h.open_)) e1, join_nothing, tie_nothing, show (397 : Nat) = 396 + 1 from rfl, seq_stop _ _ (.inr (.inr (.inl p1)))]
  have s2 : seqF t 398 (advF { (readF p).2 with pos := p.size + 2 }) = (shP (readF p).2.atoms (readF q).1, orS p q) := by
    rw [show (398 : Nat) = 397 + 1 from rfl, seqF_s, show (397 : Nat) = 396 + 1 from rfl, seq_go 396 nothingF _ _ (.inl p2) (e2 396 (by omega)), join_nothing, tie_nothing, show (396 : Nat) = 395 + 1 from rfl, seq_stop _ _ (.inl p3)]
  show altF t 400 st0 = _
  rw [show (400 : Nat) = 399 + 1 from rfl, altF_s, s1, show (399 : Nat) = 398 + 1 from rfl, altLF_s]
  simp only
  rw [if_pos p1, s2, show (398 : Nat) = 397 + 1 from rfl, alt_stop _ _ (by rw [p3]; decide)]

/-- t is p in brackets, between ^ and $. -/
structure Anc (p t : ByteArray) : Prop where
  size : t.size = p.size + 4
  begin_ : byteAt t 0 = 94
  open_ : byteAt t 1 = 40
  in_ : ∀ i, i < p.size → byteAt t (i + 2) = byteAt p i
  close : byteAt t (p.size + 2) = 41
  end_ : byteAt t (p.size + 3) = 36

theorem tie_anchor (fo : Nat → Nat → Nat) (m : Nat) (r : Piece) : tieP fo (anchorF m) r = fo := by funext sp a; simp [tieP, anchorF]
theorem tie_to_anchor (fo : Nat → Nat → Nat) (m : Nat) (r : Piece) : tieP fo r (anchorF m) = fo := by funext sp a; simp [tieP, anchorF]

theorem Anc.read (h : Anc p t) (hok : readOk p = true) (hp : p.size ≤ 46) :
    readF t = (joinF (joinF (anchorF 1) (readF p).1) (anchorF 2), { (readF p).2 with pos := p.size + 4 }) := by
  have hf := (ok_parts hok).1
  have pa : ∀ (n : Nat) (s : St) (c : Int) (m : Nat), (c = 94 ∧ m = 1 ∨ c = 36 ∧ m = 2) → peekF t s = c → peekF t (advF s) ≠ 42 ∧ peekF t (advF s) ≠ 43 ∧ peekF t (advF s) ≠ 63 → partF t (n + 2) s = (anchorF m, advF s) := by
    intro n s c m hc hs hn
    have e : atomF t (n + 1) s = (anchorF m, advF s) := by
      rw [atomF_s, hs]
      rcases hc with ⟨rfl, rfl⟩ | ⟨rfl, rfl⟩
      · rw [if_neg (by decide), if_neg (by decide), if_neg (by decide), if_pos rfl]
      · rw [if_neg (by decide), if_neg (by decide), if_neg (by decide), if_neg (by decide), if_pos rfl]
    rw [partF_s, e, partLF_s, if_neg hn.1, if_neg hn.2.1, if_neg hn.2.2]
  have q0 : peekF t st0 = 94 := by rw [peek_at rfl]; exact h.begin_
  have q1 : peekF t (advF st0) = 40 := by rw [peek_at rfl]; exact h.open_
  have q2 : peekF t { (readF p).2 with pos := p.size + 3 } = 36 := by rw [peek_at (by exact hf)]; exact h.end_
  have q3 : peekF t { (readF p).2 with pos := p.size + 4 } = -1 := by rw [peek_at (by exact hf)]; exact byteAt_out (by rw [h.size]; exact Nat.lt_irrefl _)
  have e1 : partF t 397 st0 = (anchorF 1, advF st0) := pa 395 st0 94 1 (.inl ⟨rfl, rfl⟩) q0 (by rw [q1]; decide)
  have e2 : partF t 396 (advF st0) = ((readF p).1, { (readF p).2 with pos := p.size + 3 }) := by
    have hb : byteAt t ((advF st0).pos + p.size + 2) = 36 := by rw [show (advF st0).pos + p.size + 2 = p.size + 3 by show 0 + 1 + p.size + 2 = _; omega]; exact h.end_
    rw [group_part (B := advF st0) ⟨h.in_, h.close⟩ rfl (fun _ _ _ => rfl) h.open_ hok (by omega) 396 (by omega) (by rw [hb]; decide)]
    show (shP 0 _, _) = _
    rw [shP_zero]
    unfold grpS shS advF
    simp only [st0, Nat.zero_add, Nat.add_zero, Nat.not_lt_zero, if_false, Nat.shiftLeft_zero, Nat.zero_or, Nat.sub_zero, (ok_parts hok).2]
  have e3 : partF t 395 { (readF p).2 with pos := p.size + 3 } = (anchorF 2, { (readF p).2 with pos := p.size + 4 }) := pa 393 _ 36 2 (.inr ⟨rfl, rfl⟩) q2 (by
    rw [show advF { (readF p).2 with pos := p.size + 3 } = { (readF p).2 with pos := p.size + 4 } from rfl, q3]; decide)
  show altF t 400 st0 = _
  rw [show (400 : Nat) = 399 + 1 from rfl, altF_s, show (399 : Nat) = 398 + 1 from rfl, seqF_s, show (398 : Nat) = 397 + 1 from rfl, seq_go 397 nothingF _ _ (.inr (.inl q0)) e1, join_nothing, tie_nothing,
    show (397 : Nat) = 396 + 1 from rfl, seq_go 396 _ _ _ (.inl q1) e2]
  simp only [tie_anchor]
  rw [show (396 : Nat) = 395 + 1 from rfl, seq_go 395 _ _ _ (.inr (.inr q2)) e3]
  simp only [tie_to_anchor]
  rw [show (395 : Nat) = 394 + 1 from rfl, seq_stop _ _ (.inl q3), alt_stop _ _ (by rw [q3]; decide)]

end
end Go.Proofs.YticaoekmlaipnaaDoor
