/-
  What is read of (p)?, (p)*, (p)+, (p)|(q) and ^(p)$.
-/
import Derived.Test.YticaoekmlaipnaaDoorPi
import Derived.Test.YticaoekmlaipnaaDoorWv
set_option linter.unusedSimpArgs false
set_option linter.unusedVariables false
namespace Go.Proofs.YticaoekmlaipnaaDoor

/-- Behind atoms that are not there yet comes nothing. -/
def FoZ (s : St) : Prop := ∀ sp a, s.atoms ≤ a → s.fo sp a = 0

section
variable {p t : ByteArray} {s : St}

theorem FoZ.tie (h : FoZ s) {q r : Piece} (hq : PB s.atoms q) : FoZ { s with fo := tieP s.fo q r } := by
  intro sp a ha
  show tieP s.fo q r sp a = 0
  unfold tieP
  have hl : (q sp).l.testBit a = false := Nat.testBit_lt_two_pow (Nat.lt_of_lt_of_le (hq sp).2 (Nat.pow_le_pow_right (by decide) ha))
  rw [if_neg (by rw [hl]; decide)]
  exact h sp a ha
theorem FoZ.near {s' : St} (h : FoZ s) (hn : Near t s s') : FoZ s' := by
  intro sp a ha
  rw [hn.fo]
  exact h sp a (by rw [← hn.atoms]; exact ha)
theorem FoZ.takeOf (h : FoZ s) (P : Nat → Bool) : FoZ (takeOfF s P).2 := by
  intro sp a ha
  exact h sp a (Nat.le_of_succ_le ha)

structure FoAll (t : ByteArray) (n : Nat) : Prop where
  alt : ∀ s, Inv t s → FoZ s → FoZ (altF t n s).2
  altL : ∀ q s, Inv t s → PB s.atoms q → FoZ s → FoZ (altLF t n q s).2
  seq : ∀ s, Inv t s → FoZ s → FoZ (seqF t n s).2
  seqL : ∀ q s, Inv t s → PB s.atoms q → FoZ s → FoZ (seqLF t n q s).2
  part : ∀ s, Inv t s → peekF t s ≠ -1 → FoZ s → FoZ (partF t n s).2
  partL : ∀ q s, Inv t s → PB s.atoms q → FoZ s → FoZ (partLF t n q s).2
  atom : ∀ s, Inv t s → peekF t s ≠ -1 → FoZ s → FoZ (atomF t n s).2

theorem foAll (t : ByteArray) : ∀ n, FoAll t n
  | 0 => ⟨fun _ _ h => h, fun _ _ _ _ h => h, fun _ _ h => h, fun _ _ _ _ h => h, fun _ _ _ h => h, fun _ _ _ _ h => h, fun _ _ _ h => h⟩
  | n + 1 => by
    have ih := foAll t n
    have gv := givesAll t n
    refine ⟨fun s hi h => ?_, fun q s hi hq h => ?_, fun s hi h => ?_, fun q s hi hq h => ?_, fun s hi hp h => ?_, fun q s hi hq h => ?_, fun s hi hp h => ?_⟩
    · rw [altF_s]; have g := gv.seq s hi; exact ih.altL _ _ g.inv g.pb (ih.seq _ hi h)
    · rw [altLF_s]
      by_cases c : peekF t s = 124
      · rw [if_pos c]
        have hp : peekF t s ≠ -1 := by rw [c]; decide
        have ha := hi.adv hp
        have g := gv.seq _ ha
        exact ih.altL _ _ g.inv ((hq.mono g.al).either g.pb) (ih.seq _ ha (h.near (near_adv hp)))
      · rw [if_neg c]; exact h
    · rw [seqF_s]; exact ih.seqL _ _ hi (PB.nothing _) h
    · rw [seqLF_s]
      by_cases c : peekF t s = -1 ∨ peekF t s = 41 ∨ peekF t s = 124 ∨ peekF t s = 42 ∨ peekF t s = 43 ∨ peekF t s = 63
      · rw [if_pos c]; exact h
      · rw [if_neg c]
        have hp : peekF t s ≠ -1 := fun e => c (.inl e)
        have g := gv.part s hi hp
        exact ih.seqL _ _ (g.inv.tie g.pb) ((hq.mono g.al).join g.pb) ((ih.part s hi hp h).tie (hq.mono g.al))
    · rw [partF_s]; have g := gv.atom s hi hp; exact ih.partL _ _ g.inv g.pb (ih.atom _ hi hp h)
    · rw [partLF_s]
      by_cases c1 : peekF t s = 42
      · rw [if_pos c1]
        have hi2 := hi.tie (q := q) hq
        have hp2 : peekF t { s with fo := tieP s.fo q q } ≠ -1 := by rw [peek_tie, c1]; decide
        exact ih.partL _ _ (hi2.adv hp2) (hq.either (PB.nothing _)) ((h.tie hq).near (near_adv hp2))
      · rw [if_neg c1]
        by_cases c2 : peekF t s = 43
        · rw [if_pos c2]
          have hi2 := hi.tie (q := q) hq
          have hp2 : peekF t { s with fo := tieP s.fo q q } ≠ -1 := by rw [peek_tie, c2]; decide
          exact ih.partL _ _ (hi2.adv hp2) hq ((h.tie hq).near (near_adv hp2))
        · rw [if_neg c2]
          by_cases c3 : peekF t s = 63
          · rw [if_pos c3]
            have hp2 : peekF t s ≠ -1 := by rw [c3]; decide
            exact ih.partL _ _ (hi.adv hp2) (hq.either (PB.nothing _)) (h.near (near_adv hp2))
          · rw [if_neg c3]; exact h
    · rw [atomF_s]
      have ha := hi.adv hp
      have hz := h.near (near_adv hp)
      by_cases c1 : peekF t s = 40
      · rw [if_pos c1]; exact (ih.alt _ ha hz).near (need_near (t := t) _ 41 (by decide))
      · rw [if_neg c1]
        by_cases c2 : peekF t s = 91
        · rw [if_pos c2]
          have n1 := skip_near (t := t) (advF s) 94 (by decide)
          have n2 := item_near (t := t) (skipF t (advF s) 94).2 (fun _ => false)
          have n3 := classL_near (t := t) n (itemF t (skipF t (advF s) 94).2 (fun _ => false)).1 (itemF t (skipF t (advF s) 94).2 (fun _ => false)).2
          have n4 := need_near (t := t) (classLF t n (itemF t (skipF t (advF s) 94).2 (fun _ => false)).1 (itemF t (skipF t (advF s) 94).2 (fun _ => false)).2).2 93 (by decide)
          exact (hz.near (((n1.trans n2).trans n3).trans n4)).takeOf _
        · rw [if_neg c2]
          by_cases c3 : peekF t s = 46
          · rw [if_pos c3]; exact hz.takeOf _
          · rw [if_neg c3]
            by_cases c4 : peekF t s = 94
            · rw [if_pos c4]; exact hz
            · rw [if_neg c4]
              by_cases c5 : peekF t s = 36
              · rw [if_pos c5]; exact hz
              · rw [if_neg c5]; exact (h.near (plain_near s hp).1).takeOf _

theorem read_foz (p : ByteArray) : FoZ (readF p).2 := (foAll p 400).alt st0 (st0_inv p) (fun _ _ _ => rfl)
theorem read_inv (p : ByteArray) : Inv p (readF p).2 := ((givesAll p 400).alt st0 (st0_inv p)).inv
theorem read_pb (p : ByteArray) : PB (readF p).2.atoms (readF p).1 := ((givesAll p 400).alt st0 (st0_inv p)).pb
theorem ok_parts (h : readOk p = true) : (readF p).2.fault = false ∧ (readF p).2.pos = p.size := by
  unfold readOk at h
  simp only [Bool.and_eq_true, Bool.not_eq_true', decide_eq_true_eq] at h
  have := (read_inv p).pos
  exact ⟨h.1, by omega⟩
theorem ok_of (h1 : (readF p).2.fault = false) (h2 : p.size ≤ (readF p).2.pos) : readOk p = true := by
  unfold readOk
  simp only [Bool.and_eq_true, Bool.not_eq_true', decide_eq_true_eq]
  exact ⟨h1, h2⟩

/-- The state behind a group. -/
def grpS (B : St) (p : ByteArray) : St := advF (shS B.atoms (B.pos + 1) B (readF p).2)

theorem start_sh {B : St} (hf : B.fault = false) (hz : FoZ B) : advF B = shS B.atoms (B.pos + 1) B st0 := by
  obtain ⟨pos, fault, atoms, tk, fo⟩ := B
  simp only at hf
  subst hf
  unfold advF shS st0
  simp only [Nat.zero_add, Nat.zero_shiftLeft, Nat.or_zero]
  congr 1
  funext sp a
  by_cases h : a < atoms
  · rw [if_pos h]
  · rw [if_neg h]; exact hz sp a (Nat.le_of_not_lt h)

/-- A pattern in brackets, read as an atom. -/
theorem group_atom {B : St} (h : Ctx p t (B.pos + 1)) (hf : B.fault = false) (hz : FoZ B) (h40 : peekF t B = 40) (hok : readOk p = true) (hp : p.size ≤ 50) (n : Nat) (hn : 6 * p.size + 3 ≤ n) :
    atomF t (n + 1) B = (shP B.atoms (readF p).1, grpS B p) := by
  obtain ⟨o1, o2⟩ := ok_parts hok
  have e1 : altF p n st0 = readF p := alt_fuel' (st0_inv p) n 400 (by show 6 * (p.size - 0) + 3 ≤ n; omega) (by show 6 * (p.size - 0) + 3 ≤ 400; omega)
  have e2 := (simAll (A := B.atoms) (B := B) h n).alt st0 (st0_inv p) (by rw [e1]; exact o1)
  rw [atomF_s, if_pos h40, start_sh hf hz, e2, e1]
  unfold shR grpS needF
  simp only
  have pk : peekF t (shS B.atoms (B.pos + 1) B (readF p).2) = 41 := by
    refine peek_sh_end h o1 (by omega) ?_
    unfold peekF
    rw [o1]
    exact byteAt_out (by omega)
  rw [if_pos pk]

theorem grp_pos {B : St} (hok : readOk p = true) : (grpS B p).pos = B.pos + p.size + 2 := by
  show (readF p).2.pos + (B.pos + 1) + 1 = _
  rw [(ok_parts hok).2]; omega
theorem grp_fault {B : St} (hok : readOk p = true) : (grpS B p).fault = false := (ok_parts hok).1
theorem peek_at {B : St} (hf : B.fault = false) : peekF t B = byteAt t B.pos := by unfold peekF; rw [hf]; rfl

/-- A pattern in brackets as a part, with a mark or none behind it. -/
theorem group_part {B : St} (h : Ctx p t (B.pos + 1)) (hf : B.fault = false) (hz : FoZ B) (h40 : byteAt t B.pos = 40) (hok : readOk p = true) (hp : p.size ≤ 50) (n : Nat) (hn : 6 * p.size + 10 ≤ n)
    (hc : byteAt t (B.pos + p.size + 2) ≠ 42 ∧ byteAt t (B.pos + p.size + 2) ≠ 43 ∧ byteAt t (B.pos + p.size + 2) ≠ 63) :
    partF t n B = (shP B.atoms (readF p).1, grpS B p) := by
  obtain ⟨m, rfl⟩ : ∃ m, n = m + 2 := ⟨n - 2, by omega⟩
  have e := group_atom h hf hz (by rw [peek_at hf]; exact h40) hok hp m (by omega)
  rw [partF_s, e, partLF_s, peek_at (grp_fault hok), grp_pos hok, if_neg hc.1, if_neg hc.2.1, if_neg hc.2.2]

theorem join_nothing (r : Piece) : joinF nothingF r = r := by
  funext sp
  simp only [joinF, joinedF, nothingF]
  by_cases h : (r sp).e = true
  · rw [if_pos h]; simp
  · rw [if_neg h]; simp
theorem tie_nothing (fo : Nat → Nat → Nat) (r : Piece) : tieP fo nothingF r = fo := by
  funext sp a
  simp [tieP, nothingF]

end
end Go.Proofs.YticaoekmlaipnaaDoor
