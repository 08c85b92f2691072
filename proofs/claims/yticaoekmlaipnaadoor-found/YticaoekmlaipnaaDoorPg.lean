/-
  The reader as plain functions: a fault stays; a bound that is great enough may be greater.
-/
import Derived.Test.YticaoekmlaipnaaDoorPd
set_option linter.unusedSimpArgs false
set_option linter.unusedVariables false
namespace Go.Proofs.YticaoekmlaipnaaDoor

variable {t : ByteArray}

theorem plain_fault {s : St} (h : s.fault = true) : (plainF t s).2.fault = true := by
  have e : skipF t s 92 = (false, s) := by unfold skipF; rw [if_neg (by rw [peek_fault' h]; decide)]
  unfold plainF
  rw [e, if_pos (peek_fault' h)]
  rfl
theorem plain_end {s : St} (h : peekF t s = -1) : (plainF t s).2.fault = true := by
  have e : skipF t s 92 = (false, s) := by unfold skipF; rw [if_neg (by rw [h]; decide)]
  unfold plainF
  rw [e, if_pos h]
  rfl
theorem takeOf_fault {s : St} (P : Nat → Bool) : (takeOfF s P).2.fault = s.fault := rfl
theorem take_fault {s : St} (a b : Int) : (takeF s a b).2.fault = s.fault := rfl
theorem need_fault {s : St} {b : Int} (hb : b ≠ -1) (h : s.fault = true) : (needF t s b).fault = true := by
  unfold needF
  rw [if_neg (by rw [peek_fault' h]; exact fun e => hb e.symm)]
  rfl
theorem skip_fault {s : St} {b : Int} (hb : b ≠ -1) (h : s.fault = true) : skipF t s b = (false, s) := by
  unfold skipF
  rw [if_neg (by rw [peek_fault' h]; exact fun e => hb e.symm)]
theorem bound_fault {s : St} {least : Int} (hl : 0 ≤ least) (h : s.fault = true) : (boundF t s least).2.fault = true := by
  unfold boundF
  rw [if_neg (by rw [peek_fault' h]; decide), skip_fault (by decide) h, if_pos (by rw [peek_fault' h]; omega)]
  rfl
theorem item_fault {s : St} (P : Nat → Bool) (h : s.fault = true) : (itemF t s P).2.fault = true := by
  have hb := bound_fault (t := t) (least := 0) (by decide) h
  unfold itemF
  rw [if_neg (fun e => by rw [peek_fault' hb] at e; exact absurd e.1 (by decide))]
  exact hb
theorem classL_fault : ∀ (n : Nat) (P : Nat → Bool) (s : St), s.fault = true → (classLF t n P s).2.fault = true
  | 0, P, s, h => h
  | n + 1, P, s, h => by rw [classLF, if_pos (.inl h)]; exact h
theorem class_fault (n : Nat) {s : St} (h : s.fault = true) : (classF t n s).2.fault = true := by
  unfold classF
  simp only
  rw [takeOf_fault, skip_fault (by decide) h]
  exact need_fault (by decide) (classL_fault n _ _ (item_fault _ h))

structure FaultAll (t : ByteArray) (n : Nat) : Prop where
  alt : ∀ s, s.fault = true → (altF t n s).2.fault = true
  altL : ∀ q s, s.fault = true → (altLF t n q s).2.fault = true
  seq : ∀ s, s.fault = true → (seqF t n s).2.fault = true
  seqL : ∀ q s, s.fault = true → (seqLF t n q s).2.fault = true
  part : ∀ s, s.fault = true → (partF t n s).2.fault = true
  partL : ∀ q s, s.fault = true → (partLF t n q s).2.fault = true
  atom : ∀ s, s.fault = true → (atomF t n s).2.fault = true

theorem faultAll (t : ByteArray) : ∀ n, FaultAll t n
  | 0 => ⟨fun _ h => h, fun _ _ h => h, fun _ h => h, fun _ _ h => h, fun _ h => h, fun _ _ h => h, fun _ h => h⟩
  | n + 1 => by
    have ih := faultAll t n
    refine ⟨fun s h => ?_, fun q s h => ?_, fun s h => ?_, fun q s h => ?_, fun s h => ?_, fun q s h => ?_, fun s h => ?_⟩
    · rw [altF_s]; exact ih.altL _ _ (ih.seq _ h)
    · rw [altLF_s, if_neg (by rw [peek_fault' h]; decide)]; exact h
    · rw [seqF_s]; exact ih.seqL _ _ h
    · rw [seqLF_s, if_pos (.inl (peek_fault' h))]; exact h
    · rw [partF_s]; exact ih.partL _ _ (ih.atom _ h)
    · rw [partLF_s, peek_fault' h, if_neg (by decide), if_neg (by decide), if_neg (by decide)]; exact h
    · rw [atomF_s, peek_fault' h, if_neg (by decide), if_neg (by decide), if_neg (by decide), if_neg (by decide), if_neg (by decide), take_fault]
      exact plain_fault h

theorem FaultAll.altL' {n : Nat} {q : Piece} {s : St} (h : (altLF t n q s).2.fault = false) : s.fault = false := by
  cases hf : s.fault with
  | false => rfl
  | true => rw [(faultAll t n).altL q s hf] at h; cases h
theorem FaultAll.seqL' {n : Nat} {q : Piece} {s : St} (h : (seqLF t n q s).2.fault = false) : s.fault = false := by
  cases hf : s.fault with
  | false => rfl
  | true => rw [(faultAll t n).seqL q s hf] at h; cases h
theorem FaultAll.partL' {n : Nat} {q : Piece} {s : St} (h : (partLF t n q s).2.fault = false) : s.fault = false := by
  cases hf : s.fault with
  | false => rfl
  | true => rw [(faultAll t n).partL q s hf] at h; cases h
theorem FaultAll.atom' {n : Nat} {s : St} (h : (atomF t n s).2.fault = false) : s.fault = false := by
  cases hf : s.fault with
  | false => rfl
  | true => rw [(faultAll t n).atom s hf] at h; cases h
theorem FaultAll.alt' {n : Nat} {s : St} (h : (altF t n s).2.fault = false) : s.fault = false := by
  cases hf : s.fault with
  | false => rfl
  | true => rw [(faultAll t n).alt s hf] at h; cases h
theorem FaultAll.seq' {n : Nat} {s : St} (h : (seqF t n s).2.fault = false) : s.fault = false := by
  cases hf : s.fault with
  | false => rfl
  | true => rw [(faultAll t n).seq s hf] at h; cases h
theorem FaultAll.part' {n : Nat} {s : St} (h : (partF t n s).2.fault = false) : s.fault = false := by
  cases hf : s.fault with
  | false => rfl
  | true => rw [(faultAll t n).part s hf] at h; cases h

/-! a greater bound -/
theorem classL_more : ∀ (n : Nat) (P : Nat → Bool) (s : St), (s.fault = true ∨ t.size - s.pos < n) → s.pos ≤ t.size → classLF t (n + 1) P s = classLF t n P s
  | 0, P, s, h, hp => by
    have hf := h.elim id (fun h => by omega)
    rw [show classLF t (0 + 1) P s = if s.fault = true ∨ peekF t s = 93 then (P, s) else classLF t 0 (itemF t s P).1 (itemF t s P).2 from rfl, if_pos (.inl hf)]
    rfl
  | n + 1, P, s, h, hp => by
    rw [show classLF t (n + 1 + 1) P s = if s.fault = true ∨ peekF t s = 93 then (P, s) else classLF t (n + 1) (itemF t s P).1 (itemF t s P).2 from rfl, show classLF t (n + 1) P s = if s.fault = true ∨ peekF t s = 93 then (P, s) else classLF t n (itemF t s P).1 (itemF t s P).2 from rfl]
    by_cases hc : s.fault = true ∨ peekF t s = 93
    · rw [if_pos hc, if_pos hc]
    · rw [if_neg hc, if_neg hc]
      have hn := item_near (t := t) s P
      refine classL_more n _ _ ?_ (hn.pos hp)
      rcases item_prog (t := t) s P with e | e
      · exact .inl e
      · right
        have := h.elim (fun e => absurd (Or.inl e) hc) id
        have := hn.pos hp
        omega
theorem class_more (n : Nat) (s : St) (h : t.size - s.pos < n) (hp : s.pos ≤ t.size) : classF t (n + 1) s = classF t n s := by
  unfold classF
  simp only
  have n1 := skip_near (t := t) s 94 (by decide)
  have n2 := item_near (t := t) (skipF t s 94).2 (fun _ => false)
  have := n1.le
  have := n2.le
  rw [classL_more n _ _ (.inr (by omega)) (n2.pos (n1.pos hp))]

structure MoreAll (t : ByteArray) (n : Nat) : Prop where
  alt : ∀ s, Inv t s → 6 * (t.size - s.pos) + 3 ≤ n → altF t (n + 1) s = altF t n s
  altL : ∀ q s, Inv t s → PB s.atoms q → 6 * (t.size - s.pos) + 2 ≤ n → altLF t (n + 1) q s = altLF t n q s
  seq : ∀ s, Inv t s → 6 * (t.size - s.pos) + 2 ≤ n → seqF t (n + 1) s = seqF t n s
  seqL : ∀ q s, Inv t s → PB s.atoms q → 6 * (t.size - s.pos) + 1 ≤ n → seqLF t (n + 1) q s = seqLF t n q s
  part : ∀ s, Inv t s → peekF t s ≠ -1 → 6 * (t.size - s.pos) ≤ n + 1 → partF t (n + 1) s = partF t n s
  partL : ∀ q s, Inv t s → PB s.atoms q → 6 * (t.size - s.pos) + 1 ≤ n → partLF t (n + 1) q s = partLF t n q s
  atom : ∀ s, Inv t s → peekF t s ≠ -1 → 6 * (t.size - s.pos) ≤ n + 2 → atomF t (n + 1) s = atomF t n s

theorem moreAll (t : ByteArray) : ∀ n, MoreAll t n
  | 0 => ⟨fun _ _ h => by omega, fun _ _ _ _ h => by omega, fun _ _ h => by omega, fun _ _ _ _ h => by omega, fun s hi hp h => by have := (peek_ne hp).2; omega, fun _ _ _ _ h => by omega, fun s hi hp h => by have := (peek_ne hp).2; omega⟩
  | n + 1 => by
    have ih := moreAll t n
    have gv := givesAll t n
    refine ⟨fun s hi h => ?_, fun q s hi hq h => ?_, fun s hi h => ?_, fun q s hi hq h => ?_, fun s hi hp h => ?_, fun q s hi hq h => ?_, fun s hi hp h => ?_⟩
    · rw [altF_s t (n + 1) s, altF_s t n s, ih.seq s hi (by omega)]
      have g := gv.seq s hi
      have := g.le
      exact ih.altL _ _ g.inv g.pb (by omega)
    · rw [altLF_s t (n + 1) q s, altLF_s t n q s]
      by_cases hc : peekF t s = 124
      · have hp : peekF t s ≠ -1 := by rw [hc]; decide
        have hl := (peek_ne hp).2
        have ha := hi.adv hp
        have e1 : (advF s).pos = s.pos + 1 := rfl
        rw [if_pos hc, if_pos hc, ih.seq _ ha (by omega)]
        have g := gv.seq _ ha
        have := g.le
        exact ih.altL _ _ g.inv ((hq.mono g.al).either g.pb) (by omega)
      · rw [if_neg hc, if_neg hc]
    · rw [seqF_s t (n + 1) s, seqF_s t n s]
      exact ih.seqL _ _ hi (PB.nothing _) (by omega)
    · rw [seqLF_s t (n + 1) q s, seqLF_s t n q s]
      by_cases hc : peekF t s = -1 ∨ peekF t s = 41 ∨ peekF t s = 124 ∨ peekF t s = 42 ∨ peekF t s = 43 ∨ peekF t s = 63
      · rw [if_pos hc, if_pos hc]
      · have hp : peekF t s ≠ -1 := fun e => hc (.inl e)
        have hl := (peek_ne hp).2
        rw [if_neg hc, if_neg hc, ih.part s hi hp (by omega)]
        have g := gv.part s hi hp
        obtain ⟨m, rfl⟩ : ∃ m, n = m + 2 := ⟨n - 2, by omega⟩
        have hpr := part_prog (n := m) hi hp
        refine ih.seqL _ _ (g.inv.tie g.pb) ((hq.mono g.al).join g.pb) ?_
        show 6 * (t.size - (partF t (m + 2) s).2.pos) + 1 ≤ m + 2
        omega
    · have hl := (peek_ne hp).2
      rw [partF_s t (n + 1) s, partF_s t n s, ih.atom s hi hp (by omega)]
      have g := gv.atom s hi hp
      obtain ⟨m, rfl⟩ : ∃ m, n = m + 1 := ⟨n - 1, by omega⟩
      have hpr := atom_prog (n := m) hi hp
      exact ih.partL _ _ g.inv g.pb (by omega)
    · rw [partLF_s t (n + 1) q s, partLF_s t n q s]
      by_cases c1 : peekF t s = 42
      · have hl := (peek_ne (t := t) (s := s) (by rw [c1]; decide)).2
        rw [if_pos c1, if_pos c1]
        have hi2 := hi.tie (q := q) hq
        have ha := hi2.adv (s := { s with fo := tieP s.fo q q }) (by rw [peek_tie, c1]; decide)
        refine ih.partL _ _ ha (hq.either (PB.nothing _)) ?_
        show 6 * (t.size - (s.pos + 1)) + 1 ≤ n
        omega
      · rw [if_neg c1, if_neg c1]
        by_cases c2 : peekF t s = 43
        · have hl := (peek_ne (t := t) (s := s) (by rw [c2]; decide)).2
          rw [if_pos c2, if_pos c2]
          have hi2 := hi.tie (q := q) hq
          have ha := hi2.adv (s := { s with fo := tieP s.fo q q }) (by rw [peek_tie, c2]; decide)
          refine ih.partL _ _ ha hq ?_
          show 6 * (t.size - (s.pos + 1)) + 1 ≤ n
          omega
        · rw [if_neg c2, if_neg c2]
          by_cases c3 : peekF t s = 63
          · have hl := (peek_ne (t := t) (s := s) (by rw [c3]; decide)).2
            rw [if_pos c3, if_pos c3]
            have ha := hi.adv (by rw [c3]; decide)
            refine ih.partL _ _ ha (hq.either (PB.nothing _)) ?_
            show 6 * (t.size - (s.pos + 1)) + 1 ≤ n
            omega
          · rw [if_neg c3, if_neg c3]
    · have hl := (peek_ne hp).2
      have ha := hi.adv hp
      rw [atomF_s t (n + 1) s, atomF_s t n s, ih.alt _ ha (by show 6 * (t.size - (s.pos + 1)) + 3 ≤ n; omega), class_more n _ (by show t.size - (s.pos + 1) < n; omega) ha.pos]

/-- The bound that Read takes may be any that is great enough. -/
theorem alt_fuel {s : St} (hi : Inv t s) (n : Nat) (hn : 6 * (t.size - s.pos) + 3 ≤ n) : ∀ d, altF t (n + d) s = altF t n s
  | 0 => rfl
  | d + 1 => by rw [← Nat.add_assoc, (moreAll t (n + d)).alt s hi (by omega), alt_fuel hi n hn d]
theorem alt_fuel' {s : St} (hi : Inv t s) (n m : Nat) (hn : 6 * (t.size - s.pos) + 3 ≤ n) (hm : 6 * (t.size - s.pos) + 3 ≤ m) : altF t n s = altF t m s := by
  rcases Nat.le_total n m with h | h
  · obtain ⟨d, rfl⟩ := Nat.exists_eq_add_of_le h
    exact (alt_fuel hi n hn d).symm
  · obtain ⟨d, rfl⟩ := Nat.exists_eq_add_of_le h
    exact alt_fuel hi m hm d

end Go.Proofs.YticaoekmlaipnaaDoor
