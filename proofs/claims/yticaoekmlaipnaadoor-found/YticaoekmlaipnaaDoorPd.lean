/-
  What each part of the reader leaves, by induction on its fuel.
-/
import Derived.Test.YticaoekmlaipnaaDoorPc
set_option linter.unusedSimpArgs false
set_option linter.unusedVariables false
namespace Go.Proofs.YticaoekmlaipnaaDoor

variable {t : ByteArray}

theorem Gives.trans {s s1 : St} {x : Piece × St} (h : Gives t s1 x) (hp : s.pos ≤ s1.pos) (ha : s.atoms ≤ s1.atoms) : Gives t s x := ⟨h.inv, h.pb, Nat.le_trans hp h.le, Nat.le_trans ha h.al⟩

theorem peek_tie (s : St) (f : Nat → Nat → Nat) : peekF t { s with fo := f } = peekF t s := rfl

structure GivesAll (t : ByteArray) (n : Nat) : Prop where
  alt : ∀ s, Inv t s → Gives t s (altF t n s)
  altL : ∀ q s, Inv t s → PB s.atoms q → Gives t s (altLF t n q s)
  seq : ∀ s, Inv t s → Gives t s (seqF t n s)
  seqL : ∀ q s, Inv t s → PB s.atoms q → Gives t s (seqLF t n q s)
  part : ∀ s, Inv t s → peekF t s ≠ -1 → Gives t s (partF t n s)
  partL : ∀ q s, Inv t s → PB s.atoms q → Gives t s (partLF t n q s)
  atom : ∀ s, Inv t s → peekF t s ≠ -1 → Gives t s (atomF t n s)

theorem givesAll (t : ByteArray) : ∀ n, GivesAll t n
  | 0 => ⟨fun s h => ⟨h, PB.nothing _, Nat.le_refl _, Nat.le_refl _⟩, fun _ s h hq => ⟨h, hq, Nat.le_refl _, Nat.le_refl _⟩, fun s h => ⟨h, PB.nothing _, Nat.le_refl _, Nat.le_refl _⟩, fun _ s h hq => ⟨h, hq, Nat.le_refl _, Nat.le_refl _⟩,
      fun s h _ => ⟨h, PB.nothing _, Nat.le_refl _, Nat.le_refl _⟩, fun _ s h hq => ⟨h, hq, Nat.le_refl _, Nat.le_refl _⟩, fun s h _ => ⟨h, PB.nothing _, Nat.le_refl _, Nat.le_refl _⟩⟩
  | n + 1 => by
    have ih := givesAll t n
    refine ⟨fun s h => ?_, fun q s h hq => ?_, fun s h => ?_, fun q s h hq => ?_, fun s h hp => ?_, fun q s h hq => ?_, fun s h hp => ?_⟩
    · rw [altF_s]
      have g := ih.seq s h
      exact (ih.altL _ _ g.inv g.pb).trans g.le g.al
    · rw [altLF_s]
      split
      · rename_i hc
        have ha := h.adv (by rw [hc]; decide)
        have g := ih.seq _ ha
        have g2 := ih.altL _ _ g.inv ((hq.mono g.al).either g.pb)
        exact g2.trans (Nat.le_trans (by simp [advF]) g.le) g.al
      · exact ⟨h, hq, Nat.le_refl _, Nat.le_refl _⟩
    · rw [seqF_s]
      exact ih.seqL _ _ h (PB.nothing _)
    · rw [seqLF_s]
      split
      · exact ⟨h, hq, Nat.le_refl _, Nat.le_refl _⟩
      · rename_i hc
        have g := ih.part s h (fun e => hc (.inl e))
        have g2 := ih.seqL (joinF q (partF t n s).1) { (partF t n s).2 with fo := tieP (partF t n s).2.fo q (partF t n s).1 } (g.inv.tie g.pb) ((hq.mono g.al).join g.pb)
        exact g2.trans g.le g.al
    · rw [partF_s]
      have g := ih.atom s h hp
      exact (ih.partL _ _ g.inv g.pb).trans g.le g.al
    · rw [partLF_s]
      split
      · rename_i hc
        have hi := h.tie (q := q) hq
        have ha := hi.adv (s := { s with fo := tieP s.fo q q }) (by rw [peek_tie, hc]; decide)
        exact (ih.partL _ _ ha (hq.either (PB.nothing _))).trans (by simp [advF]) (Nat.le_refl _)
      · split
        · rename_i _ hc
          have hi := h.tie (q := q) hq
          have ha := hi.adv (s := { s with fo := tieP s.fo q q }) (by rw [peek_tie, hc]; decide)
          exact (ih.partL _ _ ha hq).trans (by simp [advF]) (Nat.le_refl _)
        · split
          · rename_i _ _ hc
            have ha := h.adv (by rw [hc]; decide)
            exact (ih.partL _ _ ha (hq.either (PB.nothing _))).trans (by simp [advF]) (Nat.le_refl _)
          · exact ⟨h, hq, Nat.le_refl _, Nat.le_refl _⟩
    · rw [atomF_s]
      have ha := h.adv hp
      have hlt : (advF s).atoms < (advF s).pos := by have := h.at_; simp [advF]; omega
      split
      · have g := ih.alt _ ha
        have nn := need_near (t := t) (altF t n (advF s)).2 41 (by decide)
        refine ⟨nn.inv g.inv, ?_, Nat.le_trans (Nat.le_trans (by simp [advF]) g.le) nn.le, ?_⟩
        · rw [nn.atoms]; exact g.pb
        · rw [nn.atoms]; exact g.al
      · split
        · exact (class_gives n _ ha hlt).trans (by simp [advF]) (Nat.le_refl _)
        · split
          · exact take_gives s 0 255 ha hlt (by simp [advF]) (Nat.le_refl _)
          · split
            · exact ⟨ha, PB.anchor _ _, by simp [advF], Nat.le_refl _⟩
            · split
              · exact ⟨ha, PB.anchor _ _, by simp [advF], Nat.le_refl _⟩
              · obtain ⟨hn, hl⟩ := plain_near s hp
                exact take_gives s _ _ (hn.inv h) (by rw [hn.atoms]; have := h.at_; omega) hn.le (by rw [hn.atoms]; exact Nat.le_refl _)

theorem atom_prog {n : Nat} {s : St} (h : Inv t s) (hp : peekF t s ≠ -1) : s.pos < (atomF t (n + 1) s).2.pos := by
  have ha := h.adv hp
  have hlt : (advF s).atoms < (advF s).pos := by have := h.at_; simp [advF]; omega
  have e1 : s.pos < (advF s).pos := by simp [advF]
  rw [atomF_s]
  split
  · have g := (givesAll t n).alt _ ha
    have nn := need_near (t := t) (altF t n (advF s)).2 41 (by decide)
    exact Nat.lt_of_lt_of_le (Nat.lt_of_lt_of_le e1 g.le) nn.le
  · split
    · exact Nat.lt_of_lt_of_le e1 (class_gives n _ ha hlt).le
    · split
      · exact e1
      · split
        · exact e1
        · split
          · exact e1
          · exact (plain_near s hp).2

theorem part_prog {n : Nat} {s : St} (h : Inv t s) (hp : peekF t s ≠ -1) : s.pos < (partF t (n + 2) s).2.pos := by
  rw [partF_s]
  have g := (givesAll t (n + 1)).atom s h hp
  exact Nat.lt_of_lt_of_le (atom_prog h hp) ((givesAll t (n + 1)).partL _ _ g.inv g.pb).le

end Go.Proofs.YticaoekmlaipnaaDoor
