/-
  The same, for the whole reader; what is read of (p)?, (p)*, (p)+, (p)|(q) and ^(p)$.
-/
import Derived.Test.YticaoekmlaipnaaDoorPh
set_option linter.unusedSimpArgs false
set_option linter.unusedVariables false
namespace Go.Proofs.YticaoekmlaipnaaDoor

section
variable {p t : ByteArray} {A d : Nat} {B s : St}

theorem shP_nothing : shP A nothingF = nothingF := by funext sp; simp [shP, nothingF]
theorem shP_anchor (m : Nat) : shP A (anchorF m) = anchorF m := by funext sp; simp [shP, anchorF]
theorem shP_either (a b : Piece) : shP A (eitherF a b) = eitherF (shP A a) (shP A b) := by funext sp; simp [shP, eitherF, shl_or]
theorem shP_join (a b : Piece) : shP A (joinF a b) = joinF (shP A a) (shP A b) := by
  funext sp
  simp only [shP, joinF, joinedF]
  by_cases h1 : (a sp).e = true <;> by_cases h2 : (b sp).e = true <;> simp [h1, h2, shl_or]
theorem sh_tie (q r : Piece) : shS A d B { s with fo := tieP s.fo q r } = { shS A d B s with fo := tieP (shS A d B s).fo (shP A q) (shP A r) } := by
  unfold shS tieP shP
  simp only
  congr 1
  funext sp a
  simp only [Nat.testBit_shiftLeft]
  by_cases h : a < A
  · rw [if_pos h, if_pos h, if_neg (by simp; omega)]
  · rw [if_neg h, if_neg h]
    by_cases hl : (q sp).l.testBit (a - A) = true
    · rw [if_pos hl, if_pos (by simp [hl]; omega), shl_or]
    · rw [if_neg hl, if_neg (by simp [hl])]

structure SimAll (p t : ByteArray) (A d : Nat) (B : St) (n : Nat) : Prop where
  alt : ∀ s, Inv p s → (altF p n s).2.fault = false → altF t n (shS A d B s) = shR A d B (altF p n s)
  altL : ∀ q s, Inv p s → PB s.atoms q → (altLF p n q s).2.fault = false → altLF t n (shP A q) (shS A d B s) = shR A d B (altLF p n q s)
  seq : ∀ s, Inv p s → (seqF p n s).2.fault = false → seqF t n (shS A d B s) = shR A d B (seqF p n s)
  seqL : ∀ q s, Inv p s → PB s.atoms q → (seqLF p n q s).2.fault = false → seqLF t n (shP A q) (shS A d B s) = shR A d B (seqLF p n q s)
  part : ∀ s, Inv p s → peekF p s ≠ -1 → (partF p n s).2.fault = false → partF t n (shS A d B s) = shR A d B (partF p n s)
  partL : ∀ q s, Inv p s → PB s.atoms q → (partLF p n q s).2.fault = false → partLF t n (shP A q) (shS A d B s) = shR A d B (partLF p n q s)
  atom : ∀ s, Inv p s → peekF p s ≠ -1 → (atomF p n s).2.fault = false → atomF t n (shS A d B s) = shR A d B (atomF p n s)

theorem simAll (h : Ctx p t d) : ∀ n, SimAll p t A d B n
  | 0 => by
    have e0 : ∀ s : St, (nothingF, shS A d B s) = shR A d B (nothingF, s) := fun s => by unfold shR; rw [shP_nothing]
    exact ⟨fun s _ _ => e0 s, fun _ _ _ _ _ => rfl, fun s _ _ => e0 s, fun _ _ _ _ _ => rfl, fun s _ _ _ => e0 s, fun _ _ _ _ _ => rfl, fun s _ _ _ => e0 s⟩
  | n + 1 => by
    have ih := simAll h n
    have gv := givesAll p n
    refine ⟨fun s hi hr => ?_, fun q s hi hq hr => ?_, fun s hi hr => ?_, fun q s hi hq hr => ?_, fun s hi hp hr => ?_, fun q s hi hq hr => ?_, fun s hi hp hr => ?_⟩
    · rw [altF_s] at hr
      have g := gv.seq s hi
      rw [altF_s, altF_s, ih.seq s hi (FaultAll.altL' hr)]
      exact ih.altL _ _ g.inv g.pb hr
    · have hf := FaultAll.altL' hr
      rw [altLF_s] at hr
      rw [altLF_s, altLF_s p n q s]
      by_cases c : peekF p s = 124
      · have ha := hi.adv (by rw [c]; decide)
        have g := gv.seq _ ha
        rw [if_pos c] at hr
        rw [if_pos c, if_pos ((peek_iff h hf hi.pos (by decide) (by decide)).2 c), ← sh_adv, ih.seq _ ha (FaultAll.altL' hr)]
        have e := ih.altL (eitherF q (seqF p n (advF s)).1) (seqF p n (advF s)).2 g.inv ((hq.mono g.al).either g.pb) hr
        rw [shP_either] at e
        exact e
      · rw [if_neg c, if_neg (fun e => c ((peek_iff h hf hi.pos (by decide) (by decide)).1 e))]; rfl
    · rw [seqF_s] at hr
      rw [seqF_s, seqF_s]
      have e := ih.seqL nothingF s hi (PB.nothing _) hr
      rw [shP_nothing] at e
      exact e
    · have hf := FaultAll.seqL' hr
      rw [seqLF_s] at hr
      rw [seqLF_s, seqLF_s p n q s]
      by_cases c : peekF p s = -1 ∨ peekF p s = 41 ∨ peekF p s = 124 ∨ peekF p s = 42 ∨ peekF p s = 43 ∨ peekF p s = 63
      · have c' : peekF t (shS A d B s) = -1 ∨ peekF t (shS A d B s) = 41 ∨ peekF t (shS A d B s) = 124 ∨ peekF t (shS A d B s) = 42 ∨ peekF t (shS A d B s) = 43 ∨ peekF t (shS A d B s) = 63 := by
          by_cases e : peekF p s = -1
          · exact .inr (.inl (peek_sh_end h hf hi.pos e))
          · rw [peek_sh h e]; exact c
        rw [if_pos c, if_pos c']; rfl
      · have hp : peekF p s ≠ -1 := fun e => c (.inl e)
        rw [if_neg c] at hr
        have g := gv.part s hi hp
        have hpf : (partF p n s).2.fault = false := by have := FaultAll.seqL' hr; exact this
        rw [if_neg c, if_neg (by rw [peek_sh h hp]; exact c), ih.part s hi hp hpf]
        have e := ih.seqL (joinF q (partF p n s).1) { (partF p n s).2 with fo := tieP (partF p n s).2.fo q (partF p n s).1 } (g.inv.tie g.pb) ((hq.mono g.al).join g.pb) hr
        rw [shP_join, sh_tie] at e
        exact e
    · rw [partF_s] at hr
      have g := gv.atom s hi hp
      rw [partF_s, partF_s, ih.atom s hi hp (FaultAll.partL' hr)]
      exact ih.partL _ _ g.inv g.pb hr
    · have hf := FaultAll.partL' hr
      rw [partLF_s] at hr
      rw [partLF_s, partLF_s p n q s]
      have pk := fun c h1 h2 => peek_iff (A := A) (B := B) (c := c) h hf hi.pos h1 h2
      by_cases c1 : peekF p s = 42
      · rw [if_pos c1] at hr
        have hi2 := hi.tie (q := q) hq
        have ha := hi2.adv (s := { s with fo := tieP s.fo q q }) (by rw [peek_tie, c1]; decide)
        rw [if_pos c1, if_pos ((pk 42 (by decide) (by decide)).2 c1)]
        have e := ih.partL _ _ ha (hq.either (PB.nothing _)) hr
        rw [shP_either, shP_nothing, sh_adv, sh_tie] at e
        exact e
      · rw [if_neg c1] at hr
        rw [if_neg c1, if_neg (fun e => c1 ((pk 42 (by decide) (by decide)).1 e))]
        by_cases c2 : peekF p s = 43
        · rw [if_pos c2] at hr
          have hi2 := hi.tie (q := q) hq
          have ha := hi2.adv (s := { s with fo := tieP s.fo q q }) (by rw [peek_tie, c2]; decide)
          rw [if_pos c2, if_pos ((pk 43 (by decide) (by decide)).2 c2)]
          have e := ih.partL _ _ ha hq hr
          rw [sh_adv, sh_tie] at e
          exact e
        · rw [if_neg c2] at hr
          rw [if_neg c2, if_neg (fun e => c2 ((pk 43 (by decide) (by decide)).1 e))]
          by_cases c3 : peekF p s = 63
          · rw [if_pos c3] at hr
            have ha := hi.adv (by rw [c3]; decide)
            rw [if_pos c3, if_pos ((pk 63 (by decide) (by decide)).2 c3)]
            have e := ih.partL _ _ ha (hq.either (PB.nothing _)) hr
            rw [shP_either, shP_nothing, sh_adv] at e
            exact e
          · rw [if_neg c3, if_neg (fun e => c3 ((pk 63 (by decide) (by decide)).1 e))]; rfl
    · have hf := FaultAll.atom' hr
      rw [atomF_s] at hr
      have ha := hi.adv hp
      rw [atomF_s, atomF_s p n s, peek_sh h hp]
      by_cases c1 : peekF p s = 40
      · rw [if_pos c1] at hr
        have hr : (needF p (altF p n (advF s)).2 41).fault = false := hr
        rw [if_pos c1, if_pos c1, ← sh_adv]
        have haf : (altF p n (advF s)).2.fault = false := by
          cases haf : (altF p n (advF s)).2.fault with
          | false => rfl
          | true => rw [need_fault (by decide) haf] at hr; cases hr
        have hc : peekF p (altF p n (advF s)).2 = 41 := by
          unfold needF at hr
          by_cases e : peekF p (altF p n (advF s)).2 = 41
          · exact e
          · rw [if_neg e] at hr; cases hr
        rw [ih.alt _ ha haf]
        unfold shR needF
        simp only
        rw [if_pos hc, peek_sh h (by rw [hc]; decide), if_pos hc, sh_adv]
      · rw [if_neg c1] at hr
        rw [if_neg c1, if_neg c1]
        by_cases c2 : peekF p s = 91
        · rw [if_pos c2] at hr
          rw [if_pos c2, if_pos c2, ← sh_adv]
          exact class_sh h n ha.pos hr
        · rw [if_neg c2] at hr
          rw [if_neg c2, if_neg c2]
          by_cases c3 : peekF p s = 46
          · rw [if_pos c3, if_pos c3, ← sh_adv]; exact take_sh _ _
          · rw [if_neg c3] at hr
            rw [if_neg c3, if_neg c3]
            by_cases c4 : peekF p s = 94
            · rw [if_pos c4, if_pos c4, ← sh_adv]; unfold shR; rw [shP_anchor]
            · rw [if_neg c4] at hr
              rw [if_neg c4, if_neg c4]
              by_cases c5 : peekF p s = 36
              · rw [if_pos c5, if_pos c5, ← sh_adv]; unfold shR; rw [shP_anchor]
              · rw [if_neg c5] at hr
                rw [if_neg c5, if_neg c5, plain_sh h hi.pos hr]
                exact take_sh _ _

end
end Go.Proofs.YticaoekmlaipnaaDoor
