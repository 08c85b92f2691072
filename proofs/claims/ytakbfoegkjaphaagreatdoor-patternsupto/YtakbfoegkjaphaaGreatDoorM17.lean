/-
  A pattern that is read in brackets, within another and behind other atoms, is read as by itself, with its places and its atoms' numbers moved on. The same, for the whole reader; what is read of (p)?, (p)*, (p)+, (p)|(q) and ^(p)$. What is read of (p)?, (p)*, (p)+, (p)|(q) and ^(p)$.
-/
import Derived.Test.YtakbfoegkjaphaaGreatDoorM16
import Derived.Test.YtakbfoegkjaphaaGreatDoorM11
set_option linter.unusedSimpArgs false
set_option linter.unusedVariables false
namespace Go.Proofs.YtakbfoegkjaphaaGreatDoor

/-- The state, d places and A atoms on, behind B. -/
def shS (A d : Nat) (B s : St) : St := ⟨s.pos + d, s.fault, s.atoms + A, fun b => B.tk b ||| (s.tk b <<< A), fun sp a => if a < A then B.fo sp a else s.fo sp (a - A) <<< A⟩
def shP (A : Nat) (q : Piece) : Piece := fun sp => ⟨(q sp).e, (q sp).f <<< A, (q sp).l <<< A⟩
def shR (A d : Nat) (B : St) (x : Piece × St) : Piece × St := (shP A x.1, shS A d B x.2)

/-- p stands in t at the place d, and a closing bracket behind it. -/
structure Ctx (p t : ByteArray) (d : Nat) : Prop where
  in_ : ∀ i, i < p.size → byteAt t (i + d) = byteAt p i
  end_ : byteAt t (p.size + d) = 41

section
variable {p t : ByteArray} {A d : Nat} {B s : St}

theorem byteAt_ne {k : Nat} (h : k < p.size) : byteAt p k ≠ -1 := by unfold byteAt; rw [dif_pos h]; omega
theorem byteAt_out {k : Nat} (h : ¬ k < p.size) : byteAt p k = -1 := by unfold byteAt; rw [dif_neg h]

theorem sh_adv : shS A d B (advF s) = advF (shS A d B s) := by unfold shS advF; simp only [Nat.add_right_comm]
theorem sh_fail : shS A d B (failF s) = failF (shS A d B s) := rfl
theorem sh_fault : (shS A d B s).fault = s.fault := rfl

theorem peek_sh (h : Ctx p t d) (hs : peekF p s ≠ -1) : peekF t (shS A d B s) = peekF p s := by
  have hn := peek_ne hs
  unfold peekF
  rw [sh_fault, hn.1]
  exact h.in_ _ hn.2
theorem peek_sh_end (h : Ctx p t d) (hf : s.fault = false) (hp : s.pos ≤ p.size) (hs : peekF p s = -1) : peekF t (shS A d B s) = 41 := by
  have hp' : s.pos = p.size := by
    rcases Nat.lt_or_ge s.pos p.size with hl | hl
    · have := peek_of (t := p) hf hl; omega
    · omega
  unfold peekF
  rw [sh_fault, hf]
  show byteAt t (s.pos + d) = 41
  rw [hp']; exact h.end_
theorem peek_iff (h : Ctx p t d) (hf : s.fault = false) (hp : s.pos ≤ p.size) {c : Int} (h1 : c ≠ -1) (h2 : c ≠ 41) : peekF t (shS A d B s) = c ↔ peekF p s = c := by
  by_cases hs : peekF p s = -1
  · rw [peek_sh_end h hf hp hs, hs]; exact ⟨fun e => absurd e.symm h2, fun e => absurd e.symm h1⟩
  · rw [peek_sh h hs]

theorem skip_sh (h : Ctx p t d) (hf : s.fault = false) (hp : s.pos ≤ p.size) {c : Int} (h1 : c ≠ -1) (h2 : c ≠ 41) : skipF t (shS A d B s) c = ((skipF p s c).1, shS A d B (skipF p s c).2) := by
  unfold skipF
  by_cases e : peekF p s = c
  · rw [if_pos e, if_pos ((peek_iff h hf hp h1 h2).2 e), sh_adv]
  · rw [if_neg e, if_neg (fun e' => e ((peek_iff h hf hp h1 h2).1 e'))]
theorem skip_ok (hp : s.pos ≤ p.size) (c : Int) (hc : c ≠ -1) : (skipF p s c).2.fault = s.fault ∧ (skipF p s c).2.pos ≤ p.size := by
  refine ⟨?_, (skip_near (t := p) s c hc).pos hp⟩
  unfold skipF
  split <;> rfl

theorem plain_sh (h : Ctx p t d) (hp : s.pos ≤ p.size) (hr : (plainF p s).2.fault = false) : plainF t (shS A d B s) = ((plainF p s).1, shS A d B (plainF p s).2) := by
  have hf : s.fault = false := by
    cases hf : s.fault with
    | false => rfl
    | true => rw [plain_fault hf] at hr; cases hr
  have hk := skip_ok hp 92 (by decide)
  have e : peekF p (skipF p s 92).2 ≠ -1 := by
    intro e
    unfold plainF at hr
    rw [if_pos e] at hr
    cases hr
  unfold plainF
  rw [skip_sh h hf hp (by decide) (by decide)]
  simp only
  rw [peek_sh h e, if_neg e, if_neg e, sh_adv]

theorem shl_or (a b n : Nat) : (a ||| b) <<< n = a <<< n ||| b <<< n := by
  apply Nat.eq_of_testBit_eq
  intro i
  simp only [Nat.testBit_or, Nat.testBit_shiftLeft]
  cases decide (n ≤ i) <;> simp
theorem shl_pow (a n : Nat) : 2 ^ (a + n) = (2 ^ a) <<< n := by rw [Nat.shiftLeft_eq, Nat.pow_add]

theorem takeOf_sh (P : Nat → Bool) : takeOfF (shS A d B s) P = shR A d B (takeOfF s P) := by
  unfold takeOfF shR shS shP
  simp only [shl_pow, Nat.add_right_comm]
  congr 2
  funext b
  by_cases h : P b = true
  · rw [if_pos h, if_pos h, shl_or, Nat.or_assoc]
  · rw [if_neg h, if_neg h]
theorem take_sh (a b : Int) : takeF (shS A d B s) a b = shR A d B (takeF s a b) := takeOf_sh _

theorem bound_sh (h : Ctx p t d) (hp : s.pos ≤ p.size) {least : Int} (hl : 0 ≤ least) (hr : (boundF p s least).2.fault = false) : boundF t (shS A d B s) least = ((boundF p s least).1, shS A d B (boundF p s least).2) := by
  have hf : s.fault = false := by
    cases hf : s.fault with
    | false => rfl
    | true => rw [bound_fault hl hf] at hr; cases hr
  unfold boundF at hr ⊢
  by_cases c1 : peekF p s = 93
  · rw [if_pos c1] at hr; cases hr
  · rw [if_neg c1] at hr
    rw [if_neg c1, if_neg (fun e => c1 ((peek_iff h hf hp (by decide) (by decide)).1 e)), skip_sh h hf hp (by decide) (by decide)]
    by_cases c2 : peekF p (skipF p s 92).2 < least
    · rw [if_pos c2] at hr; cases hr
    · have e : peekF p (skipF p s 92).2 ≠ -1 := by omega
      rw [if_neg c2]
      simp only
      rw [peek_sh h e, if_neg c2, sh_adv]

theorem item_sh (h : Ctx p t d) (hp : s.pos ≤ p.size) (P : Nat → Bool) (hr : (itemF p s P).2.fault = false) : itemF t (shS A d B s) P = ((itemF p s P).1, shS A d B (itemF p s P).2) := by
  have hbn := bound_near (t := p) s 0 (by decide)
  have hbp := hbn.pos hp
  have hbg := bound_ge (t := p) s 0 (by decide)
  have hbf : (boundF p s 0).2.fault = false := by
    cases hf : (boundF p s 0).2.fault with
    | false => rfl
    | true =>
      unfold itemF at hr
      rw [if_neg (fun e => by rw [peek_fault' hf] at e; exact absurd e.1 (by decide))] at hr
      rw [hf] at hr; cases hr
  have hb := bound_sh (A := A) (B := B) h hp (by decide) hbf
  unfold itemF at hr ⊢
  rw [hb]
  simp only
  have hcl : peekF p (boundF p s 0).2 = 45 → closesF t ((shS A d B (boundF p s 0).2).pos + 1) = closesF p ((boundF p s 0).2.pos + 1) := by
    intro e
    have hlt := (peek_ne (t := p) (s := (boundF p s 0).2) (by rw [e]; decide)).2
    unfold closesF
    show decide (byteAt t ((boundF p s 0).2.pos + d + 1) = 93) = _
    rw [Nat.add_right_comm]
    by_cases hl : (boundF p s 0).2.pos + 1 < p.size
    · rw [h.in_ _ hl]
    · have e1 : (boundF p s 0).2.pos + 1 = p.size := by omega
      rw [e1, h.end_, byteAt_out (by omega)]; rfl
  by_cases c : peekF p (boundF p s 0).2 = 45 ∧ closesF p ((boundF p s 0).2.pos + 1) = false
  · rw [if_pos c] at hr
    have c' : peekF t (shS A d B (boundF p s 0).2) = 45 ∧ closesF t ((shS A d B (boundF p s 0).2).pos + 1) = false := ⟨(peek_iff h hbf hbp (by decide) (by decide)).2 c.1, by rw [hcl c.1]; exact c.2⟩
    rw [if_pos c, if_pos c', ← sh_adv]
    have hap : (advF (boundF p s 0).2).pos ≤ p.size := by
      have := (peek_ne (t := p) (s := (boundF p s 0).2) (by rw [c.1]; decide)).2
      show (boundF p s 0).2.pos + 1 ≤ _
      omega
    rw [bound_sh h hap hbg hr]
  · rw [if_neg c] at hr
    have c' : ¬ (peekF t (shS A d B (boundF p s 0).2) = 45 ∧ closesF t ((shS A d B (boundF p s 0).2).pos + 1) = false) := fun e => by
      have e1 := (peek_iff h hbf hbp (by decide) (by decide)).1 e.1
      exact c ⟨e1, by rw [← hcl e1]; exact e.2⟩
    rw [if_neg c, if_neg c']

theorem classL_sh (h : Ctx p t d) : ∀ (n : Nat) (P : Nat → Bool) (s : St), s.pos ≤ p.size → (classLF p n P s).2.fault = false → classLF t n P (shS A d B s) = ((classLF p n P s).1, shS A d B (classLF p n P s).2)
  | 0, P, s, _, _ => rfl
  | n + 1, P, s, hp, hr => by
    rw [classLF] at hr
    rw [classLF, classLF]
    by_cases c : s.fault = true ∨ peekF p s = 93
    · rw [if_pos c] at hr
      have hf : s.fault = false := hr
      have c93 : peekF p s = 93 := c.elim (fun e => by rw [hf] at e; cases e) id
      rw [if_pos c, if_pos (.inr ((peek_iff h hf hp (by decide) (by decide)).2 c93))]
    · rw [if_neg c] at hr
      have hf : s.fault = false := by
        cases hf : s.fault with
        | false => rfl
        | true => exact absurd (Or.inl hf) c
      have hif : (itemF p s P).2.fault = false := by
        cases hif : (itemF p s P).2.fault with
        | false => rfl
        | true => rw [classL_fault n _ _ hif] at hr; cases hr
      rw [if_neg c, if_neg (fun e => c (e.elim (fun e => .inl e) (fun e => .inr ((peek_iff h hf hp (by decide) (by decide)).1 e)))), item_sh h hp P hif]
      exact classL_sh h n _ _ ((item_near (t := p) s P).pos hp) hr

theorem class_sh (h : Ctx p t d) (n : Nat) (hp : s.pos ≤ p.size) (hr : (classF p n s).2.fault = false) : classF t n (shS A d B s) = shR A d B (classF p n s) := by
  unfold classF at hr ⊢
  simp only at hr ⊢
  rw [takeOf_fault] at hr
  have hf : s.fault = false := by
    cases hf : s.fault with
    | false => rfl
    | true => rw [skip_fault (by decide) hf] at hr; rw [need_fault (by decide) (classL_fault n _ _ (item_fault _ hf))] at hr; cases hr
  have hk := skip_ok hp 94 (by decide)
  have n2 := item_near (t := p) (skipF p s 94).2 (fun _ => false)
  have n3 := classL_near (t := p) n (itemF p (skipF p s 94).2 (fun _ => false)).1 (itemF p (skipF p s 94).2 (fun _ => false)).2
  have hcf : (classLF p n (itemF p (skipF p s 94).2 (fun _ => false)).1 (itemF p (skipF p s 94).2 (fun _ => false)).2).2.fault = false := by
    cases hcf : (classLF p n (itemF p (skipF p s 94).2 (fun _ => false)).1 (itemF p (skipF p s 94).2 (fun _ => false)).2).2.fault with
    | false => rfl
    | true => rw [need_fault (by decide) hcf] at hr; cases hr
  have hif : (itemF p (skipF p s 94).2 (fun _ => false)).2.fault = false := by
    cases hif : (itemF p (skipF p s 94).2 (fun _ => false)).2.fault with
    | false => rfl
    | true => rw [classL_fault n _ _ hif] at hcf; cases hcf
  rw [skip_sh h hf hp (by decide) (by decide)]
  simp only
  rw [item_sh h hk.2 _ hif]
  simp only
  rw [classL_sh h n _ _ (n2.pos hk.2) hcf]
  simp only
  have c93 : peekF p (classLF p n (itemF p (skipF p s 94).2 (fun _ => false)).1 (itemF p (skipF p s 94).2 (fun _ => false)).2).2 = 93 := by
    unfold needF at hr
    by_cases e : peekF p (classLF p n (itemF p (skipF p s 94).2 (fun _ => false)).1 (itemF p (skipF p s 94).2 (fun _ => false)).2).2 = 93
    · exact e
    · rw [if_neg e] at hr; cases hr
  have en : needF t (shS A d B (classLF p n (itemF p (skipF p s 94).2 (fun _ => false)).1 (itemF p (skipF p s 94).2 (fun _ => false)).2).2) 93 = shS A d B (needF p (classLF p n (itemF p (skipF p s 94).2 (fun _ => false)).1 (itemF p (skipF p s 94).2 (fun _ => false)).2).2 93) := by
    unfold needF
    rw [if_pos c93, if_pos ((peek_iff h hcf (n3.pos (n2.pos hk.2)) (by decide) (by decide)).2 c93), sh_adv]
  rw [en]
  exact takeOf_sh _

end
end Go.Proofs.YtakbfoegkjaphaaGreatDoor

namespace Go.Proofs.YtakbfoegkjaphaaGreatDoor

section
variable {p t : ByteArray} {A d : Nat} {B s : St}

theorem shP_nothing : shP A nothingF = nothingF := by funext sp; simp [shP, nothingF]
theorem shP_anchor (m : Nat) : shP A (anchorF m) = anchorF m := by funext sp; simp [shP, anchorF]
theorem shP_either (a b : Piece) : shP A (eitherF a b) = eitherF (shP A a) (shP A b) := by funext sp; simp [shP, eitherF, shl_or]
theorem shP_join (a b : Piece) : shP A (joinF a b) = joinF (shP A a) (shP A b) := by
  funext sp
  simp only [shP, joinF, joinedF]
  by_cases h1 : (a sp).e = true <;> by_cases h2 : (b sp).e = true <;> simp [h1, h2, shl_or]
theorem sh_tie (q r : Piece) : shS A d B { s with fo := tieP s.fo q r } = { shS A d B s with fo := tieP (shS A d B s).fo (shP A q) (shP A r) } := by
  unfold shS tieP shP
  simp only
  congr 1
  funext sp a
  simp only [Nat.testBit_shiftLeft]
  by_cases h : a < A
  · rw [if_pos h, if_pos h, if_neg (by simp; omega)]
  · rw [if_neg h, if_neg h]
    by_cases hl : (q sp).l.testBit (a - A) = true
    · rw [if_pos hl, if_pos (by simp [hl]; omega), shl_or]
    · rw [if_neg hl, if_neg (by simp [hl])]

structure SimAll (p t : ByteArray) (A d : Nat) (B : St) (n : Nat) : Prop where
  alt : ∀ s, Inv p s → (altF p n s).2.fault = false → altF t n (shS A d B s) = shR A d B (altF p n s)
  altL : ∀ q s, Inv p s → PB s.atoms q → (altLF p n q s).2.fault = false → altLF t n (shP A q) (shS A d B s) = shR A d B (altLF p n q s)
  seq : ∀ s, Inv p s → (seqF p n s).2.fault = false → seqF t n (shS A d B s) = shR A d B (seqF p n s)
  seqL : ∀ q s, Inv p s → PB s.atoms q → (seqLF p n q s).2.fault = false → seqLF t n (shP A q) (shS A d B s) = shR A d B (seqLF p n q s)
  part : ∀ s, Inv p s → peekF p s ≠ -1 → (partF p n s).2.fault = false → partF t n (shS A d B s) = shR A d B (partF p n s)
  partL : ∀ q s, Inv p s → PB s.atoms q → (partLF p n q s).2.fault = false → partLF t n (shP A q) (shS A d B s) = shR A d B (partLF p n q s)
  atom : ∀ s, Inv p s → peekF p s ≠ -1 → (atomF p n s).2.fault = false → atomF t n (shS A d B s) = shR A d B (atomF p n s)

theorem simAll (h : Ctx p t d) : ∀ n, SimAll p t A d B n
  | 0 => by
    have e0 : ∀ s : St, (nothingF, shS A d B s) = shR A d B (nothingF, s) := fun s => by unfold shR; rw [shP_nothing]
    exact ⟨fun s _ _ => e0 s, fun _ _ _ _ _ => rfl, fun s _ _ => e0 s, fun _ _ _ _ _ => rfl, fun s _ _ _ => e0 s, fun _ _ _ _ _ => rfl, fun s _ _ _ => e0 s⟩
  | n + 1 => by
    have ih := simAll h n
    have gv := givesAll p n
    refine ⟨fun s hi hr => ?_, fun q s hi hq hr => ?_, fun s hi hr => ?_, fun q s hi hq hr => ?_, fun s hi hp hr => ?_, fun q s hi hq hr => ?_, fun s hi hp hr => ?_⟩
    · rw [altF_s] at hr
      have g := gv.seq s hi
      rw [altF_s, altF_s, ih.seq s hi (FaultAll.altL' hr)]
      exact ih.altL _ _ g.inv g.pb hr
    · have hf := FaultAll.altL' hr
      rw [altLF_s] at hr
      rw [altLF_s, altLF_s p n q s]
      by_cases c : peekF p s = 124
      · have ha := hi.adv (by rw [c]; decide)
        have g := gv.seq _ ha
        rw [if_pos c] at hr
        rw [if_pos c, if_pos ((peek_iff h hf hi.pos (by decide) (by decide)).2 c), ← sh_adv, ih.seq _ ha (FaultAll.altL' hr)]
        have e := ih.altL (eitherF q (seqF p n (advF s)).1) (seqF p n (advF s)).2 g.inv ((hq.mono g.al).either g.pb) hr
        rw [shP_either] at e
        exact e
      · rw [if_neg c, if_neg (fun e => c ((peek_iff h hf hi.pos (by decide) (by decide)).1 e))]; rfl
    · rw [seqF_s] at hr
      rw [seqF_s, seqF_s]
      have e := ih.seqL nothingF s hi (PB.nothing _) hr
      rw [shP_nothing] at e
      exact e
    · have hf := FaultAll.seqL' hr
      rw [seqLF_s] at hr
      rw [seqLF_s, seqLF_s p n q s]
      by_cases c : peekF p s = -1 ∨ peekF p s = 41 ∨ peekF p s = 124 ∨ peekF p s = 42 ∨ peekF p s = 43 ∨ peekF p s = 63
      · have c' : peekF t (shS A d B s) = -1 ∨ peekF t (shS A d B s) = 41 ∨ peekF t (shS A d B s) = 124 ∨ peekF t (shS A d B s) = 42 ∨ peekF t (shS A d B s) = 43 ∨ peekF t (shS A d B s) = 63 := by
          by_cases e : peekF p s = -1
          · exact .inr (.inl (peek_sh_end h hf hi.pos e))
          · rw [peek_sh h e]; exact c
        rw [if_pos c, if_pos c']; rfl
      · have hp : peekF p s ≠ -1 := fun e => c (.inl e)
        rw [if_neg c] at hr
        have g := gv.part s hi hp
        have hpf : (partF p n s).2.fault = false := by have := FaultAll.seqL' hr; exact this
        rw [if_neg c, if_neg (by rw [peek_sh h hp]; exact c), ih.part s hi hp hpf]
        have e := ih.seqL (joinF q (partF p n s).1) { (partF p n s).2 with fo := tieP (partF p n s).2.fo q (partF p n s).1 } (g.inv.tie g.pb) ((hq.mono g.al).join g.pb) hr
        rw [shP_join, sh_tie] at e
        exact e
    · rw [partF_s] at hr
      have g := gv.atom s hi hp
      rw [partF_s, partF_s, ih.atom s hi hp (FaultAll.partL' hr)]
      exact ih.partL _ _ g.inv g.pb hr
    · have hf := FaultAll.partL' hr
      rw [partLF_s] at hr
      rw [partLF_s, partLF_s p n q s]
      have pk := fun c h1 h2 => peek_iff (A := A) (B := B) (c := c) h hf hi.pos h1 h2
      by_cases c1 : peekF p s = 42
      · rw [if_pos c1] at hr
        have hi2 := hi.tie (q := q) hq
        have ha := hi2.adv (s := { s with fo := tieP s.fo q q }) (by rw [peek_tie, c1]; decide)
        rw [if_pos c1, if_pos ((pk 42 (by decide) (by decide)).2 c1)]
        have e := ih.partL _ _ ha (hq.either (PB.nothing _)) hr
        rw [shP_either, shP_nothing, sh_adv, sh_tie] at e
        exact e
      · rw [if_neg c1] at hr
        rw [if_neg c1, if_neg (fun e => c1 ((pk 42 (by decide) (by decide)).1 e))]
        by_cases c2 : peekF p s = 43
        · rw [if_pos c2] at hr
          have hi2 := hi.tie (q := q) hq
          have ha := hi2.adv (s := { s with fo := tieP s.fo q q }) (by rw [peek_tie, c2]; decide)
          rw [if_pos c2, if_pos ((pk 43 (by decide) (by decide)).2 c2)]
          have e := ih.partL _ _ ha hq hr
          rw [sh_adv, sh_tie] at e
          exact e
        · rw [if_neg c2] at hr
          rw [if_neg c2, if_neg (fun e => c2 ((pk 43 (by decide) (by decide)).1 e))]
          by_cases c3 : peekF p s = 63
          · rw [if_pos c3] at hr
            have ha := hi.adv (by rw [c3]; decide)
            rw [if_pos c3, if_pos ((pk 63 (by decide) (by decide)).2 c3)]
            have e := ih.partL _ _ ha (hq.either (PB.nothing _)) hr
            rw [shP_either, shP_nothing, sh_adv] at e
            exact e
          · rw [if_neg c3, if_neg (fun e => c3 ((pk 63 (by decide) (by decide)).1 e))]; rfl
    · have hf := FaultAll.atom' hr
      rw [atomF_s] at hr
      have ha := hi.adv hp
      rw [atomF_s, atomF_s p n s, peek_sh h hp]
      by_cases c1 : peekF p s = 40
      · rw [if_pos c1] at hr
        have hr : (needF p (altF p n (advF s)).2 41).fault = false := hr
        rw [if_pos c1, if_pos c1, ← sh_adv]
        have haf : (altF p n (advF s)).2.fault = false := by
          cases haf : (altF p n (advF s)).2.fault with
          | false => rfl
          | true => rw [need_fault (by decide) haf] at hr; cases hr
        have hc : peekF p (altF p n (advF s)).2 = 41 := by
          unfold needF at hr
          by_cases e : peekF p (altF p n (advF s)).2 = 41
          · exact e
          · rw [if_neg e] at hr; cases hr
        rw [ih.alt _ ha haf]
        unfold shR needF
        simp only
        rw [if_pos hc, peek_sh h (by rw [hc]; decide), if_pos hc, sh_adv]
      · rw [if_neg c1] at hr
        rw [if_neg c1, if_neg c1]
        by_cases c2 : peekF p s = 91
        · rw [if_pos c2] at hr
          rw [if_pos c2, if_pos c2, ← sh_adv]
          exact class_sh h n ha.pos hr
        · rw [if_neg c2] at hr
          rw [if_neg c2, if_neg c2]
          by_cases c3 : peekF p s = 46
          · rw [if_pos c3, if_pos c3, ← sh_adv]; exact take_sh _ _
          · rw [if_neg c3] at hr
            rw [if_neg c3, if_neg c3]
            by_cases c4 : peekF p s = 94
            · rw [if_pos c4, if_pos c4, ← sh_adv]; unfold shR; rw [shP_anchor]
            · rw [if_neg c4] at hr
              rw [if_neg c4, if_neg c4]
              by_cases c5 : peekF p s = 36
              · rw [if_pos c5, if_pos c5, ← sh_adv]; unfold shR; rw [shP_anchor]
              · rw [if_neg c5] at hr
                rw [if_neg c5, if_neg c5, plain_sh h hi.pos hr]
                exact take_sh _ _

end
end Go.Proofs.YtakbfoegkjaphaaGreatDoor

namespace Go.Proofs.YtakbfoegkjaphaaGreatDoor

/-- Behind atoms that are not there yet comes nothing. -/
def FoZ (s : St) : Prop := ∀ sp a, s.atoms ≤ a → s.fo sp a = 0

section
variable {p t : ByteArray} {s : St}

theorem FoZ.tie (h : FoZ s) {q r : Piece} (hq : PB s.atoms q) : FoZ { s with fo := tieP s.fo q r } := by
  intro sp a ha
  show tieP s.fo q r sp a = 0
  unfold tieP
  have hl : (q sp).l.testBit a = false := Nat.testBit_lt_two_pow (Nat.lt_of_lt_of_le (hq sp).2 (Nat.pow_le_pow_right (by decide) ha))
  rw [if_neg (by rw [hl]; decide)]
  exact h sp a ha
theorem FoZ.near {s' : St} (h : FoZ s) (hn : Near t s s') : FoZ s' := by
  intro sp a ha
  rw [hn.fo]
  exact h sp a (by rw [← hn.atoms]; exact ha)
theorem FoZ.takeOf (h : FoZ s) (P : Nat → Bool) : FoZ (takeOfF s P).2 := by
  intro sp a ha
  exact h sp a (Nat.le_of_succ_le ha)

structure FoAll (t : ByteArray) (n : Nat) : Prop where
  alt : ∀ s, Inv t s → FoZ s → FoZ (altF t n s).2
  altL : ∀ q s, Inv t s → PB s.atoms q → FoZ s → FoZ (altLF t n q s).2
  seq : ∀ s, Inv t s → FoZ s → FoZ (seqF t n s).2
  seqL : ∀ q s, Inv t s → PB s.atoms q → FoZ s → FoZ (seqLF t n q s).2
  part : ∀ s, Inv t s → peekF t s ≠ -1 → FoZ s → FoZ (partF t n s).2
  partL : ∀ q s, Inv t s → PB s.atoms q → FoZ s → FoZ (partLF t n q s).2
  atom : ∀ s, Inv t s → peekF t s ≠ -1 → FoZ s → FoZ (atomF t n s).2

theorem foAll (t : ByteArray) : ∀ n, FoAll t n
  | 0 => ⟨fun _ _ h => h, fun _ _ _ _ h => h, fun _ _ h => h, fun _ _ _ _ h => h, fun _ _ _ h => h, fun _ _ _ _ h => h, fun _ _ _ h => h⟩
  | n + 1 => by
    have ih := foAll t n
    have gv := givesAll t n
    refine ⟨fun s hi h => ?_, fun q s hi hq h => ?_, fun s hi h => ?_, fun q s hi hq h => ?_, fun s hi hp h => ?_, fun q s hi hq h => ?_, fun s hi hp h => ?_⟩
    · rw [altF_s]; have g := gv.seq s hi; exact ih.altL _ _ g.inv g.pb (ih.seq _ hi h)
    · rw [altLF_s]
      by_cases c : peekF t s = 124
      · rw [if_pos c]
        have hp : peekF t s ≠ -1 := by rw [c]; decide
        have ha := hi.adv hp
        have g := gv.seq _ ha
        exact ih.altL _ _ g.inv ((hq.mono g.al).either g.pb) (ih.seq _ ha (h.near (near_adv hp)))
      · rw [if_neg c]; exact h
    · rw [seqF_s]; exact ih.seqL _ _ hi (PB.nothing _) h
    · rw [seqLF_s]
      by_cases c : peekF t s = -1 ∨ peekF t s = 41 ∨ peekF t s = 124 ∨ peekF t s = 42 ∨ peekF t s = 43 ∨ peekF t s = 63
      · rw [if_pos c]; exact h
      · rw [if_neg c]
        have hp : peekF t s ≠ -1 := fun e => c (.inl e)
        have g := gv.part s hi hp
        exact ih.seqL _ _ (g.inv.tie g.pb) ((hq.mono g.al).join g.pb) ((ih.part s hi hp h).tie (hq.mono g.al))
    · rw [partF_s]; have g := gv.atom s hi hp; exact ih.partL _ _ g.inv g.pb (ih.atom _ hi hp h)
    · rw [partLF_s]
      by_cases c1 : peekF t s = 42
      · rw [if_pos c1]
        have hi2 := hi.tie (q := q) hq
        have hp2 : peekF t { s with fo := tieP s.fo q q } ≠ -1 := by rw [peek_tie, c1]; decide
        exact ih.partL _ _ (hi2.adv hp2) (hq.either (PB.nothing _)) ((h.tie hq).near (near_adv hp2))
      · rw [if_neg c1]
        by_cases c2 : peekF t s = 43
        · rw [if_pos c2]
          have hi2 := hi.tie (q := q) hq
          have hp2 : peekF t { s with fo := tieP s.fo q q } ≠ -1 := by rw [peek_tie, c2]; decide
          exact ih.partL _ _ (hi2.adv hp2) hq ((h.tie hq).near (near_adv hp2))
        · rw [if_neg c2]
          by_cases c3 : peekF t s = 63
          · rw [if_pos c3]
            have hp2 : peekF t s ≠ -1 := by rw [c3]; decide
            exact ih.partL _ _ (hi.adv hp2) (hq.either (PB.nothing _)) (h.near (near_adv hp2))
          · rw [if_neg c3]; exact h
    · rw [atomF_s]
      have ha := hi.adv hp
      have hz := h.near (near_adv hp)
      by_cases c1 : peekF t s = 40
      · rw [if_pos c1]; exact (ih.alt _ ha hz).near (need_near (t := t) _ 41 (by decide))
      · rw [if_neg c1]
        by_cases c2 : peekF t s = 91
        · rw [if_pos c2]
          have n1 := skip_near (t := t) (advF s) 94 (by decide)
          have n2 := item_near (t := t) (skipF t (advF s) 94).2 (fun _ => false)
          have n3 := classL_near (t := t) n (itemF t (skipF t (advF s) 94).2 (fun _ => false)).1 (itemF t (skipF t (advF s) 94).2 (fun _ => false)).2
          have n4 := need_near (t := t) (classLF t n (itemF t (skipF t (advF s) 94).2 (fun _ => false)).1 (itemF t (skipF t (advF s) 94).2 (fun _ => false)).2).2 93 (by decide)
          exact (hz.near (((n1.trans n2).trans n3).trans n4)).takeOf _
        · rw [if_neg c2]
          by_cases c3 : peekF t s = 46
          · rw [if_pos c3]; exact hz.takeOf _
          · rw [if_neg c3]
            by_cases c4 : peekF t s = 94
            · rw [if_pos c4]; exact hz
            · rw [if_neg c4]
              by_cases c5 : peekF t s = 36
              · rw [if_pos c5]; exact hz
              · rw [if_neg c5]; exact (h.near (plain_near s hp).1).takeOf _

theorem read_foz (p : ByteArray) : FoZ (readF p).2 := (foAll p 400).alt st0 (st0_inv p) (fun _ _ _ => rfl)
theorem read_inv (p : ByteArray) : Inv p (readF p).2 := ((givesAll p 400).alt st0 (st0_inv p)).inv
theorem read_pb (p : ByteArray) : PB (readF p).2.atoms (readF p).1 := ((givesAll p 400).alt st0 (st0_inv p)).pb
theorem ok_parts (h : readOk p = true) : (readF p).2.fault = false ∧ (readF p).2.pos = p.size := by
  unfold readOk at h
  simp only [Bool.and_eq_true, Bool.not_eq_true', decide_eq_true_eq] at h
  have := (read_inv p).pos
  exact ⟨h.1, by omega⟩
theorem ok_of (h1 : (readF p).2.fault = false) (h2 : p.size ≤ (readF p).2.pos) : readOk p = true := by
  unfold readOk
  simp only [Bool.and_eq_true, Bool.not_eq_true', decide_eq_true_eq]
  exact ⟨h1, h2⟩

/-- The state behind a group. -/
def grpS (B : St) (p : ByteArray) : St := advF (shS B.atoms (B.pos + 1) B (readF p).2)

theorem start_sh {B : St} (hf : B.fault = false) (hz : FoZ B) : advF B = shS B.atoms (B.pos + 1) B st0 := by
  obtain ⟨pos, fault, atoms, tk, fo⟩ := B
  simp only at hf
  subst hf
  unfold advF shS st0
  simp only [Nat.zero_add, Nat.zero_shiftLeft, Nat.or_zero]
  congr 1
  funext sp a
  by_cases h : a < atoms
  · rw [if_pos h]
  · rw [if_neg h]; exact hz sp a (Nat.le_of_not_lt h)

/-- A pattern in brackets, read as an atom. -/
theorem group_atom {B : St} (h : Ctx p t (B.pos + 1)) (hf : B.fault = false) (hz : FoZ B) (h40 : peekF t B = 40) (hok : readOk p = true) (hp : p.size ≤ 50) (n : Nat) (hn : 6 * p.size + 3 ≤ n) :
    atomF t (n + 1) B = (shP B.atoms (readF p).1, grpS B p) := by
  obtain ⟨o1, o2⟩ := ok_parts hok
  have e1 : altF p n st0 = readF p := alt_fuel' (st0_inv p) n 400 (by show 6 * (p.size - 0) + 3 ≤ n; omega) (by show 6 * (p.size - 0) + 3 ≤ 400; omega)
  have e2 := (simAll (A := B.atoms) (B := B) h n).alt st0 (st0_inv p) (by rw [e1]; exact o1)
  rw [atomF_s, if_pos h40, start_sh hf hz, e2, e1]
  unfold shR grpS needF
  simp only
  have pk : peekF t (shS B.atoms (B.pos + 1) B (readF p).2) = 41 := by
    refine peek_sh_end h o1 (by omega) ?_
    unfold peekF
    rw [o1]
    exact byteAt_out (by omega)
  rw [if_pos pk]

theorem grp_pos {B : St} (hok : readOk p = true) : (grpS B p).pos = B.pos + p.size + 2 := by
  show (readF p).2.pos + (B.pos + 1) + 1 = _
  rw [(ok_parts hok).2]; omega
theorem grp_fault {B : St} (hok : readOk p = true) : (grpS B p).fault = false := (ok_parts hok).1
theorem peek_at {B : St} (hf : B.fault = false) : peekF t B = byteAt t B.pos := by unfold peekF; rw [hf]; rfl

/-- A pattern in brackets as a part, with a mark or none behind it. -/
theorem group_part {B : St} (h : Ctx p t (B.pos + 1)) (hf : B.fault = false) (hz : FoZ B) (h40 : byteAt t B.pos = 40) (hok : readOk p = true) (hp : p.size ≤ 50) (n : Nat) (hn : 6 * p.size + 10 ≤ n)
    (hc : byteAt t (B.pos + p.size + 2) ≠ 42 ∧ byteAt t (B.pos + p.size + 2) ≠ 43 ∧ byteAt t (B.pos + p.size + 2) ≠ 63) :
    partF t n B = (shP B.atoms (readF p).1, grpS B p) := by
  obtain ⟨m, rfl⟩ : ∃ m, n = m + 2 := ⟨n - 2, by omega⟩
  have e := group_atom h hf hz (by rw [peek_at hf]; exact h40) hok hp m (by omega)
  rw [partF_s, e, partLF_s, peek_at (grp_fault hok), grp_pos hok, if_neg hc.1, if_neg hc.2.1, if_neg hc.2.2]

theorem join_nothing (r : Piece) : joinF nothingF r = r := by
  funext sp
  simp only [joinF, joinedF, nothingF]
  by_cases h : (r sp).e = true
  · rw [if_pos h]; simp
  · rw [if_neg h]; simp
theorem tie_nothing (fo : Nat → Nat → Nat) (r : Piece) : tieP fo nothingF r = fo := by
  funext sp a
  simp [tieP, nothingF]

end
end Go.Proofs.YtakbfoegkjaphaaGreatDoor

