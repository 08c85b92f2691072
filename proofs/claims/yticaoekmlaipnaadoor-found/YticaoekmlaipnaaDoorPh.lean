/-
  A pattern that is read in brackets, within another and behind other atoms, is read as by itself, with its places and its atoms' numbers moved on.
-/
import Derived.Test.YticaoekmlaipnaaDoorPg
set_option linter.unusedSimpArgs false
set_option linter.unusedVariables false
namespace Go.Proofs.YticaoekmlaipnaaDoor

/-- The state, d places and A atoms on, behind B. -/
def shS (A d : Nat) (B s : St) : St := ⟨s.pos + d, s.fault, s.atoms + A, fun b => B.tk b ||| (s.tk b <<< A), fun sp a => if a < A then B.fo sp a else s.fo sp (a - A) <<< A⟩
def shP (A : Nat) (q : Piece) : Piece := fun sp => ⟨(q sp).e, (q sp).f <<< A, (q sp).l <<< A⟩
def shR (A d : Nat) (B : St) (x : Piece × St) : Piece × St := (shP A x.1, shS A d B x.2)

/-- p stands in t at the place d, and a closing bracket behind it. -/
structure Ctx (p t : ByteArray) (d : Nat) : Prop where
  in_ : ∀ i, i < p.size → byteAt t (i + d) = byteAt p i
  end_ : byteAt t (p.size + d) = 41

section
variable {p t : ByteArray} {A d : Nat} {B s : St}

theorem byteAt_ne {k : Nat} (h : k < p.size) : byteAt p k ≠ -1 := by unfold byteAt; rw [dif_pos h]; omega
theorem byteAt_out {k : Nat} (h : ¬ k < p.size) : byteAt p k = -1 := by unfold byteAt; rw [dif_neg h]

theorem sh_adv : shS A d B (advF s) = advF (shS A d B s) := by unfold shS advF; simp only [Nat.add_right_comm]
theorem sh_fail : shS A d B (failF s) = failF (shS A d B s) := rfl
theorem sh_fault : (shS A d B s).fault = s.fault := rfl

theorem peek_sh (h : Ctx p t d) (hs : peekF p s ≠ -1) : peekF t (shS A d B s) = peekF p s := by
  have hn := peek_ne hs
  unfold peekF
  rw [sh_fault, hn.1]
  exact h.in_ _ hn.2
theorem peek_sh_end (h : Ctx p t d) (hf : s.fault = false) (hp : s.pos ≤ p.size) (hs : peekF p s = -1) : peekF t (shS A d B s) = 41 := by
  have hp' : s.pos = p.size := by
    rcases Nat.lt_or_ge s.pos p.size with hl | hl
    · have := peek_of (t := p) hf hl; omega
    · omega
  unfold peekF
  rw [sh_fault, hf]
  show byteAt t (s.pos + d) = 41
  rw [hp']; exact h.end_
theorem peek_iff (h : Ctx p t d) (hf : s.fault = false) (hp : s.pos ≤ p.size) {c : Int} (h1 : c ≠ -1) (h2 : c ≠ 41) : peekF t (shS A d B s) = c ↔ peekF p s = c := by
  by_cases hs : peekF p s = -1
  · rw [peek_sh_end h hf hp hs, hs]; exact ⟨fun e => absurd e.symm h2, fun e => absurd e.symm h1⟩
  · rw [peek_sh h hs]

theorem skip_sh (h : Ctx p t d) (hf : s.fault = false) (hp : s.pos ≤ p.size) {c : Int} (h1 : c ≠ -1) (h2 : c ≠ 41) : skipF t (shS A d B s) c = ((skipF p s c).1, shS A d B (skipF p s c).2) := by
  unfold skipF
  by_cases e : peekF p s = c
  · rw [if_pos e, if_pos ((peek_iff h hf hp h1 h2).2 e), sh_adv]
  · rw [if_neg e, if_neg (fun e' => e ((peek_iff h hf hp h1 h2).1 e'))]
theorem skip_ok (hp : s.pos ≤ p.size) (c : Int) (hc : c ≠ -1) : (skipF p s c).2.fault = s.fault ∧ (skipF p s c).2.pos ≤ p.size := by
  refine ⟨?_, (skip_near (t := p) s c hc).pos hp⟩
  unfold skipF
  split <;> rfl

theorem plain_sh (h : Ctx p t d) (hp : s.pos ≤ p.size) (hr : (plainF p s).2.fault = false) : plainF t (shS A d B s) = ((plainF p s).1, shS A d B (plainF p s).2) := by
  have hf : s.fault = false := by
    cases hf : s.fault with
    | false => rfl
    | true => rw [plain_fault hf] at hr; cases hr
  have hk := skip_ok hp 92 (by decide)
  have e : peekF p (skipF p s 92).2 ≠ -1 := by
    intro e
    unfold plainF at hr
    rw [if_pos e] at hr
    cases hr
  unfold plainF
  rw [skip_sh h hf hp (by decide) (by decide)]
  simp only
  rw [peek_sh h e, if_neg e, if_neg e, sh_adv]

theorem shl_or (a b n : Nat) : (a ||| b) <<< n = a <<< n ||| b <<< n := by
  apply Nat.eq_of_testBit_eq
  intro i
  simp only [Nat.testBit_or, Nat.testBit_shiftLeft]
  cases decide (n ≤ i) <;> simp
theorem shl_pow (a n : Nat) : 2 ^ (a + n) = (2 ^ a) <<< n := by rw [Nat.shiftLeft_eq, Nat.pow_add]

theorem takeOf_sh (P : Nat → Bool) : takeOfF (shS A d B s) P = shR A d B (takeOfF s P) := by
  unfold takeOfF shR shS shP
  simp only [shl_pow, Nat.add_right_comm]
  congr 2
  funext b
  by_cases h : P b = true
  · rw [if_pos h, if_pos h, shl_or, Nat.or_assoc]
  · rw [if_neg h, if_neg h]
theorem take_sh (a b : Int) : takeF (shS A d B s) a b = shR A d B (takeF s a b) := takeOf_sh _

theorem bound_sh (h : Ctx p t d) (hp : s.pos ≤ p.size) {least : Int} (hl : 0 ≤ least) (hr : (boundF p s least).2.fault = false) : boundF t (shS A d B s) least = ((boundF p s least).1, shS A d B (boundF p s least).2) := by
  have hf : s.fault = false := by
    cases hf : s.fault with
    | false => rfl
    | true => rw [bound_fault hl hf] at hr; cases hr
  unfold boundF at hr ⊢
  by_cases c1 : peekF p s = 93
  · rw [if_pos c1] at hr; cases hr
  · rw [if_neg c1] at hr
    rw [if_neg c1, if_neg (fun e => c1 ((peek_iff h hf hp (by decide) (by decide)).1 e)), skip_sh h hf hp (by decide) (by decide)]
    by_cases c2 : peekF p (skipF p s 92).2 < least
    · rw [if_pos c2] at hr; cases hr
    · have e : peekF p (skipF p s 92).2 ≠ -1 := by omega
      rw [if_neg c2]
      simp only
      rw [peek_sh h e, if_neg c2, sh_adv]

theorem item_sh (h : Ctx p t d) (hp : s.pos ≤ p.size) (P : Nat → Bool) (hr : (itemF p s P).2.fault = false) : itemF t (shS A d B s) P = ((itemF p s P).1, shS A d B (itemF p s P).2) := by
  have hbn := bound_near (t := p) s 0 (by decide)
  have hbp := hbn.pos hp
  have hbg := bound_ge (t := p) s 0 (by decide)
  have hbf : (boundF p s 0).2.fault = false := by
    cases hf : (boundF p s 0).2.fault with
    | false => rfl
    | true =>
      unfold itemF at hr
      rw [if_neg (fun e => by rw [peek_fault' hf] at e; exact absurd e.1 (by decide))] at hr
      rw [hf] at hr; cases hr
  have hb := bound_sh (A := A) (B := B) h hp (by decide) hbf
  unfold itemF at hr ⊢
  rw [hb]
  simp only
  have hcl : peekF p (boundF p s 0).2 = 45 → closesF t ((shS A d B (boundF p s 0).2).pos + 1) = closesF p ((boundF p s 0).2.pos + 1) := by
    intro e
    have hlt := (peek_ne (t := p) (s := (boundF p s 0).2) (by rw [e]; decide)).2
    unfold closesF
    show decide (byteAt t ((boundF p s 0).2.pos + d + 1) = 93) = _
    rw [Nat.add_right_comm]
    by_cases hl : (boundF p s 0).2.pos + 1 < p.size
    · rw [h.in_ _ hl]
    · have e1 : (boundF p s 0).2.pos + 1 = p.size := by omega
      rw [e1, h.end_, byteAt_out (by omega)]; rfl
  by_cases c : peekF p (boundF p s 0).2 = 45 ∧ closesF p ((boundF p s 0).2.pos + 1) = false
  · rw [if_pos c] at hr
    have c' : peekF t (shS A d B (boundF p s 0).2) = 45 ∧ closesF t ((shS A d B (boundF p s 0).2).pos + 1) = false := ⟨(peek_iff h hbf hbp (by decide) (by decide)).2 c.1, by rw [hcl c.1]; exact c.2⟩
    rw [if_pos c, if_pos c', ← sh_adv]
    have hap : (advF (boundF p s 0).2).pos ≤ p.size := by
      have := (peek_ne (t := p) (s := (boundF p s 0).2) (by rw [c.1]; decide)).2
      show (boundF p s 0).2.pos + 1 ≤ _
      omega
    rw [bound_sh h hap hbg hr]
  · rw [if_neg c] at hr
    have c' : ¬ (peekF t (shS A d B (boundF p s 0).2) = 45 ∧ closesF t ((shS A d B (boundF p s 0).2).pos + 1) = false) := fun e => by
      have e1 := (peek_iff h hbf hbp (by decide) (by decide)).1 e.1
      exact c ⟨e1, by rw [← hcl e1]; exact e.2⟩
    rw [if_neg c, if_neg c']

theorem classL_sh (h : Ctx p t d) : ∀ (n : Nat) (P : Nat → Bool) (s : St), s.pos ≤ p.size → (classLF p n P s).2.fault = false → classLF t n P (shS A d B s) = ((classLF p n P s).1, shS A d B (classLF p n P s).2)
  | 0, P, s, _, _ => rfl
  | n + 1, P, s, hp, hr => by
    rw [classLF] at hr
    rw [classLF, classLF]
    by_cases c : s.fault = true ∨ peekF p s = 93
    · rw [if_pos c] at hr
      have hf : s.fault = false := hr
      have c93 : peekF p s = 93 := c.elim (fun e => by rw [hf] at e; cases e) id
      rw [if_pos c, if_pos (.inr ((peek_iff h hf hp (by decide) (by decide)).2 c93))]
    · rw [if_neg c] at hr
      have hf : s.fault = false := by
        cases hf : s.fault with
        | false => rfl
        | true => exact absurd (Or.inl hf) c
      have hif : (itemF p s P).2.fault = false := by
        cases hif : (itemF p s P).2.fault with
        | false => rfl
        | true => rw [classL_fault n _ _ hif] at hr; cases hr
      rw [if_neg c, if_neg (fun e => c (e.elim (fun e => .inl e) (fun e => .inr ((peek_iff h hf hp (by decide) (by decide)).1 e)))), item_sh h hp P hif]
      exact classL_sh h n _ _ ((item_near (t := p) s P).pos hp) hr

theorem class_sh (h : Ctx p t d) (n : Nat) (hp : s.pos ≤ p.size) (hr : (classF p n s).2.fault = false) : classF t n (shS A d B s) = shR A d B (classF p n s) := by
  unfold classF at hr ⊢
  simp only at hr ⊢
  rw [takeOf_fault] at hr
  have hf : s.fault = false := by
    cases hf : s.fault with
    | false => rfl
    | true => rw [skip_fault (by decide) hf] at hr; rw [need_fault (by decide) (classL_fault n _ _ (item_fault _ hf))] at hr; cases hr
  have hk := skip_ok hp 94 (by decide)
  have n2 := item_near (t := p) (skipF p s 94).2 (fun _ => false)
  have n3 := classL_near (t := p) n (itemF p (skipF p s 94).2 (fun _ => false)).1 (itemF p (skipF p s 94).2 (fun _ => false)).2
  have hcf : (classLF p n (itemF p (skipF p s 94).2 (fun _ => false)).1 (itemF p (skipF p s 94).2 (fun _ => false)).2).2.fault = false := by
    cases hcf : (classLF p n (itemF p (skipF p s 94).2 (fun _ => false)).1 (itemF p (skipF p s 94).2 (fun _ => false)).2).2.fault with
    | false => rfl
    | true => rw [need_fault (by decide) hcf] at hr; cases hr
  have hif : (itemF p (skipF p s 94).2 (fun _ => false)).2.fault = false := by
    cases hif : (itemF p (skipF p s 94).2 (fun _ => false)).2.fault with
    | false => rfl
    | true => rw [classL_fault n _ _ hif] at hcf; cases hcf
  rw [skip_sh h hf hp (by decide) (by decide)]
  simp only
  rw [item_sh h hk.2 _ hif]
  simp only
  rw [classL_sh h n _ _ (n2.pos hk.2) hcf]
  simp only
  have c93 : peekF p (classLF p n (itemF p (skipF p s 94).2 (fun _ => false)).1 (itemF p (skipF p s 94).2 (fun _ => false)).2).2 = 93 := by
    unfold needF at hr
    by_cases e : peekF p (classLF p n (itemF p (skipF p s 94).2 (fun _ => false)).1 (itemF p (skipF p s 94).2 (fun _ => false)).2).2 = 93
    · exact e
    · rw [if_neg e] at hr; cases hr
  have en : needF t (shS A d B (classLF p n (itemF p (skipF p s 94).2 (fun _ => false)).1 (itemF p (skipF p s 94).2 (fun _ => false)).2).2) 93 = shS A d B (needF p (classLF p n (itemF p (skipF p s 94).2 (fun _ => false)).1 (itemF p (skipF p s 94).2 (fun _ => false)).2).2 93) := by
    unfold needF
    rw [if_pos c93, if_pos ((peek_iff h hcf (n3.pos (n2.pos hk.2)) (by decide) (by decide)).2 c93), sh_adv]
  rw [en]
  exact takeOf_sh _

end
end Go.Proofs.YticaoekmlaipnaaDoor
