/-
  What the reader keeps, as plain facts: the place never goes back nor beyond the end, there are no more atoms than bytes read, sets hold atoms that are there.
-/
import Derived.Test.YticaoekmlaipnaaDoorPb
set_option linter.unusedSimpArgs false
set_option linter.unusedVariables false
namespace Go.Proofs.YticaoekmlaipnaaDoor

variable {t : ByteArray}

structure Inv (t : ByteArray) (s : St) : Prop where
  pos : s.pos ≤ t.size
  at_ : s.atoms ≤ s.pos
  tk : ∀ b, s.tk b < 2 ^ s.atoms
  fo : ∀ x a, s.fo x a < 2 ^ s.atoms

def PB (n : Nat) (q : Piece) : Prop := ∀ x, (q x).f < 2 ^ n ∧ (q x).l < 2 ^ n

theorem PB.mono {n m : Nat} {q : Piece} (h : PB n q) (hm : n ≤ m) : PB m q := fun x =>
  ⟨Nat.lt_of_lt_of_le (h x).1 (Nat.pow_le_pow_right (by decide) hm), Nat.lt_of_lt_of_le (h x).2 (Nat.pow_le_pow_right (by decide) hm)⟩
theorem PB.nothing (n : Nat) : PB n nothingF := fun _ => ⟨Nat.two_pow_pos _, Nat.two_pow_pos _⟩
theorem PB.anchor (n m : Nat) : PB n (anchorF m) := fun _ => ⟨Nat.two_pow_pos _, Nat.two_pow_pos _⟩
theorem PB.either {n : Nat} {a b : Piece} (ha : PB n a) (hb : PB n b) : PB n (eitherF a b) := fun x => ⟨Nat.or_lt_two_pow (ha x).1 (hb x).1, Nat.or_lt_two_pow (ha x).2 (hb x).2⟩
theorem PB.join {n : Nat} {a b : Piece} (ha : PB n a) (hb : PB n b) : PB n (joinF a b) := fun x => by
  simp only [joinF, joinedF]
  refine ⟨?_, ?_⟩
  · split
    · exact Nat.or_lt_two_pow (ha x).1 (hb x).1
    · exact (ha x).1
  · split
    · exact Nat.or_lt_two_pow (hb x).2 (ha x).2
    · exact (hb x).2
theorem Inv.tie {s : St} (h : Inv t s) {q r : Piece} (hr : PB s.atoms r) : Inv t { s with fo := tieP s.fo q r } :=
  ⟨h.pos, h.at_, h.tk, fun x a => by
    simp only [tieP]
    split
    · exact Nat.or_lt_two_pow (h.fo x a) (hr x).1
    · exact h.fo x a⟩

theorem peek_ne {s : St} (h : peekF t s ≠ -1) : s.fault = false ∧ s.pos < t.size := by
  unfold peekF byteAt at h
  cases hf : s.fault
  · rw [hf] at h
    simp at h
    by_cases hk : s.pos < t.size
    · exact ⟨rfl, hk⟩
    · simp [hk] at h
  · rw [hf] at h; simp at h

theorem peek_of {s : St} (h1 : s.fault = false) (h2 : s.pos < t.size) : 0 ≤ peekF t s := by
  unfold peekF byteAt; rw [h1]; simp [h2]

theorem peek_fault' {s : St} (h : s.fault = true) : peekF t s = -1 := by unfold peekF; simp [h]

theorem Inv.adv {s : St} (h : Inv t s) (hp : peekF t s ≠ -1) : Inv t (advF s) := by
  have := (peek_ne hp).2
  exact ⟨by simp [advF]; omega, by have := h.at_; simp [advF]; omega, h.tk, h.fo⟩
theorem Inv.fail {s : St} (h : Inv t s) : Inv t (failF s) := ⟨h.pos, h.at_, h.tk, h.fo⟩

/-- Only the place and the fault may be other. -/
structure Near (t : ByteArray) (s s' : St) : Prop where
  atoms : s'.atoms = s.atoms
  tk : s'.tk = s.tk
  fo : s'.fo = s.fo
  le : s.pos ≤ s'.pos
  pos : s.pos ≤ t.size → s'.pos ≤ t.size
theorem Near.refl (s : St) : Near t s s := ⟨rfl, rfl, rfl, Nat.le_refl _, id⟩
theorem Near.trans {a b c : St} (h : Near t a b) (k : Near t b c) : Near t a c := ⟨k.atoms.trans h.atoms, k.tk.trans h.tk, k.fo.trans h.fo, Nat.le_trans h.le k.le, fun x => k.pos (h.pos x)⟩
theorem Near.inv {s s' : St} (h : Near t s s') (hi : Inv t s) : Inv t s' := ⟨h.pos hi.pos, by rw [h.atoms]; exact Nat.le_trans hi.at_ h.le, by rw [h.tk, h.atoms]; exact hi.tk, by rw [h.fo, h.atoms]; exact hi.fo⟩
theorem near_adv {s : St} (hp : peekF t s ≠ -1) : Near t s (advF s) := ⟨rfl, rfl, rfl, by simp [advF], fun _ => by have := (peek_ne hp).2; simp [advF]; omega⟩
theorem near_fail (s : St) : Near t s (failF s) := ⟨rfl, rfl, rfl, Nat.le_refl _, id⟩

theorem skip_near (s : St) (b : Int) (hb : b ≠ -1) : Near t s (skipF t s b).2 := by
  unfold skipF
  split
  · rename_i h; exact near_adv (by rw [h]; exact hb)
  · exact Near.refl s
theorem need_near (s : St) (b : Int) (hb : b ≠ -1) : Near t s (needF t s b) := by
  unfold needF
  split
  · rename_i h; exact near_adv (by rw [h]; exact hb)
  · exact near_fail s
theorem bound_near (s : St) (least : Int) (hl : 0 ≤ least) : Near t s (boundF t s least).2 := by
  have h := skip_near (t := t) s 92 (by decide)
  unfold boundF
  split
  · exact near_fail s
  · split
    · exact h.trans (near_fail _)
    · exact h.trans (near_adv (by omega))
theorem bound_prog (s : St) (least : Int) (hl : 0 ≤ least) : (boundF t s least).2.fault = true ∨ s.pos < (boundF t s least).2.pos := by
  have h := (skip_near (t := t) s 92 (by decide)).le
  unfold boundF
  split
  · exact .inl rfl
  · split
    · exact .inl rfl
    · exact .inr (by simp [advF]; omega)
theorem bound_ge (s : St) (least : Int) (hl : 0 ≤ least) : 0 ≤ (boundF t s least).1 := by
  unfold boundF
  split
  · simp
  · split
    · simp
    · simp only; omega

theorem item_near (s : St) (P : Nat → Bool) : Near t s (itemF t s P).2 := by
  have h := bound_near (t := t) s 0 (Int.le_refl 0)
  have hg := bound_ge (t := t) s 0 (Int.le_refl 0)
  unfold itemF
  split
  · rename_i hc
    exact (h.trans (near_adv (by rw [hc.1]; decide))).trans (bound_near _ _ hg)
  · exact h
theorem item_prog (s : St) (P : Nat → Bool) : (itemF t s P).2.fault = true ∨ s.pos < (itemF t s P).2.pos := by
  have h := bound_prog (t := t) s 0 (Int.le_refl 0)
  have hg := bound_ge (t := t) s 0 (Int.le_refl 0)
  unfold itemF
  split
  · rename_i hc
    have h2 := (bound_near (t := t) (advF (boundF t s 0).2) _ hg).le
    have h3 := (bound_near (t := t) s 0 (Int.le_refl 0)).le
    exact .inr (by simp only [advF] at h2 ⊢; omega)
  · exact h

theorem classL_near : ∀ (n : Nat) (P : Nat → Bool) (s : St), Near t s (classLF t n P s).2
  | 0, _, s => Near.refl s
  | n + 1, P, s => by
    unfold classLF
    split
    · exact Near.refl s
    · exact (item_near s P).trans (classL_near n _ _)

theorem takeOf_inv {s : St} (P : Nat → Bool) (h : Inv t s) (ha : s.atoms < s.pos) : Inv t (takeOfF s P).2 ∧ PB (takeOfF s P).2.atoms (takeOfF s P).1 := by
  have hp : 2 ^ s.atoms < 2 ^ (s.atoms + 1) := Nat.pow_lt_pow_right (by decide) (by omega)
  refine ⟨⟨h.pos, by simp [takeOfF]; omega, fun b => ?_, fun x a => Nat.lt_trans (h.fo x a) hp⟩, fun x => ⟨hp, hp⟩⟩
  simp only [takeOfF]
  split
  · exact Nat.or_lt_two_pow (Nat.lt_trans (h.tk b) hp) hp
  · exact Nat.lt_trans (h.tk b) hp

/-- What the parts of a pattern leave. -/
structure Gives (t : ByteArray) (s : St) (x : Piece × St) : Prop where
  inv : Inv t x.2
  pb : PB x.2.atoms x.1
  le : s.pos ≤ x.2.pos
  al : s.atoms ≤ x.2.atoms

theorem class_gives (n : Nat) (s : St) (h : Inv t s) (ha : s.atoms < s.pos) : Gives t s (classF t n s) := by
  have n1 := skip_near (t := t) s 94 (by decide)
  have n2 := item_near (t := t) (skipF t s 94).2 (fun _ => false)
  have n3 := classL_near (t := t) n (itemF t (skipF t s 94).2 (fun _ => false)).1 (itemF t (skipF t s 94).2 (fun _ => false)).2
  have n4 := need_near (t := t) (classLF t n (itemF t (skipF t s 94).2 (fun _ => false)).1 (itemF t (skipF t s 94).2 (fun _ => false)).2).2 93 (by decide)
  have n5 := ((n1.trans n2).trans n3).trans n4
  have hi := n5.inv h
  have hlt := Nat.lt_of_lt_of_le ha n5.le
  rw [← n5.atoms] at hlt
  obtain ⟨i1, p1⟩ := takeOf_inv (fun b => (classLF t n (itemF t (skipF t s 94).2 (fun _ => false)).1 (itemF t (skipF t s 94).2 (fun _ => false)).2).1 b == !(skipF t s 94).1) hi hlt
  have ea := n5.atoms
  refine ⟨i1, p1, n5.le, ?_⟩
  show s.atoms ≤ (needF t (classLF t n (itemF t (skipF t s 94).2 (fun _ => false)).1 (itemF t (skipF t s 94).2 (fun _ => false)).2).2 93).atoms + 1
  omega

theorem take_gives {s : St} (s0 : St) (lo hi : Int) (h : Inv t s) (ha : s.atoms < s.pos) (h0 : s0.pos ≤ s.pos) (h1 : s0.atoms ≤ s.atoms) : Gives t s0 (takeF s lo hi) := by
  obtain ⟨i1, p1⟩ := takeOf_inv (markF (fun _ => false) lo hi) h ha
  exact ⟨i1, p1, h0, Nat.le_trans h1 (by simp [takeF, takeOfF])⟩

theorem plain_near (s : St) (hp : peekF t s ≠ -1) : Near t s (plainF t s).2 ∧ s.pos < (plainF t s).2.pos := by
  have h := skip_near (t := t) s 92 (by decide)
  unfold plainF
  split
  · rename_i hc
    refine ⟨h.trans (near_fail _), ?_⟩
    unfold skipF at hc ⊢
    split at hc
    · rename_i h92; rw [if_pos h92]; simp [failF, advF]
    · exact absurd hc hp
  · rename_i hc
    exact ⟨h.trans (near_adv hc), by simp only [advF]; have := h.le; omega⟩

end Go.Proofs.YticaoekmlaipnaaDoor
