/-
  A pattern without ^ and $ is alike at every spot; what the places of first matches are to one another.
-/
import Derived.Test.YticaoekmlaipnaaDoorPm
import Derived.Test.YticaoekmlaipnaaDoorWy
set_option linter.unusedSimpArgs false
set_option linter.unusedVariables false
namespace Go.Proofs.YticaoekmlaipnaaDoor

section
variable {t : ByteArray}

def NoAnc (t : ByteArray) : Prop := ∀ k, byteAt t k ≠ 94 ∧ byteAt t k ≠ 36
theorem NoAnc.peek (h : NoAnc t) (s : St) : peekF t s ≠ 94 ∧ peekF t s ≠ 36 := by
  unfold peekF
  split
  · exact ⟨by decide, by decide⟩
  · exact h s.pos

theorem Bare.nothing {fo : Nat → Nat → Nat} (h : ∀ s s', fo s = fo s') : Bare nothingF fo := ⟨fun _ _ => rfl, h⟩
theorem Bare.either {a b : Piece} {fo fo' : Nat → Nat → Nat} (ha : Bare a fo) (hb : Bare b fo') : Bare (eitherF a b) fo' :=
  ⟨fun s s' => by unfold eitherF; rw [ha.q s s', hb.q s s'], hb.fo⟩
theorem Bare.join {a b : Piece} {fo fo' : Nat → Nat → Nat} (ha : Bare a fo) (hb : Bare b fo') : Bare (joinF a b) (tieP fo' a b) :=
  ⟨fun s s' => by unfold joinF; rw [ha.q s s', hb.q s s'], fun s s' => by funext c; unfold tieP; rw [ha.q s s', hb.q s s', hb.fo s s']⟩
theorem Bare.tie {a : Piece} {fo : Nat → Nat → Nat} (ha : Bare a fo) : Bare a (tieP fo a a) := ⟨ha.q, fun s s' => by funext c; unfold tieP; rw [ha.q s s', ha.fo s s']⟩

structure BareAll (t : ByteArray) (n : Nat) : Prop where
  alt : ∀ s, (∀ x y, s.fo x = s.fo y) → Bare (altF t n s).1 (altF t n s).2.fo
  altL : ∀ q s, Bare q s.fo → Bare (altLF t n q s).1 (altLF t n q s).2.fo
  seq : ∀ s, (∀ x y, s.fo x = s.fo y) → Bare (seqF t n s).1 (seqF t n s).2.fo
  seqL : ∀ q s, Bare q s.fo → Bare (seqLF t n q s).1 (seqLF t n q s).2.fo
  part : ∀ s, peekF t s ≠ -1 → (∀ x y, s.fo x = s.fo y) → Bare (partF t n s).1 (partF t n s).2.fo
  partL : ∀ q s, Bare q s.fo → Bare (partLF t n q s).1 (partLF t n q s).2.fo
  atom : ∀ s, peekF t s ≠ -1 → (∀ x y, s.fo x = s.fo y) → Bare (atomF t n s).1 (atomF t n s).2.fo

theorem bareAll (hA : NoAnc t) : ∀ n, BareAll t n
  | 0 => ⟨fun _ h => Bare.nothing h, fun _ _ h => h, fun _ h => Bare.nothing h, fun _ _ h => h, fun _ _ h => Bare.nothing h, fun _ _ h => h, fun _ _ h => Bare.nothing h⟩
  | n + 1 => by
    have ih := bareAll hA n
    refine ⟨fun s h => ?_, fun q s h => ?_, fun s h => ?_, fun q s h => ?_, fun s hp h => ?_, fun q s h => ?_, fun s hp h => ?_⟩
    · rw [altF_s]; exact ih.altL _ _ (ih.seq _ h)
    · rw [altLF_s]
      by_cases c : peekF t s = 124
      · rw [if_pos c]; exact ih.altL _ _ (h.either (ih.seq (advF s) h.fo))
      · rw [if_neg c]; exact h
    · rw [seqF_s]; exact ih.seqL _ _ (Bare.nothing h)
    · rw [seqLF_s]
      by_cases c : peekF t s = -1 ∨ peekF t s = 41 ∨ peekF t s = 124 ∨ peekF t s = 42 ∨ peekF t s = 43 ∨ peekF t s = 63
      · rw [if_pos c]; exact h
      · rw [if_neg c]; exact ih.seqL _ _ (h.join (ih.part s (fun e => c (.inl e)) h.fo))
    · rw [partF_s]; exact ih.partL _ _ (ih.atom _ hp h)
    · rw [partLF_s]
      by_cases c1 : peekF t s = 42
      · rw [if_pos c1]; exact ih.partL _ _ (h.tie.either (Bare.nothing h.tie.fo))
      · rw [if_neg c1]
        by_cases c2 : peekF t s = 43
        · rw [if_pos c2]; exact ih.partL _ _ h.tie
        · rw [if_neg c2]
          by_cases c3 : peekF t s = 63
          · rw [if_pos c3]; exact ih.partL _ _ (h.either (Bare.nothing h.fo))
          · rw [if_neg c3]; exact h
    · rw [atomF_s]
      by_cases c1 : peekF t s = 40
      · rw [if_pos c1]
        have g := ih.alt (advF s) h
        exact ⟨g.q, by rw [(need_near (t := t) (altF t n (advF s)).2 41 (by decide)).fo]; exact g.fo⟩
      · rw [if_neg c1]
        by_cases c2 : peekF t s = 91
        · rw [if_pos c2]
          have n1 := skip_near (t := t) (advF s) 94 (by decide)
          have n2 := item_near (t := t) (skipF t (advF s) 94).2 (fun _ => false)
          have n3 := classL_near (t := t) n (itemF t (skipF t (advF s) 94).2 (fun _ => false)).1 (itemF t (skipF t (advF s) 94).2 (fun _ => false)).2
          have n4 := need_near (t := t) (classLF t n (itemF t (skipF t (advF s) 94).2 (fun _ => false)).1 (itemF t (skipF t (advF s) 94).2 (fun _ => false)).2).2 93 (by decide)
          have n5 := (((n1.trans n2).trans n3).trans n4).fo
          refine ⟨fun _ _ => rfl, fun x y => ?_⟩
          show (needF t (classLF t n (itemF t (skipF t (advF s) 94).2 (fun _ => false)).1 (itemF t (skipF t (advF s) 94).2 (fun _ => false)).2).2 93).fo x = (needF t (classLF t n (itemF t (skipF t (advF s) 94).2 (fun _ => false)).1 (itemF t (skipF t (advF s) 94).2 (fun _ => false)).2).2 93).fo y
          rw [n5]; exact h x y
        · rw [if_neg c2]
          by_cases c3 : peekF t s = 46
          · rw [if_pos c3]; exact ⟨fun _ _ => rfl, h⟩
          · rw [if_neg c3, if_neg (hA.peek s).1, if_neg (hA.peek s).2]
            refine ⟨fun _ _ => rfl, fun x y => ?_⟩
            show (plainF t s).2.fo x = (plainF t s).2.fo y
            rw [(plain_near s hp).1.fo]; exact h x y

theorem read_bare (h : NoAnc t) : Bare (readF t).1 (readF t).2.fo := (bareAll h 400).alt st0 (fun _ _ => rfl)

end

/-- R is the first place from fr on with an end, and how far it is. -/
structure FindIs (E : Nat → Int) (n fr : Nat) (R : Int × Int) : Prop where
  out : (R = (-1, 0) ∧ ∀ k, fr ≤ k → k ≤ n → E k = -1) ∨ ∃ k : Nat, fr ≤ k ∧ k ≤ n ∧ R = ((k : Int), E k - k) ∧ E k ≠ -1 ∧ ∀ j, fr ≤ j → j < k → E j = -1

theorem findL_is (E : Nat → Int) (n : Nat) : ∀ f fr, fr + f = n + 1 → FindIs E n fr (findL E f fr)
  | 0, fr, h => ⟨.inl ⟨rfl, fun k h1 h2 => by omega⟩⟩
  | f + 1, fr, h => by
    by_cases c : E fr = -1
    · rw [findL, if_pos c]
      refine ⟨?_⟩
      rcases (findL_is E n f (fr + 1) (by omega)).out with ⟨h1, h2⟩ | ⟨k, h1, h2, h3, h4, h5⟩
      · refine .inl ⟨h1, fun k h3 h4 => ?_⟩
        rcases Nat.eq_or_lt_of_le h3 with e | e
        · rw [← e]; exact c
        · exact h2 k e h4
      · refine .inr ⟨k, by omega, h2, h3, h4, fun j h6 h7 => ?_⟩
        rcases Nat.eq_or_lt_of_le h6 with e | e
        · rw [← e]; exact c
        · exact h5 j e h7
    · rw [findL, if_neg c]
      exact ⟨.inr ⟨fr, Nat.le_refl _, by omega, rfl, c, fun j h1 h2 => by omega⟩⟩

theorem FindIs.eq {E : Nat → Int} {n fr : Nat} {R R' : Int × Int} (h : FindIs E n fr R) (h' : FindIs E n fr R') : R = R' := by
  rcases h.out with ⟨h1, h2⟩ | ⟨k, h1, h2, h3, h4, h5⟩
  · rcases h'.out with ⟨g1, g2⟩ | ⟨k', g1, g2, g3, g4, g5⟩
    · rw [h1, g1]
    · exact absurd (h2 k' g1 g2) g4
  · rcases h'.out with ⟨g1, g2⟩ | ⟨k', g1, g2, g3, g4, g5⟩
    · exact absurd (g2 k h1 h2) h4
    · rcases Nat.lt_trichotomy k k' with e | e | e
      · exact absurd (g5 k h1 e) h4
      · subst e; rw [h3, g3]
      · exact absurd (h5 k' g1 e) g4

/-- The ends of a pattern in a text. -/
def Ef (p x : ByteArray) : Nat → Int := endF (readF p).1 (readF p).2.tk (readF p).2.fo x
def Mf (p x : ByteArray) : Nat → Nat → Prop := matF (readF p).1 (readF p).2.tk (readF p).2.fo x
/-- Its first match. -/
def Fd (p x : ByteArray) (fr : Nat) : Int × Int := findL (Ef p x) (x.size + 1 - fr) fr

section
variable {p q t x : ByteArray} {fr : Nat}

theorem read_low (p : ByteArray) : Low (readF p).2.atoms (readF p).1 (readF p).2.tk (readF p).2.fo :=
  ⟨fun s => (read_pb p s).1, fun s => (read_pb p s).2, (read_inv p).tk, (read_inv p).fo⟩
theorem read_atoms (hp : p.size ≤ 50) : (readF p).2.atoms ≤ 50 := Nat.le_trans (read_inv p).at_ (Nat.le_trans (read_inv p).pos hp)
theorem read_small (hp : p.size ≤ 50) : Small (readF p).1 (readF p).2.fo := by
  have h := read_low p
  have ha := read_atoms hp
  have hb : 2 ^ (readF p).2.atoms ≤ 2 ^ 64 := Nat.pow_le_pow_right (by decide) (by omega)
  exact ⟨fun s => Nat.lt_of_lt_of_le (h.f s) hb, fun s a => Nat.lt_of_lt_of_le (h.fo s a) hb⟩
theorem read_far (hp : p.size ≤ 50) (x : ByteArray) : Far (Ef p x) (Mf p x) x.size := end_far (read_small hp)
theorem fd_is (h : fr ≤ x.size) : FindIs (Ef p x) x.size fr (Fd p x fr) := findL_is _ _ _ _ (by omega)

/-- F1. -/
theorem fd_right (hp : p.size ≤ 50) (h : fr ≤ x.size) : (Fd p x fr = (-1, 0)) ∨ ((fr : Int) ≤ (Fd p x fr).1 ∧ 0 ≤ (Fd p x fr).2 ∧ (Fd p x fr).1 + (Fd p x fr).2 ≤ x.size) := by
  rcases (fd_is (p := p) h).out with ⟨h1, -⟩ | ⟨k, h1, h2, h3, h4, -⟩
  · exact .inl h1
  · right
    rcases read_far hp x k h2 with ⟨e, -⟩ | ⟨e, e1, e2, e3, -⟩
    · exact absurd e h4
    · rw [h3, e1]; simp only; omega

/-- F2. -/
theorem fd_mid {mid : Nat} (h : fr ≤ x.size) (h1 : fr ≤ mid) (h2 : (mid : Int) ≤ (Fd p x fr).1) : Fd p x mid = Fd p x fr := by
  rcases (fd_is (p := p) h).out with ⟨g1, -⟩ | ⟨k, g1, g2, g3, g4, g5⟩
  · rw [g1] at h2; simp only at h2; omega
  · rw [g3] at h2
    simp only at h2
    refine (fd_is (by omega)).eq ⟨.inr ⟨k, by omega, g2, g3, g4, fun j a b => g5 j (by omega) b⟩⟩

/-- How far the match at the place fr goes, if there is one. -/
def wantN (R : Int × Int) (fr : Nat) : Int := if R.1 = fr then R.2 else 0
theorem fd_want (hp : p.size ≤ 50) (h : fr ≤ x.size) : (Ef p x fr = -1 ∧ wantN (Fd p x fr) fr = 0 ∧ (Fd p x fr).1 ≠ fr) ∨ (Ef p x fr ≠ -1 ∧ Ef p x fr = fr + wantN (Fd p x fr) fr ∧ Fd p x fr = ((fr : Int), wantN (Fd p x fr) fr) ∧ 0 ≤ wantN (Fd p x fr) fr) := by
  unfold wantN
  rcases (fd_is (p := p) h).out with ⟨g1, g2⟩ | ⟨k, g1, g2, g3, g4, g5⟩
  · left
    have hn : (Fd p x fr).1 ≠ fr := by rw [g1]; simp only; omega
    exact ⟨g2 fr (Nat.le_refl _) h, by rw [if_neg hn], hn⟩
  · rcases Nat.eq_or_lt_of_le g1 with e | e
    · subst e
      right
      rw [g3]
      simp only [if_true]
      rcases read_far hp x fr h with ⟨e, -⟩ | ⟨e, e1, e2, -⟩
      · exact absurd e g4
      · exact ⟨g4, by omega, trivial, by omega⟩
    · left
      have hn : (Fd p x fr).1 ≠ fr := by rw [g3]; simp only; omega
      exact ⟨g5 fr (Nat.le_refl _) e, by rw [if_neg hn], hn⟩

theorem far_le {E E' : Nat → Int} {M M' : Nat → Nat → Prop} {n k : Nat} (h : Far E M n) (h' : Far E' M' n) (hm : ∀ e, M k e → M' k e) (hk : k ≤ n) : E k ≤ E' k := by
  rcases h k hk with ⟨e, -⟩ | ⟨e, e1, e2, e3, e4, e5⟩
  · rcases h' k hk with ⟨g, -⟩ | ⟨g, g1, g2, -⟩ <;> omega
  · rcases h' k hk with ⟨g, g1⟩ | ⟨g, g1, g2, g3, g4, g5⟩
    · exact absurd (hm _ e4) (g1 _)
    · have := g5 _ (hm _ e4); omega
theorem far_eq {E E' : Nat → Int} {M M' : Nat → Nat → Prop} {n k : Nat} (h : Far E M n) (h' : Far E' M' n) (hm : ∀ e, M k e ↔ M' k e) (hk : k ≤ n) : E k = E' k :=
  Int.le_antisymm (far_le h h' (fun e => (hm e).1) hk) (far_le h' h (fun e => (hm e).2) hk)
theorem far_none {E : Nat → Int} {M : Nat → Nat → Prop} {n k : Nat} (h : Far E M n) (hk : k ≤ n) : E k = -1 ↔ ∀ e, ¬ M k e := by
  rcases h k hk with ⟨e, h2⟩ | ⟨e, e1, e2, e3, e4, e5⟩
  · exact ⟨fun _ => h2, fun _ => e⟩
  · exact ⟨fun g => by omega, fun g => absurd e4 (g e)⟩
theorem far_at {E : Nat → Int} {M : Nat → Nat → Prop} {n k e : Nat} (h : Far E M n) (hk : k ≤ n) (hm : M k e) (hu : ∀ e', M k e' → e' ≤ e) : E k = e := by
  rcases h k hk with ⟨_, h2⟩ | ⟨g, e1, e2, e3, e4, e5⟩
  · exact absurd hm (h2 e)
  · have := e5 _ hm; have := hu _ e4; omega

/-- F3. -/
theorem fd_opt (ht : Grp p t 63) (hok : readOk p = true) (hp : p.size ≤ 47) (h : fr ≤ x.size) : Fd t x fr = ((fr : Int), wantN (Fd p x fr) fr) := by
  have hr := ht.opt hok hp
  have hts : t.size ≤ 50 := by have := ht.size; omega
  have hf := read_far hts x
  have hm : ∀ k e, k ≤ x.size → (Mf t x k e ↔ Mf p x k e ∨ e = k) := fun k e hk => by
    unfold Mf matF
    rw [hr]
    simp only
    rw [mat_opt, show x.size - (x.size - k) = k by omega]
  have hE : Ef t x fr = fr + wantN (Fd p x fr) fr := by
    rcases fd_want (p := p) (by omega) h with ⟨a, b, -⟩ | ⟨a, b, -, c⟩
    · rw [b]
      have := far_at (e := fr) hf h ((hm fr fr h).2 (.inr rfl)) (fun e' he => by
        rcases (hm fr e' h).1 he with g | g
        · exact absurd g ((far_none (read_far (by omega) x) h).1 a e')
        · omega)
      omega
    · rw [← b]
      rcases read_far (p := p) (by omega) x fr h with ⟨e, -⟩ | ⟨e, e1, e2, e3, e4, e5⟩
      · exact absurd e a
      · rw [e1]
        exact far_at (e := e) hf h ((hm fr e h).2 (.inl e4)) (fun e' he => by
          rcases (hm fr e' h).1 he with g | g
          · exact e5 _ g
          · omega)
  refine (fd_is h).eq ⟨.inr ⟨fr, Nat.le_refl _, h, ?_, ?_, fun j a b => by omega⟩⟩
  · rw [hE]; congr 1; omega
  · rw [hE]
    rcases fd_want (p := p) (x := x) (fr := fr) (by omega) h with ⟨-, b, -⟩ | ⟨-, -, -, c⟩ <;> omega

theorem star_m (ht : Grp p t 42) (hok : readOk p = true) (hp : p.size ≤ 47) {k e : Nat} (hk : k ≤ x.size) :
    Mf t x k e ↔ matF (readF p).1 (readF p).2.tk (tieP (readF p).2.fo (readF p).1 (readF p).1) x k e ∨ e = k := by
  unfold Mf matF
  rw [ht.star hok hp]
  simp only
  rw [mat_opt, show x.size - (x.size - k) = k by omega]
theorem plus_m (ht : Grp p t 43) (hok : readOk p = true) (hp : p.size ≤ 47) {k e : Nat} :
    Mf t x k e ↔ matF (readF p).1 (readF p).2.tk (tieP (readF p).2.fo (readF p).1 (readF p).1) x k e := by
  unfold Mf matF
  rw [ht.plus hok hp]

/-- F4. -/
theorem fd_star (ht : Grp p t 42) (hok : readOk p = true) (hp : p.size ≤ 47) (h : fr ≤ x.size) : (Fd t x fr).1 = fr ∧ wantN (Fd p x fr) fr ≤ (Fd t x fr).2 ∧ Fd t x fr = ((fr : Int), Ef t x fr - fr) := by
  have hts : t.size ≤ 50 := by have := ht.size; omega
  have hf := read_far hts x
  have hE : (fr : Int) ≤ Ef t x fr := by
    rcases hf fr h with ⟨-, g⟩ | ⟨e, e1, e2, -⟩
    · exact absurd ((star_m ht hok hp h).2 (.inr rfl)) (g fr)
    · omega
  have hle : Ef p x fr ≤ Ef t x fr := far_le (read_far (by omega) x) hf (fun e he => (star_m ht hok hp h).2 (.inl (mat_plus he))) h
  have e : Fd t x fr = ((fr : Int), Ef t x fr - fr) := (fd_is h).eq ⟨.inr ⟨fr, Nat.le_refl _, h, rfl, by omega, fun j a b => by omega⟩⟩
  refine ⟨by rw [e], ?_, e⟩
  rw [e]
  simp only
  rcases fd_want (p := p) (x := x) (fr := fr) (by omega) h with ⟨-, b, -⟩ | ⟨-, b, -, c⟩ <;> omega

/-- F5. -/
theorem fd_plus {ts : ByteArray} (ht : Grp p t 43) (hts : Grp p ts 42) (hok : readOk p = true) (hp : p.size ≤ 47) (h : fr ≤ x.size) :
    (Fd t x fr).1 = (Fd p x fr).1 ∧ (Fd p x fr).2 ≤ (Fd t x fr).2 ∧ ((Fd t x fr).1 = fr → (Fd t x fr).2 = (Fd ts x fr).2) := by
  have z1 : t.size ≤ 50 := by have := ht.size; omega
  have z2 : ts.size ≤ 50 := by have := hts.size; omega
  have f0 := read_far (p := p) (by omega) x
  have f1 := read_far z1 x
  have f2 := read_far z2 x
  have hn : ∀ k, k ≤ x.size → (Ef t x k = -1 ↔ Ef p x k = -1) := fun k hk => by
    rw [far_none f1 hk, far_none f0 hk]
    constructor
    · exact fun g e he => g e ((plus_m ht hok hp).2 (mat_plus he))
    · intro g e he
      obtain ⟨e', he'⟩ := mat_plus_back ((plus_m ht hok hp).1 he)
      exact g e' he'
  have hle : ∀ k, k ≤ x.size → Ef p x k ≤ Ef t x k := fun k hk => far_le f0 f1 (fun e he => (plus_m ht hok hp).2 (mat_plus he)) hk
  have hs := (fd_star hts hok hp h).2.2
  rcases (fd_is (p := p) h).out with ⟨g1, g2⟩ | ⟨k, g1, g2, g3, g4, g5⟩
  · have e : Fd t x fr = (-1, 0) := (fd_is h).eq ⟨.inl ⟨rfl, fun k a b => (hn k b).2 (g2 k a b)⟩⟩
    rw [e, g1]
    refine ⟨rfl, Int.le_refl _, fun a => ?_⟩
    simp only at a; omega
  · have e : Fd t x fr = ((k : Int), Ef t x k - k) := (fd_is h).eq ⟨.inr ⟨k, g1, g2, rfl, fun a => g4 ((hn k g2).1 a), fun j a b => (hn j (by omega)).2 (g5 j a b)⟩⟩
    rw [e, g3, hs]
    have := hle k g2
    refine ⟨rfl, by simp only; omega, fun a => ?_⟩
    simp only at a ⊢
    obtain rfl : k = fr := by omega
    have e2 : Ef t x k = Ef ts x k := by
      rcases f1 k g2 with ⟨c, -⟩ | ⟨e', e1, e2, e3, e4, e5⟩
      · exact absurd ((hn k g2).1 c) g4
      · rw [e1]
        refine (far_at (e := e') f2 g2 ((star_m hts hok hp g2).2 (.inl ((plus_m ht hok hp).1 e4))) (fun e'' he => ?_)).symm
        rcases (star_m hts hok hp g2).1 he with c | c
        · exact e5 _ ((plus_m ht hok hp).2 c)
        · omega
    rw [e2]

/-- F6. -/
theorem fd_anc {i n : Nat} (ht : Anc p t) (hok : readOk p = true) (hp : p.size ≤ 46) (hA : NoAnc p) (h : fr ≤ x.size) (hR : Fd p x fr = ((i : Int), (n : Int))) : Fd t (x.extract i (i + n)) 0 = (0, (n : Int)) ∧ (x.extract i (i + n)).size = n := by
  have hts : t.size ≤ 50 := by have := ht.size; omega
  have hin : i + n ≤ x.size := by
    rcases fd_right (p := p) (x := x) (by omega) h with c | c
    · rw [hR] at c; simp only [Prod.mk.injEq] at c; omega
    · rw [hR] at c; simp only at c; omega
  have hy : (x.extract i (i + n)).size = n := by rw [ByteArray.size_extract]; omega
  have hM : matF (readF p).1 (readF p).2.tk (readF p).2.fo x i (i + n) := by
    rcases (fd_is (p := p) h).out with ⟨g1, -⟩ | ⟨k, g1, g2, g3, g4, -⟩
    · rw [hR] at g1; simp only [Prod.mk.injEq] at g1; omega
    · rw [hR] at g3
      simp only [Prod.mk.injEq] at g3
      obtain rfl : i = k := by omega
      rcases read_far (p := p) (by omega) x i g2 with ⟨c, -⟩ | ⟨e, e1, e2, e3, e4, e5⟩
      · exact absurd c g4
      · obtain rfl : e = i + n := by omega
        exact e4
  have hM2 := mat_anc (read_bare hA) hin (x.extract i (i + n)) hy (fun j hj => byteN_extract x i (i + n) j (by omega) hin) hM
  have hm : Mf t (x.extract i (i + n)) 0 n := by
    unfold Mf matF
    rw [ht.read hok hp, Nat.sub_zero]
    exact hM2
  have hE := far_at (e := n) (read_far hts (x.extract i (i + n))) (Nat.zero_le _) hm (fun e' he => by
    have := (mat_bounds (x := x.extract i (i + n)) (Nat.sub_le _ _) he).2
    omega)
  refine ⟨(fd_is (Nat.zero_le _)).eq ⟨.inr ⟨0, Nat.le_refl _, Nat.zero_le _, ?_, ?_, fun j a b => by omega⟩⟩, hy⟩
  · rw [hE]; rfl
  · rw [hE]; omega

/-- Of two matches the one that begins first; of such ones the longer. -/
def leftF (a b : Int × Int) : Int × Int := if a.1 < 0 then b else if b.1 < 0 ∨ a.1 < b.1 then a else if b.1 < a.1 then b else if a.2 < b.2 then b else a

theorem or_m (ht : Or2 p q t) (hok : readOk p = true) (hok2 : readOk q = true) (hp : p.size + q.size ≤ 45) {k e : Nat} : Mf t x k e ↔ Mf p x k e ∨ Mf q x k e := by
  have := mat_or (q2 := (readF q).1) (tk2 := (readF q).2.tk) (fo2 := (readF q).2.fo) (x := x) (read_low p) (d := x.size - k) (e := e)
  unfold Mf matF
  rw [ht.read hok hok2 hp]
  exact this

/-- F7. -/
theorem fd_or (ht : Or2 p q t) (hok : readOk p = true) (hok2 : readOk q = true) (hp : p.size + q.size ≤ 45) (h : fr ≤ x.size) : Fd t x fr = leftF (Fd p x fr) (Fd q x fr) := by
  have hts : t.size ≤ 50 := by have := ht.size; omega
  have f0 := read_far (p := p) (by omega) x
  have f1 := read_far (p := q) (by omega) x
  have f2 := read_far hts x
  have hE : ∀ k, k ≤ x.size → Ef t x k = max (Ef p x k) (Ef q x k) := fun k hk => by
    have a := far_le f0 f2 (fun e he => (or_m ht hok hok2 hp).2 (.inl he)) hk
    have b := far_le f1 f2 (fun e he => (or_m ht hok hok2 hp).2 (.inr he)) hk
    rcases f2 k hk with ⟨c, -⟩ | ⟨e, e1, e2, e3, e4, e5⟩
    · rcases f0 k hk with ⟨d, -⟩ | ⟨d, d1, -⟩ <;> rcases f1 k hk with ⟨g, -⟩ | ⟨g, g1, -⟩ <;> omega
    · rcases (or_m ht hok hok2 hp).1 e4 with m | m
      · rcases f0 k hk with ⟨-, d⟩ | ⟨d, d1, -, -, -, d5⟩
        · exact absurd m (d _)
        · have := d5 _ m; omega
      · rcases f1 k hk with ⟨-, d⟩ | ⟨d, d1, -, -, -, d5⟩
        · exact absurd m (d _)
        · have := d5 _ m; omega
  have l0 : ∀ k, k ≤ x.size → -1 ≤ Ef p x k := fun k hk => by rcases f0 k hk with ⟨d, -⟩ | ⟨d, d1, -⟩ <;> omega
  have l1 : ∀ k, k ≤ x.size → -1 ≤ Ef q x k := fun k hk => by rcases f1 k hk with ⟨d, -⟩ | ⟨d, d1, -⟩ <;> omega
  refine (fd_is h).eq ⟨?_⟩
  unfold leftF
  rcases (fd_is (p := p) h).out with ⟨g1, g2⟩ | ⟨k, g1, g2, g3, g4, g5⟩
  · rw [g1, if_pos (by decide)]
    rcases (fd_is (p := q) h).out with ⟨c1, c2⟩ | ⟨j, c1, c2, c3, c4, c5⟩
    · exact .inl ⟨c1, fun k a b => by rw [hE k b, g2 k a b, c2 k a b]; rfl⟩
    · refine .inr ⟨j, c1, c2, ?_, ?_, fun i a b => by rw [hE i (by omega), g2 i a (by omega), c5 i a b]; rfl⟩
      · rw [c3, hE j c2, g2 j c1 c2]; congr 1; have := l1 j c2; omega
      · rw [hE j c2, g2 j c1 c2]; have := l1 j c2; omega
  · rw [g3]
    simp only
    rw [if_neg (by omega)]
    rcases (fd_is (p := q) h).out with ⟨c1, c2⟩ | ⟨j, c1, c2, c3, c4, c5⟩
    · rw [c1, if_pos (.inl (by decide))]
      refine .inr ⟨k, g1, g2, ?_, ?_, fun i a b => by rw [hE i (by omega), c2 i a (by omega), g5 i a b]; rfl⟩
      · rw [hE k g2, c2 k g1 g2]; congr 1; have := l0 k g2; omega
      · rw [hE k g2, c2 k g1 g2]; have := l0 k g2; omega
    · rw [c3]
      simp only
      rcases Nat.lt_trichotomy k j with e | e | e
      · rw [if_pos (.inr (by omega))]
        have := c5 k g1 e
        refine .inr ⟨k, g1, g2, ?_, ?_, fun i a b => by rw [hE i (by omega), c5 i a (by omega), g5 i a b]; rfl⟩
        · rw [hE k g2, this]; congr 1; have := l0 k g2; omega
        · rw [hE k g2, this]; have := l0 k g2; omega
      · subst e
        rw [if_neg (by omega), if_neg (by omega)]
        have l0' := l0 k g2
        have l1' := l1 k g2
        have key : (if Ef p x k - (k : Int) < Ef q x k - (k : Int) then ((k : Int), Ef q x k - (k : Int)) else ((k : Int), Ef p x k - (k : Int))) = ((k : Int), Ef t x k - k) := by
          rw [hE k g2]
          split
          · congr 1; omega
          · congr 1; omega
        rw [key]
        exact .inr ⟨k, g1, g2, rfl, by rw [hE k g2]; omega, fun i a b => by rw [hE i (by omega), c5 i a b, g5 i a b]; rfl⟩
      · rw [if_neg (by omega), if_pos (by omega)]
        have := g5 j c1 e
        refine .inr ⟨j, c1, c2, ?_, ?_, fun i a b => by rw [hE i (by omega), c5 i a b, g5 i a (by omega)]; rfl⟩
        · rw [hE j c2, this]; congr 1; have := l1 j c2; omega
        · rw [hE j c2, this]; have := l1 j c2; omega

/-- The order of the two is all one. -/
theorem fd_or_comm {t' : ByteArray} (ht : Or2 p q t) (ht' : Or2 q p t') (hok : readOk p = true) (hok2 : readOk q = true) (hp : p.size + q.size ≤ 45) (h : fr ≤ x.size) : Fd t' x fr = Fd t x fr := by
  have z1 : t.size ≤ 50 := by have := ht.size; omega
  have z2 : t'.size ≤ 50 := by have := ht'.size; omega
  have hE : ∀ k, k ≤ x.size → Ef t' x k = Ef t x k := fun k hk => far_eq (read_far z2 x) (read_far z1 x) (fun e => by rw [or_m ht hok hok2 hp, or_m ht' hok2 hok (by omega)]; exact or_comm) hk
  refine (fd_is h).eq ⟨?_⟩
  rcases (fd_is (p := t) h).out with ⟨g1, g2⟩ | ⟨k, g1, g2, g3, g4, g5⟩
  · exact .inl ⟨g1, fun k a b => by rw [hE k b]; exact g2 k a b⟩
  · exact .inr ⟨k, g1, g2, by rw [hE k g2]; exact g3, by rw [hE k g2]; exact g4, fun j a b => by rw [hE j (by omega)]; exact g5 j a b⟩

end
end Go.Proofs.YticaoekmlaipnaaDoor
