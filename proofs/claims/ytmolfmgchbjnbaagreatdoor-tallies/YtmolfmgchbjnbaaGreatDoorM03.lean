import Derived.PlainAid
set_option linter.unusedSimpArgs false
set_option linter.unusedVariables false
namespace Go.Proofs.YtmolfmgchbjnbaaGreatDoor
namespace Wire
def numF : Nat → Bool → List UInt8 → Option (Nat × List UInt8)
 | 0, _, _ => none
 | _ + 1, _, [] => none
 | f + 1, first, c :: r =>
  if c.toNat < 128 then (if c.toNat = 0 ∧ first = false then none else some (c.toNat, r))
  else (numF f false r).map fun p => (c.toNat - 128 + 128 * p.1, p.2)
def num (l : List UInt8) : Option (Nat × List UInt8) := numF 5 true l
end Wire
end Go.Proofs.YtmolfmgchbjnbaaGreatDoor
namespace Go.Proofs.YtmolfmgchbjnbaaGreatDoor
namespace Wire
structure Fn where
 params : Int
 locs : Int
 code : ByteArray
structure Mo where
 texts : List ByteArray
 pats : List ByteArray
 globs : Int
 arrs : Int
 fns : List Fn
def bl (s : ByteArray) : List UInt8 := s.data.toList
theorem bl_length (s : ByteArray) : (bl s).length = s.size := by
 show s.data.toList.length = s.data.size
 exact Array.length_toList
theorem bl_mk (l : List UInt8) : bl ⟨l.toArray⟩ = l := by simp [bl]
theorem mk_bl (s : ByteArray) : (⟨(bl s).toArray⟩ : ByteArray) = s := by simp [bl]
end Wire
end Go.Proofs.YtmolfmgchbjnbaaGreatDoor
namespace Go.Proofs.YtmolfmgchbjnbaaGreatDoor
namespace Wire
end Wire
end Go.Proofs.YtmolfmgchbjnbaaGreatDoor
namespace Go.Proofs.YtmolfmgchbjnbaaGreatDoor
namespace Flow
def lst (a b : UInt8) : UInt8 := if a = b then a else if a = 107 ∨ b = 107 ∨ a = 106 ∨ b = 106 then 106 else 97
def le (a b : UInt8) : Prop := lst a b = b
theorem le_cases {a b : UInt8} : le a b ↔ a = b ∨ b = 106 ∨ (b = 97 ∧ a ≠ 107 ∧ a ≠ 106) := by
 unfold le lst
 by_cases h : a = b
 ·simp [h]
 ·rw [if_neg h]
  by_cases hk : a = 107 ∨ b = 107 ∨ a = 106 ∨ b = 106
  ·rw [if_pos hk]
   constructor
   ·intro e; exact Or.inr (Or.inl e.symm)
   ·rintro (e | e | ⟨e, h1, h2⟩)
    ·exact absurd e h
    ·exact e.symm
    ·subst e
     rcases hk with e | e | e | e
     ·exact absurd e h1
     ·exact absurd e (by decide)
     ·exact absurd e h2
     ·exact absurd e (by decide)
  ·rw [if_neg hk]
   constructor
   ·intro e; exact Or.inr (Or.inr ⟨e.symm, fun x => hk (Or.inl x), fun x => hk (Or.inr (Or.inr (Or.inl x)))⟩)
   ·rintro (e | e | ⟨e, h1, h2⟩)
    ·exact absurd e h
    ·exact absurd (Or.inr (Or.inr (Or.inr e))) hk
    ·exact e.symm
theorem le_refl (a : UInt8) : le a a := le_cases.2 (Or.inl rfl)
theorem le_trans {a b c : UInt8} (h : le a b) (g : le b c) : le a c := by
 rw [le_cases] at *
 rcases h with rfl | rfl | ⟨rfl, h1, h2⟩
 ·exact g
 ·rcases g with rfl | rfl | ⟨rfl, g1, g2⟩
  ·exact Or.inr (Or.inl rfl)
  ·exact Or.inr (Or.inl rfl)
  ·exact absurd rfl g2
 ·rcases g with rfl | rfl | ⟨rfl, g1, g2⟩
  ·exact Or.inr (Or.inr ⟨rfl, h1, h2⟩)
  ·exact Or.inr (Or.inl rfl)
  ·exact Or.inr (Or.inr ⟨rfl, h1, h2⟩)
def leS : List UInt8 → List UInt8 → Prop
 | [], [] => True
 | a :: s, b :: t => le a b ∧ leS s t
 | _, _ => False
theorem leS_length {s t : List UInt8} (h : leS s t) : s.length = t.length := by
  induction s generalizing t with
  | nil => cases t with
    | nil => rfl
    | cons => exact h.elim
  | cons a s ih => cases t with
    | nil => exact h.elim
    | cons b t => simp [ih h.2]
theorem leS_refl (s : List UInt8) : leS s s := by
 induction s with
 | nil => trivial
 | cons a s ih => exact ⟨le_refl a, ih⟩
theorem leS_trans {s t u : List UInt8} (h : leS s t) (g : leS t u) : leS s u := by
  induction s generalizing t u with
  | nil => cases t with
    | nil => exact g
    | cons => exact h.elim
  | cons a s ih => cases t with
    | nil => exact h.elim
    | cons b t => cases u with
      | nil => exact g.elim
      | cons c u => exact ⟨le_trans h.1 g.1, ih h.2 g.2⟩
theorem leS_append {s t u v : List UInt8} (h : leS s t) (g : leS u v) : leS (s ++ u) (t ++ v) := by
  induction s generalizing t with
  | nil => cases t with
    | nil => exact g
    | cons => exact h.elim
  | cons a s ih => cases t with
    | nil => exact h.elim
    | cons b t => exact ⟨h.1, ih h.2⟩
theorem leS_take {s t : List UInt8} (h : leS s t) (n : Nat) : leS (s.take n) (t.take n) := by
  induction s generalizing t n with
  | nil => cases t with
    | nil => simp [leS]
    | cons => exact h.elim
  | cons a s ih => cases t with
    | nil => exact h.elim
    | cons b t => cases n with
      | zero => trivial
      | succ n => exact ⟨h.1, ih h.2 n⟩
theorem leS_drop {s t : List UInt8} (h : leS s t) (n : Nat) : leS (s.drop n) (t.drop n) := by
  induction s generalizing t n with
  | nil => cases t with
    | nil => simp [leS]
    | cons => exact h.elim
  | cons a s ih => cases t with
    | nil => exact h.elim
    | cons b t => cases n with
      | zero => exact h
      | succ n => exact ih h.2 n
def leSB : List UInt8 → List UInt8 → Bool
 | [], [] => true
 | a :: s, b :: t => decide (lst a b = b) && leSB s t
 | _, _ => false
theorem leSB_iff {s t : List UInt8} : leSB s t = true ↔ leS s t := by
  induction s generalizing t with
  | nil => cases t with
    | nil => simp [leSB, leS]
    | cons => simp [leSB, leS]
  | cons a s ih => cases t with
    | nil => simp [leSB, leS]
    | cons b t => simp [leSB, leS, ih, le]
def takesT : List (List UInt8) := [[], [], [], [], [97], [], [97], [110], [110, 97], [], [], [116], [116, 97], [116], [116], [], [], [107], [110, 110], [110, 110], [110, 110], [110, 110], [110, 110], [110], [110], [116, 116], [97], [97], [97], [97, 97], [97, 97], [97, 97], [97, 97], [97, 97], [97, 97], [116], [116], [116, 116], [116], [116], [116, 110, 110], [116, 116], [], [], [], [97], [97, 97], [106], [], [110], [], [97], [], [110]]
def givesT : List (List UInt8) := [[110], [116], [97], [97], [], [97], [], [97], [], [110], [110], [97], [], [110], [], [], [107], [107, 116], [110], [110], [110], [110], [110], [110], [110], [116], [110], [116], [110], [110], [110], [110], [110], [110], [110], [110], [110], [116], [110], [110], [116], [110], [110], [110], [], [], [], [], [], [], [97], [], [], []]
def want (par : Nat → Nat) (op a : Nat) : List UInt8 :=
 if op = 44 then List.replicate a 116 else if op = 50 then List.replicate (par a) 97 else takesT.getD op []
def give (op : Nat) (top : List UInt8) : List UInt8 :=
 if op = 45 then top ++ top else if op = 46 then top.drop 1 ++ top else givesT.getD op []
def after (par : Nat → Nat) (op a : Nat) (st : List UInt8) : Option (List UInt8 × List UInt8) :=
 if st.length < (want par op a).length then none
 else if leSB (st.drop (st.length - (want par op a).length)) (want par op a) = true then
  if (st.take (st.length - (want par op a).length) ++ give op (st.drop (st.length - (want par op a).length))).length ≤ 1024 then
   some (st.take (st.length - (want par op a).length) ++ give op (st.drop (st.length - (want par op a).length)), st.take (st.length - (want par op a).length))
  else none
 else none
theorem give_mono {op : Nat} {s t : List UInt8} (h : leS s t) : leS (give op s) (give op t) := by
 unfold give
 split
 ·exact leS_append h h
 ·split
  ·exact leS_append (leS_drop h 1) h
  ·exact leS_refl _
theorem after_mono {par : Nat → Nat} {op a : Nat} {s t : List UInt8} {o r : List UInt8} (h : leS s t) (ht : after par op a t = some (o, r)) :
  ∃ o' r', after par op a s = some (o', r') ∧ leS o' o ∧ leS r' r := by
 have hl := leS_length h
 unfold after at ht ⊢
 rw [hl]
 generalize (want par op a) = w at *
 split at ht
 ·cases ht
 ·rename_i hw
  split at ht
  ·rename_i hs
   split at ht
   ·rename_i hm
    simp only [Option.some.injEq, Prod.mk.injEq] at ht
    obtain ⟨rfl, rfl⟩ := ht
    have hd := leS_drop h (t.length - w.length)
    have htk := leS_take h (t.length - w.length)
    have hg := leS_append htk (give_mono (op := op) hd)
    have hs' : leSB (s.drop (t.length - w.length)) w = true := leSB_iff.2 (leS_trans hd (leSB_iff.1 hs))
    rw [if_neg hw, if_pos hs', if_pos (by rw [leS_length hg]; exact hm)]
    exact ⟨_, _, rfl, hg, htk⟩
   ·cases ht
  ·cases ht
structure Stp where
 pl : Nat
 nx : Nat
 op : Nat
 a : Nat
 b : Nat
def far (op : Nat) : Bool := op == 48 || op == 49 || op == 17
def halts (op : Nat) : Bool := op == 48 || op == 51 || op == 52 || op == 53
def numb : List Stp → Nat → Option Nat
 | [], _ => none
 | s :: l, p => if s.pl = p then some 0 else (numb l p).map (· + 1)
def Has (G : List (Option (List UInt8))) (i : Nat) (st : List UInt8) : Prop := ∃ t, G[i]? = some (some t) ∧ leS st t
def Done (par : Nat → Nat) (l : List Stp) (G : List (Option (List UInt8))) (i : Nat) : Prop :=
 ∀ st s, G[i]? = some (some st) → l[i]? = some s → ∃ o r, after par s.op s.a st = some (o, r) ∧
  (far s.op = true → ∃ k, numb l s.a = some k ∧ Has G k r) ∧ (halts s.op = false → Has G (i + 1) o)
structure Sol (par : Nat → Nat) (l : List Stp) (G : List (Option (List UInt8))) : Prop where
 size : G.length = l.length
 first : G[0]? = some (some [])
 each : ∀ i, i < l.length → Done par l G i
end Flow
end Go.Proofs.YtmolfmgchbjnbaaGreatDoor
namespace Go.Proofs.YtmolfmgchbjnbaaGreatDoor
namespace Flow
def Safe (par : Nat → Nat) (l : List Stp) : Prop := ∃ T, Sol par l T
end Flow
end Go.Proofs.YtmolfmgchbjnbaaGreatDoor
namespace Go.Proofs.YtmolfmgchbjnbaaGreatDoor
namespace Flow
open Wire
def sortsT : List Nat := [1, 2, 0, 3, 3, 4, 4, 0, 0, 0, 0, 5, 5, 5, 5, 5, 5, 7, 0, 0, 0, 0, 0, 0, 0, 0, 0, 0, 0, 0, 0, 0, 0, 0, 0, 6, 6, 6, 5, 0, 0, 0, 0, 0, 8, 0, 0, 0, 7, 7, 9, 0, 0, 0]
def above (m : Mo) (locs : Nat) (sort : Nat) : Nat :=
 if sort = 1 then 2000000001 else if sort = 2 then m.texts.length else if sort = 3 then locs else if sort = 4 then m.globs.toNat
 else if sort = 5 then m.arrs.toNat else if sort = 6 then m.pats.length else if sort = 8 then 1001 else if sort = 9 then m.fns.length else 34359738368
def low (sort : Nat) : Nat := if sort = 8 then 1 else if sort = 9 then 3 else 0
def fitN (m : Mo) (locs : Nat) (sort n : Nat) : Bool := decide (low sort ≤ n) && decide (n < above m locs sort)
def mayOp (f op : Nat) : Bool := decide (op < 54) && !(decide (op = 51) && decide (f < 3)) && !(decide (op = 52) && decide (3 ≤ f))
def operandL (m : Mo) (locs : Nat) (c : List UInt8) (sort i : Nat) : Option (Nat × Nat) :=
 match num (c.drop i) with
 | none => none
 | some (n, r) => if fitN m locs sort n = true then some (n, c.length - r.length) else none
def decodeL (m : Mo) (f locs : Nat) (c : List UInt8) (i : Nat) : Nat ⊕ Stp :=
 if mayOp f (c.getD i 0).toNat = true then
  if sortsT.getD (c.getD i 0).toNat 0 = 0 then .inr ⟨i, i + 1, (c.getD i 0).toNat, 0, 0⟩
  else match operandL m locs c (sortsT.getD (c.getD i 0).toNat 0) (i + 1) with
   | none => .inl 10
   | some (n, j) =>
    if (c.getD i 0).toNat = 38 then
     match operandL m locs c 6 j with
     | none => .inl 10
     | some (n2, k) => .inr ⟨i, k, (c.getD i 0).toNat, n, n2⟩
    else .inr ⟨i, j, (c.getD i 0).toNat, n, 0⟩
 else .inl 9
theorem numF_shorter (f : Nat) (first : Bool) (l : List UInt8) (n : Nat) (r : List UInt8) (h : numF f first l = some (n, r)) : r.length < l.length := by
 induction f generalizing first l n r with
 | zero => simp [numF] at h
 | succ f ih =>
  cases l with
  | nil => simp [numF] at h
  | cons c l =>
   simp only [numF] at h
   split at h
   ·split at h
    ·cases h
    ·simp only [Option.some.injEq, Prod.mk.injEq] at h
     obtain ⟨-, rfl⟩ := h
     simp
   ·cases hq : numF f false l with
    | none => rw [hq] at h; simp at h
    | some p =>
     rw [hq] at h
     simp only [Option.map_some, Option.some.injEq, Prod.mk.injEq] at h
     obtain ⟨-, rfl⟩ := h
     have := ih false l p.1 p.2 hq
     simp only [List.length_cons]
     omega
theorem operandL_next {m : Mo} {locs : Nat} {c : List UInt8} {sort i n j : Nat} (h : operandL m locs c sort i = some (n, j)) : i < j ∧ j ≤ c.length ∧ fitN m locs sort n = true := by
 unfold operandL at h
 split at h
 ·cases h
 ·rename_i n' r hn
  split at h
  ·rename_i hf
   simp only [Option.some.injEq, Prod.mk.injEq] at h
   obtain ⟨rfl, rfl⟩ := h
   have := numF_shorter 5 true _ _ _ hn
   rw [List.length_drop] at this
   exact ⟨by omega, by omega, hf⟩
  ·cases h
theorem decodeL_next {m : Mo} {f locs : Nat} {c : List UInt8} {i : Nat} {s : Stp} (hi : i < c.length) (h : decodeL m f locs c i = .inr s) :
  s.pl = i ∧ i < s.nx ∧ s.nx ≤ c.length ∧ s.op = (c.getD i 0).toNat ∧ mayOp f s.op = true := by
 unfold decodeL at h
 split at h
 ·rename_i hm
  split at h
  ·simp only [Sum.inr.injEq] at h
   subst h
   exact ⟨rfl, by simp, by simp; omega, rfl, hm⟩
  ·split at h
   ·cases h
   ·rename_i n j hop
    have h1 := operandL_next hop
    split at h
    ·split at h
     ·cases h
     ·rename_i n2 k hop2
      have h2 := operandL_next hop2
      simp only [Sum.inr.injEq] at h
      subst h
      exact ⟨rfl, by simp; omega, by simp; omega, rfl, hm⟩
    ·simp only [Sum.inr.injEq] at h
     subst h
     exact ⟨rfl, by simp; omega, by simp; omega, rfl, hm⟩
 ·cases h
theorem mayOp_lt {f op : Nat} (h : mayOp f op = true) : op < 54 := by
 unfold mayOp at h
 simp only [Bool.and_eq_true, decide_eq_true_eq] at h
 exact h.1.1
def Chain (m : Mo) (f locs : Nat) (c : List UInt8) : Nat → List Stp → Nat → Prop
 | i, [], j => i = j
 | i, s :: l, j => i < c.length ∧ decodeL m f locs c i = .inr s ∧ Chain m f locs c s.nx l j
def Reads (m : Mo) (f locs : Nat) (c : List UInt8) (l : List Stp) : Prop := Chain m f locs c 0 l c.length
theorem chain_unique {m : Mo} {f locs : Nat} {c : List UInt8} {i : Nat} {l l' : List Stp} (h : Chain m f locs c i l c.length) (h' : Chain m f locs c i l' c.length) : l = l' := by
 induction l generalizing i l' with
 | nil =>
  have e : i = c.length := h
  cases l' with
  | nil => rfl
  | cons a l' => have := h'.1; omega
 | cons a l ih =>
  cases l' with
  | nil =>
   have e : i = c.length := h'
   have := h.1
   omega
  | cons b l' =>
   have e := h.2.1
   rw [h'.2.1] at e
   simp only [Sum.inr.injEq] at e
   subst e
   rw [ih h.2.2 h'.2.2]
def badJump (l : List Stp) : List Stp → Option Nat
 | [] => none
 | s :: r => if far s.op = true ∧ numb l s.a = none then some s.pl else badJump l r
theorem numb_some {l : List Stp} {p k : Nat} (h : numb l p = some k) : ∃ s, l[k]? = some s ∧ s.pl = p := by
 induction l generalizing k with
 | nil => cases h
 | cons a l ih =>
  simp only [numb] at h
  split at h
  ·rename_i e
   simp only [Option.some.injEq] at h
   subst h
   exact ⟨a, rfl, e⟩
  ·cases hq : numb l p with
   | none => rw [hq] at h; cases h
   | some q =>
    rw [hq] at h
    simp only [Option.map_some, Option.some.injEq] at h
    subst h
    exact ih hq
end Flow
end Go.Proofs.YtmolfmgchbjnbaaGreatDoor
namespace Go.Proofs.YtmolfmgchbjnbaaGreatDoor
namespace Flow
open Wire
theorem after_shape {par : Nat → Nat} {op a : Nat} {ks o r : List UInt8} (h : after par op a ks = some (o, r)) :
  ∃ top, ks = r ++ top ∧ leS top (want par op a) ∧ o = r ++ give op top ∧ o.length ≤ 1024 := by
 unfold after at h
 split at h
 ·cases h
 ·rename_i hw
  split at h
  ·rename_i hs
   split at h
   ·rename_i hm
    simp only [Option.some.injEq, Prod.mk.injEq] at h
    obtain ⟨rfl, rfl⟩ := h
    exact ⟨ks.drop (ks.length - (want par op a).length), (List.take_append_drop _ _).symm, leSB_iff.1 hs, rfl, hm⟩
   ·cases h
  ·cases h
theorem le_num {x : UInt8} (h : le x 110) : x = 110 := by
 rcases le_cases.1 h with h | h | ⟨h, -⟩
 ·exact h
 ·exact absurd h (by decide)
 ·exact absurd h (by decide)
theorem le_txt {x : UInt8} (h : le x 116) : x = 116 := by
 rcases le_cases.1 h with h | h | ⟨h, -⟩
 ·exact h
 ·exact absurd h (by decide)
 ·exact absurd h (by decide)
theorem le_keys {x : UInt8} (h : le x 107) : x = 107 := by
 rcases le_cases.1 h with h | h | ⟨h, -⟩
 ·exact h
 ·exact absurd h (by decide)
 ·exact absurd h (by decide)
theorem le_any {x : UInt8} (h : le x 97) : x ≠ 107 := by
 rcases le_cases.1 h with h | h | ⟨-, h, -⟩
 ·subst h; decide
 ·exact absurd h (by decide)
 ·exact h
theorem Chain.behind {m : Mo} {f locs : Nat} {c : List UInt8} {i j k : Nat} {l : List Stp} (h : Chain m f locs c i l j) {s t : Stp} (hs : l[k]? = some s) (ht : l[k + 1]? = some t) : t.pl = s.nx := by
 induction l generalizing i k with
 | nil => simp at hs
 | cons a l ih =>
  cases k with
  | zero =>
   simp only [List.getElem?_cons_zero, Option.some.injEq] at hs
   subst hs
   cases l with
   | nil => simp at ht
   | cons b l =>
    simp only [Nat.zero_add, List.getElem?_cons_succ, List.getElem?_cons_zero, Option.some.injEq] at ht
    subst ht
    exact (decodeL_next h.2.2.1 h.2.2.2.1).1
  | succ k =>
   simp only [List.getElem?_cons_succ] at hs ht
   exact ih h.2.2 hs ht
theorem Chain.first {m : Mo} {f locs : Nat} {c : List UInt8} {i j : Nat} {l : List Stp} (h : Chain m f locs c i l j) {s : Stp} (hs : l[0]? = some s) : s.pl = i := by
 cases l with
 | nil => simp at hs
 | cons a l =>
  simp only [List.getElem?_cons_zero, Option.some.injEq] at hs
  subst hs
  exact (decodeL_next h.1 h.2.1).1
theorem Chain.decodes {m : Mo} {f locs : Nat} {c : List UInt8} {i j k : Nat} {l : List Stp} (h : Chain m f locs c i l j) {s : Stp} (hs : l[k]? = some s) : s.pl < c.length ∧ decodeL m f locs c s.pl = .inr s := by
 induction l generalizing i k with
 | nil => simp at hs
 | cons a l ih =>
  cases k with
  | zero =>
   simp only [List.getElem?_cons_zero, Option.some.injEq] at hs
   subst hs
   obtain ⟨e, -⟩ := decodeL_next h.1 h.2.1
   rw [e]
   exact ⟨h.1, h.2.1⟩
  | succ k =>
   simp only [List.getElem?_cons_succ] at hs
   exact ih h.2.2 hs
def Fits (l : List Stp) (G : List (Option (List UInt8))) (p : Nat) (ks : List UInt8) : Prop :=
 ∃ (i : Nat) (s : Stp) (t : List UInt8), l[i]? = some s ∧ s.pl = p ∧ G[i]? = some (some t) ∧ leS ks t
theorem Fits.lower {l : List Stp} {G : List (Option (List UInt8))} {p : Nat} {ks ks' : List UInt8} (h : Fits l G p ks) (hl : leS ks' ks) : Fits l G p ks' := by
 obtain ⟨i, s, t, h1, h2, h3, h4⟩ := h
 exact ⟨i, s, t, h1, h2, h3, leS_trans hl h4⟩
theorem fits_begin {par : Nat → Nat} {m : Mo} {f locs : Nat} {c : List UInt8} {l : List Stp} {G : List (Option (List UInt8))} (hr : Reads m f locs c l) (hG : Sol par l G) : Fits l G 0 [] := by
 have h0 := hG.first
 have hi : 0 < l.length := by
  rw [List.getElem?_eq_some_iff] at h0
  rw [← hG.size]
  exact h0.1
 have hs : l[0]? = some l[0] := List.getElem?_eq_getElem hi
 exact ⟨0, l[0], [], hs, Chain.first hr hs, h0, leS_refl []⟩
theorem fits_step {par : Nat → Nat} {m : Mo} {f locs : Nat} {c : List UInt8} {l : List Stp} {G : List (Option (List UInt8))} (hr : Reads m f locs c l) (hG : Sol par l G) {p : Nat} {ks : List UInt8} (h : Fits l G p ks) :
  ∃ s o r, p < c.length ∧ decodeL m f locs c p = .inr s ∧ s.pl = p ∧ after par s.op s.a ks = some (o, r) ∧
   (far s.op = true → Fits l G s.a r) ∧ (halts s.op = false → Fits l G s.nx o) := by
 obtain ⟨i, s, t, h1, h2, h3, h4⟩ := h
 have hil : i < l.length := by
  rw [List.getElem?_eq_some_iff] at h1
  exact h1.1
 obtain ⟨o, r, ha, hf, hn⟩ := hG.each i hil t s h3 h1
 obtain ⟨o', r', ha', hlo, hlr⟩ := after_mono h4 ha
 obtain ⟨hd1, hd2⟩ := Chain.decodes hr h1
 rw [h2] at hd1 hd2
 refine ⟨s, o', r', hd1, hd2, h2, ha', ?_, ?_⟩
 ·intro hfar
  obtain ⟨k, hk, u, hu, hl⟩ := hf hfar
  obtain ⟨s', hs', hp⟩ := numb_some hk
  exact ⟨k, s', u, hs', hp, hu, leS_trans hlr hl⟩
 ·intro hh
  obtain ⟨u, hu, hl⟩ := hn hh
  have hi1 : i + 1 < l.length := by
   rw [List.getElem?_eq_some_iff] at hu
   rw [← hG.size]
   exact hu.1
  have hs' : l[i + 1]? = some l[i + 1] := List.getElem?_eq_getElem hi1
  exact ⟨i + 1, l[i + 1], u, hs', Chain.behind hr h1 hs', hu, leS_trans hlo hl⟩
end Flow
end Go.Proofs.YtmolfmgchbjnbaaGreatDoor
namespace Go.Proofs.YtmolfmgchbjnbaaGreatDoor
namespace Mach
open Wire Flow
structure Val where
 kind : Nat
 n : Int
 s : ByteArray
def none0 : ByteArray := ⟨#[]⟩
def nothing : Val := ⟨0, 0, none0⟩
def whole (n : Int) : Val := ⟨1, n, none0⟩
def words (s : ByteArray) : Val := ⟨2, 0, s⟩
def blankB (c : UInt8) : Bool := c == 32 || c == 9 || c == 10
def digB (c : UInt8) : Bool := decide (48 ≤ c.toNat) && decide (c.toNat ≤ 57)
def skipL : List UInt8 → List UInt8
 | [] => []
 | c :: l => if blankB c = true then skipL l else c :: l
def more (n : Int) (c : UInt8) : Int := if 10 * n + ((c.toNat : Int) - 48) > 1000000000 then 1000000001 else 10 * n + ((c.toNat : Int) - 48)
def digL : Int → Nat → List UInt8 → Int × Nat × List UInt8
 | n, k, [] => (n, k, [])
 | n, k, c :: l => if digB c = true then digL (more n c) (k + 1) l else (n, k, c :: l)
def signL : List UInt8 → Bool × List UInt8
 | [] => (false, [])
 | c :: l => if c = 43 then (false, l) else if c = 45 then (true, l) else (false, c :: l)
def readL (l : List UInt8) : Int × Nat × List UInt8 :=
 ((if (signL (skipL l)).1 = true then -(digL 0 0 (signL (skipL l)).2).1 else (digL 0 0 (signL (skipL l)).2).1), (digL 0 0 (signL (skipL l)).2).2)
def clampN (n : Int) : Int := if n > 1000000000 then 1000000000 else if n < -1000000000 then -1000000000 else n
def looks (s : ByteArray) : Bool :=
 (readL (bl s)).2.2.all blankB && decide (0 < (readL (bl s)).2.1) && decide (-1000000000 ≤ (readL (bl s)).1) && decide ((readL (bl s)).1 ≤ 1000000000)
def readV (s : ByteArray) : Val := if looks s = true then ⟨3, 0, s⟩ else words s
def numT (s : ByteArray) : Int := clampN (readL (bl s)).1
def numV (v : Val) : Int := if v.kind = 0 then 0 else if v.kind = 1 then v.n else numT v.s
def holdsV (v : Val) : Bool := if v.kind = 2 then decide (v.s.size ≠ 0) else decide (numV v ≠ 0)
def cmpL : List UInt8 → List UInt8 → Int
 | [], [] => 0
 | [], _ :: _ => -1
 | _ :: _, [] => 1
 | a :: s, b :: t => if a.toNat < b.toNat then -1 else if b.toNat < a.toNat then 1 else cmpL s t
def cmpI (x y : Int) : Int := if x < y then -1 else if x > y then 1 else 0
def truth (b : Bool) : Int := if b = true then 1 else 0
structure Env where
 mo : Mo
 fnd : ByteArray → ByteArray → Int × Int
 swp : ByteArray → ByteArray → ByteArray → ByteArray
 spl : ByteArray → ByteArray → List ByteArray
 itoa : Int → ByteArray
 wr : Int → Int
def textV (E : Env) (v : Val) : ByteArray := if v.kind = 0 then none0 else if v.kind = 1 then E.itoa v.n else v.s
def cmpV (E : Env) (a b : Val) : Int :=
 if a.kind = 2 ∨ b.kind = 2 then cmpL (bl (textV E a)) (bl (textV E b)) else cmpI (numV a) (numV b)
def cmpOp (k : Nat) (c : Int) : Bool :=
 if k = 29 then decide (c < 0) else if k = 30 then decide (c ≤ 0) else if k = 31 then decide (c = 0) else if k = 32 then decide (c ≠ 0) else if k = 33 then decide (c > 0) else decide (c ≥ 0)
def sumOp (E : Env) (op : Nat) (x y : Int) : Int × Nat :=
 if op = 21 ∧ y = 0 ∨ op = 22 ∧ y = 0 then (0, 3)
 else
  let n := if op = 18 then E.wr (x + y) else if op = 19 then E.wr (x - y) else if op = 20 then E.wr (x * y) else if op = 21 then E.wr (x.tdiv y) else E.wr (x - E.wr (E.wr (x.tdiv y) * y))
  if n > 1000000000 ∨ n < -1000000000 then (0, 4) else (n, 0)
def signedN (a : Nat) : Int := if a % 2 = 0 then ((a / 2 : Nat) : Int) else -(((a + 1) / 2 : Nat) : Int)
def hasK (a : List (ByteArray × Val)) (k : ByteArray) : Bool := a.any fun e => decide (e.1 = k)
def getK : List (ByteArray × Val) → ByteArray → Val
 | [], _ => nothing
 | e :: a, k => if e.1 = k then e.2 else getK a k
def setK : List (ByteArray × Val) → ByteArray → Val → List (ByteArray × Val)
 | [], k, v => [(k, v)]
 | e :: a, k, v => if e.1 = k then (k, v) :: a else e :: setK a k v
def dropK (a : List (ByteArray × Val)) (k : ByteArray) : List (ByteArray × Val) := a.filter fun e => decide (e.1 ≠ k)
def keysA (a : List (ByteArray × Val)) : List ByteArray := a.map Prod.fst
def fillA (E : Env) : Nat → List ByteArray → List (ByteArray × Val)
 | _, [] => []
 | i, s :: l => (E.itoa ((i : Int) + 1), readV s) :: fillA E (i + 1) l
def nextK (a : List (ByteArray × Val)) : List ByteArray → Option (ByteArray × List ByteArray)
 | [] => none
 | k :: l => if hasK a k = true then some (k, l) else nextK a l
def fieldsL : List UInt8 → List UInt8 → List ByteArray
 | f, [] => if f = [] then [] else [⟨f.toArray⟩]
 | f, c :: l => if blankB c = true then (if f = [] then fieldsL [] l else ⟨f.toArray⟩ :: fieldsL [] l) else fieldsL (f ++ [c]) l
def cutF (s : ByteArray) : List ByteArray := fieldsL [] (bl s)
def joinF : List ByteArray → List UInt8
 | [] => []
 | [s] => bl s
 | s :: t :: l => bl s ++ 32 :: joinF (t :: l)
def putF (l : List ByteArray) (n : Nat) (s : ByteArray) : List ByteArray := (l ++ List.replicate (n - l.length) none0).set (n - 1) s
structure Wd where
 recs : List ByteArray
 nr : Nat
 draws : List Int
 drawn : Nat
 rcd : ByteArray
 flds : List ByteArray
 out : ByteArray
 globs : List Val
 arrs : List (List (ByteArray × Val))
def nextR (w : Wd) : Wd × Bool :=
 match w.recs[w.nr]? with
 | none => (w, false)
 | some s => ({ w with nr := w.nr + 1, rcd := s, flds := cutF s }, true)
def fieldW (w : Wd) (n : Int) : Val × Nat :=
 if n < 0 then (nothing, 5) else if n = 0 then (readV w.rcd, 0) else if n ≤ (w.flds.length : Int) then (readV (w.flds.getD (n.toNat - 1) none0), 0) else (nothing, 0)
def setFieldW (w : Wd) (n : Int) (s : ByteArray) : Wd × Nat :=
 if n < 0 ∨ n > 50 then (w, 5)
 else if n = 0 then ({ w with rcd := s, flds := cutF s }, 0)
 else if (joinF (putF w.flds n.toNat s)).length > 100 then (w, 6)
 else ({ w with rcd := ⟨(joinF (putF w.flds n.toNat s)).toArray⟩, flds := putF w.flds n.toNat s }, 0)
def printW (w : Wd) (l : List ByteArray) : Wd × Nat :=
 if w.out.size + (joinF l).length + 1 > 1000 then (w, 8) else ({ w with out := ⟨w.out.data ++ (joinF l ++ [10]).toArray⟩ }, 0)
def partL (m e : Int) : Nat → List UInt8 → List UInt8
 | _, [] => []
 | i, c :: l => if m ≤ (i : Int) + 1 ∧ (i : Int) + 1 < e then c :: partL m e (i + 1) l else partL m e (i + 1) l
def indexL (t : List UInt8) : Nat → List UInt8 → Nat
  | i, s => if t.isPrefixOf s = true then i + 1 else match s with
    | [] => 0
    | _ :: s => indexL t (i + 1) s
structure Cell where
 list : Bool
 v : Val
 arr : Nat
 keys : List ByteArray
def cv (v : Val) : Cell := ⟨false, v, 0, []⟩
def c0 : Cell := cv nothing
def kd (c : Cell) : UInt8 := if c.list = true then 107 else if c.v.kind = 1 then 110 else if c.v.kind = 2 then 116 else 97
structure Eff where
 w : Wd
 locs : List Val
 top : List Cell
 st : Nat
 code : Int
 go : Option Nat
def Eff.put (w : Wd) (locs : List Val) (v : Val) : Eff := ⟨w, locs, [cv v], 0, 0, none⟩
def Eff.bad (w : Wd) (locs : List Val) (st : Nat) : Eff := ⟨w, locs, [], st, 0, none⟩
def Eff.off (w : Wd) (locs : List Val) (st : Nat) : Eff := ⟨w, locs, [], st, 0, none⟩
def eff (E : Env) (w : Wd) (locs : List Val) (op a b : Nat) (top : List Cell) : Eff :=
  match op with
  | 0 => .put w locs (whole (signedN a))
  | 1 => .put w locs (words (E.mo.texts.getD a none0))
  | 2 => .put w locs nothing
  | 3 => .put w locs (locs.getD a nothing)
  | 4 => .off w (locs.set a (top.getD 0 c0).v) 0
  | 5 => .put w locs (w.globs.getD a nothing)
  | 6 => .off { w with globs := w.globs.set a (top.getD 0 c0).v } locs 0
  | 7 => ⟨w, locs, [cv (fieldW w (top.getD 0 c0).v.n).1], (fieldW w (top.getD 0 c0).v.n).2, 0, none⟩
  | 8 => .off (setFieldW w (top.getD 0 c0).v.n (textV E (top.getD 1 c0).v)).1 locs (setFieldW w (top.getD 0 c0).v.n (textV E (top.getD 1 c0).v)).2
  | 9 => .put w locs (whole (w.flds.length : Int))
  | 10 => .put w locs (whole (w.nr : Int))
  | 11 => if hasK (w.arrs.getD a []) (top.getD 0 c0).v.s = true then .put w locs (getK (w.arrs.getD a []) (top.getD 0 c0).v.s)
      else if 30 ≤ (w.arrs.getD a []).length then .bad w locs 7
      else .put { w with arrs := w.arrs.set a (setK (w.arrs.getD a []) (top.getD 0 c0).v.s nothing) } locs nothing
  | 12 => if hasK (w.arrs.getD a []) (top.getD 0 c0).v.s = false ∧ 30 ≤ (w.arrs.getD a []).length then .bad w locs 7
      else .off { w with arrs := w.arrs.set a (setK (w.arrs.getD a []) (top.getD 0 c0).v.s (top.getD 1 c0).v) } locs 0
  | 13 => .put w locs (whole (truth (hasK (w.arrs.getD a []) (top.getD 0 c0).v.s)))
  | 14 => .off { w with arrs := w.arrs.set a (dropK (w.arrs.getD a []) (top.getD 0 c0).v.s) } locs 0
  | 15 => .off { w with arrs := w.arrs.set a [] } locs 0
  | 16 => ⟨w, locs, [⟨true, nothing, a, keysA (w.arrs.getD a [])⟩], 0, 0, none⟩
  | 17 => match nextK (w.arrs.getD (top.getD 0 c0).arr []) (top.getD 0 c0).keys with
    | none => ⟨w, locs, [], 0, 0, some a⟩
    | some (k, l) => ⟨w, locs, [⟨true, (top.getD 0 c0).v, (top.getD 0 c0).arr, l⟩, cv (words k)], 0, 0, none⟩
  | 18 | 19 | 20 | 21 | 22 => ⟨w, locs, [cv (whole (sumOp E op (top.getD 0 c0).v.n (top.getD 1 c0).v.n).1)], (sumOp E op (top.getD 0 c0).v.n (top.getD 1 c0).v.n).2, 0, none⟩
  | 23 => .put w locs (whole (E.wr (-(top.getD 0 c0).v.n)))
  | 24 => .put w locs (whole (truth (decide ((top.getD 0 c0).v.n = 0))))
  | 25 => if (top.getD 0 c0).v.s.size + (top.getD 1 c0).v.s.size > 100 then .bad w locs 6
      else .put w locs (words ((top.getD 0 c0).v.s ++ (top.getD 1 c0).v.s))
  | 26 => .put w locs (whole (numV (top.getD 0 c0).v))
  | 27 => .put w locs (words (textV E (top.getD 0 c0).v))
  | 28 => .put w locs (whole (truth (holdsV (top.getD 0 c0).v)))
  | 29 | 30 | 31 | 32 | 33 | 34 => .put w locs (whole (truth (cmpOp op (cmpV E (top.getD 0 c0).v (top.getD 1 c0).v))))
  | 35 => .put w locs (whole ((E.fnd (E.mo.pats.getD a none0) (top.getD 0 c0).v.s).1 + 1))
  | 36 => .put w locs (whole (if (E.fnd (E.mo.pats.getD a none0) (top.getD 0 c0).v.s).1 < 0 then -1 else (E.fnd (E.mo.pats.getD a none0) (top.getD 0 c0).v.s).2))
  | 37 => if (E.swp (E.mo.pats.getD a none0) (top.getD 0 c0).v.s (top.getD 1 c0).v.s).size > 100 then .bad w locs 6
      else .put w locs (words (E.swp (E.mo.pats.getD a none0) (top.getD 0 c0).v.s (top.getD 1 c0).v.s))
  | 38 => if (E.spl (E.mo.pats.getD b none0) (top.getD 0 c0).v.s).length > 30 then .bad w locs 7
      else .put { w with arrs := w.arrs.set a (fillA E 0 (E.spl (E.mo.pats.getD b none0) (top.getD 0 c0).v.s)) } locs (whole ((E.spl (E.mo.pats.getD b none0) (top.getD 0 c0).v.s).length : Int))
  | 39 => .put w locs (whole ((top.getD 0 c0).v.s.size : Int))
  | 40 => .put w locs (words ⟨(partL (top.getD 1 c0).v.n (E.wr ((top.getD 1 c0).v.n + (top.getD 2 c0).v.n)) 0 (bl (top.getD 0 c0).v.s)).toArray⟩)
  | 41 => .put w locs (whole (indexL (bl (top.getD 1 c0).v.s) 0 (bl (top.getD 0 c0).v.s) : Int))
  | 42 => .put (nextR w).1 locs (whole (truth (nextR w).2))
  | 43 => match w.draws[w.drawn]? with
    | none => .put w locs (whole 0)
    | some n => .put { w with drawn := w.drawn + 1 } locs (whole n)
  | 44 => .off (printW w (top.map fun c => c.v.s)).1 locs (printW w (top.map fun c => c.v.s)).2
  | 45 => ⟨w, locs, [top.getD 0 c0, top.getD 0 c0], 0, 0, none⟩
  | 46 => ⟨w, locs, [top.getD 1 c0, top.getD 0 c0, top.getD 1 c0], 0, 0, none⟩
  | 47 => .off w locs 0
  | 48 => ⟨w, locs, [], 0, 0, some a⟩
  | 49 => ⟨w, locs, [], 0, 0, if (top.getD 0 c0).v.n = 0 then some a else none⟩
  | 53 => ⟨w, locs, [], 2, (top.getD 0 c0).v.n, none⟩
  | _ => .off w locs 0
theorem kd_cv (v : Val) : kd (cv v) = if v.kind = 1 then 110 else if v.kind = 2 then 116 else 97 := rfl
theorem kd_any (v : Val) : le (kd (cv v)) 97 := by
 rw [kd_cv]
 split
 ·exact le_cases.2 (Or.inr (Or.inr ⟨rfl, by decide, by decide⟩))
 ·split
  ·exact le_cases.2 (Or.inr (Or.inr ⟨rfl, by decide, by decide⟩))
  ·exact le_refl _
theorem kd_keys {c : Cell} (h : kd c = 107) : c.list = true := by
 unfold kd at h
 split at h
 ·assumption
 ·split at h
  ·exact absurd h (by decide)
  ·split at h
   ·exact absurd h (by decide)
   ·exact absurd h (by decide)
theorem kd_num {c : Cell} (h : kd c = 110) : c.list = false ∧ c.v.kind = 1 := by
 unfold kd at h
 split at h
 ·exact absurd h (by decide)
 ·rename_i hl
  split at h
  ·rename_i hk; exact ⟨by simpa using hl, hk⟩
  ·split at h
   ·exact absurd h (by decide)
   ·exact absurd h (by decide)
theorem kd_txt {c : Cell} (h : kd c = 116) : c.list = false ∧ c.v.kind = 2 := by
 unfold kd at h
 split at h
 ·exact absurd h (by decide)
 ·rename_i hl
  split at h
  ·exact absurd h (by decide)
  ·split at h
   ·rename_i hk; exact ⟨by simpa using hl, hk⟩
   ·exact absurd h (by decide)
theorem kd_val {c : Cell} (h : kd c ≠ 107) : c.list = false := by
 unfold kd at h
 split at h
 ·exact absurd rfl h
 ·rename_i hl; simpa using hl
end Mach
end Go.Proofs.YtmolfmgchbjnbaaGreatDoor
namespace Go.Proofs.YtmolfmgchbjnbaaGreatDoor
namespace Mach
open Wire Flow
theorem one_top {top : List Cell} {b : UInt8} (h : leS (top.map kd) [b]) : ∃ c, top = [c] ∧ le (kd c) b := by
  cases top with
  | nil => exact h.elim
  | cons c t => cases t with
    | nil => exact ⟨c, rfl, h.1⟩
    | cons => exact h.2.elim
theorem two_top {top : List Cell} {a b : UInt8} (h : leS (top.map kd) [a, b]) : ∃ c d, top = [c, d] ∧ le (kd c) a ∧ le (kd d) b := by
 cases top with
 | nil => exact h.elim
 | cons c t =>
  obtain ⟨d, rfl, hd⟩ := one_top h.2
  exact ⟨c, d, rfl, h.1, hd⟩
theorem three_top {top : List Cell} {a b e : UInt8} (h : leS (top.map kd) [a, b, e]) : ∃ c d f, top = [c, d, f] ∧ le (kd c) a ∧ le (kd d) b ∧ le (kd f) e := by
 cases top with
 | nil => exact h.elim
 | cons c t =>
  obtain ⟨d, f, rfl, hd, hf⟩ := two_top h.2
  exact ⟨c, d, f, rfl, h.1, hd, hf⟩
theorem eff_kinds {E : Env} {w : Wd} {locs : List Val} {par : Nat → Nat} : ∀ {op a b : Nat} {top : List Cell}, op < 54 → op ≠ 50 → op ≠ 51 → op ≠ 52 → leS (top.map kd) (want par op a) → (eff E w locs op a b top).st = 0 →
  ((eff E w locs op a b top).go = none ∧ halts op = false ∧ leS ((eff E w locs op a b top).top.map kd) (give op (top.map kd))) ∨
  (far op = true ∧ (eff E w locs op a b top).go = some a ∧ (eff E w locs op a b top).top = []) := by
 intro op a b top hop h50 h51 h52 hk hst
 match op, hop with
 | 0, _ => 
  exact Or.inl ⟨rfl, rfl, le_refl _, trivial⟩
 | 1, _ => 
  exact Or.inl ⟨rfl, rfl, le_refl _, trivial⟩
 | 2, _ => 
  exact Or.inl ⟨rfl, rfl, kd_any _, trivial⟩
 | 3, _ => 
  exact Or.inl ⟨rfl, rfl, kd_any _, trivial⟩
 | 4, _ => 
  exact Or.inl ⟨rfl, rfl, trivial⟩
 | 5, _ => 
  exact Or.inl ⟨rfl, rfl, kd_any _, trivial⟩
 | 6, _ => 
  exact Or.inl ⟨rfl, rfl, trivial⟩
 | 7, _ => 
  exact Or.inl ⟨rfl, rfl, kd_any _, trivial⟩
 | 8, _ => 
  exact Or.inl ⟨rfl, rfl, trivial⟩
 | 9, _ => 
  exact Or.inl ⟨rfl, rfl, le_refl _, trivial⟩
 | 10, _ => 
  exact Or.inl ⟨rfl, rfl, le_refl _, trivial⟩
 | 11, _ => 
  simp only [eff] at hst ⊢
  split
  ·exact Or.inl ⟨rfl, rfl, kd_any _, trivial⟩
  ·rename_i h1
   rw [if_neg h1] at hst
   split
   ·rename_i h2
    rw [if_pos h2] at hst
    cases hst
   ·exact Or.inl ⟨rfl, rfl, kd_any _, trivial⟩
 | 12, _ => 
  simp only [eff] at hst ⊢
  split
  ·rename_i h1
   rw [if_pos h1] at hst
   cases hst
  ·exact Or.inl ⟨rfl, rfl, trivial⟩
 | 13, _ => 
  exact Or.inl ⟨rfl, rfl, le_refl _, trivial⟩
 | 14, _ => 
  exact Or.inl ⟨rfl, rfl, trivial⟩
 | 15, _ => 
  exact Or.inl ⟨rfl, rfl, trivial⟩
 | 16, _ => 
  exact Or.inl ⟨rfl, rfl, le_refl _, trivial⟩
 | 17, _ => 
  simp only [eff]
  split
  ·exact Or.inr ⟨rfl, rfl, rfl⟩
  ·exact Or.inl ⟨rfl, rfl, le_refl _, le_refl _, trivial⟩
 | 18, _ => 
  exact Or.inl ⟨rfl, rfl, le_refl _, trivial⟩
 | 19, _ => 
  exact Or.inl ⟨rfl, rfl, le_refl _, trivial⟩
 | 20, _ => 
  exact Or.inl ⟨rfl, rfl, le_refl _, trivial⟩
 | 21, _ => 
  exact Or.inl ⟨rfl, rfl, le_refl _, trivial⟩
 | 22, _ => 
  exact Or.inl ⟨rfl, rfl, le_refl _, trivial⟩
 | 23, _ => 
  exact Or.inl ⟨rfl, rfl, le_refl _, trivial⟩
 | 24, _ => 
  exact Or.inl ⟨rfl, rfl, le_refl _, trivial⟩
 | 25, _ => 
  simp only [eff] at hst ⊢
  split
  ·rename_i h1
   rw [if_pos h1] at hst
   cases hst
  ·exact Or.inl ⟨rfl, rfl, le_refl _, trivial⟩
 | 26, _ => 
  exact Or.inl ⟨rfl, rfl, le_refl _, trivial⟩
 | 27, _ => 
  exact Or.inl ⟨rfl, rfl, le_refl _, trivial⟩
 | 28, _ => 
  exact Or.inl ⟨rfl, rfl, le_refl _, trivial⟩
 | 29, _ => 
  exact Or.inl ⟨rfl, rfl, le_refl _, trivial⟩
 | 30, _ => 
  exact Or.inl ⟨rfl, rfl, le_refl _, trivial⟩
 | 31, _ => 
  exact Or.inl ⟨rfl, rfl, le_refl _, trivial⟩
 | 32, _ => 
  exact Or.inl ⟨rfl, rfl, le_refl _, trivial⟩
 | 33, _ => 
  exact Or.inl ⟨rfl, rfl, le_refl _, trivial⟩
 | 34, _ => 
  exact Or.inl ⟨rfl, rfl, le_refl _, trivial⟩
 | 35, _ => 
  exact Or.inl ⟨rfl, rfl, le_refl _, trivial⟩
 | 36, _ => 
  exact Or.inl ⟨rfl, rfl, le_refl _, trivial⟩
 | 37, _ => 
  simp only [eff] at hst ⊢
  split
  ·rename_i h1
   rw [if_pos h1] at hst
   cases hst
  ·exact Or.inl ⟨rfl, rfl, le_refl _, trivial⟩
 | 38, _ => 
  simp only [eff] at hst ⊢
  split
  ·rename_i h1
   rw [if_pos h1] at hst
   cases hst
  ·exact Or.inl ⟨rfl, rfl, le_refl _, trivial⟩
 | 39, _ => 
  exact Or.inl ⟨rfl, rfl, le_refl _, trivial⟩
 | 40, _ => 
  exact Or.inl ⟨rfl, rfl, le_refl _, trivial⟩
 | 41, _ => 
  exact Or.inl ⟨rfl, rfl, le_refl _, trivial⟩
 | 42, _ => 
  exact Or.inl ⟨rfl, rfl, le_refl _, trivial⟩
 | 43, _ => 
  simp only [eff]
  split
  ·exact Or.inl ⟨rfl, rfl, le_refl _, trivial⟩
  ·exact Or.inl ⟨rfl, rfl, le_refl _, trivial⟩
 | 44, _ => 
  exact Or.inl ⟨rfl, rfl, trivial⟩
 | 45, _ => 
  obtain ⟨c, rfl, h1⟩ := one_top hk
  exact Or.inl ⟨rfl, rfl, le_refl _, le_refl _, trivial⟩
 | 46, _ => 
  obtain ⟨c, d, rfl, h1, h2⟩ := two_top hk
  exact Or.inl ⟨rfl, rfl, le_refl _, le_refl _, le_refl _, trivial⟩
 | 47, _ => 
  exact Or.inl ⟨rfl, rfl, trivial⟩
 | 48, _ => 
  exact Or.inr ⟨rfl, rfl, rfl⟩
 | 49, _ => 
  by_cases h1 : (top.getD 0 c0).v.n = 0
  ·exact Or.inr ⟨rfl, by simp only [eff]; rw [if_pos h1], rfl⟩
  ·exact Or.inl ⟨by simp only [eff]; rw [if_neg h1], rfl, trivial⟩
 | 50, _ => 
  exact absurd rfl h50
 | 51, _ => 
  exact absurd rfl h51
 | 52, _ => 
  exact absurd rfl h52
 | 53, _ => 
  cases hst
 | n + 54, h => exact absurd h (by omega)
end Mach
end Go.Proofs.YtmolfmgchbjnbaaGreatDoor
