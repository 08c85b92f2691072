import Derived.Test.YtmolfmgchbjnbaaGreatDoorM03
set_option linter.unusedSimpArgs false
set_option linter.unusedVariables false
namespace Go.Proofs.YtmolfmgchbjnbaaGreatDoor
namespace Mach
open Wire Flow
structure Frm where
 f : Nat
 at_ : Nat
 locs : List Val
 stk : List Cell
structure St where
 w : Wd
 frs : List Frm
 st : Nat
 code : Int
 used : Nat
def fnOf (m : Mo) (f : Nat) : Wire.Fn := m.fns.getD f ⟨0, 0, none0⟩
def codeOf (m : Mo) (f : Nat) : List UInt8 := bl (fnOf m f).code
def locsOf (m : Mo) (f : Nat) : Nat := (fnOf m f).locs.toNat
def parOf (m : Mo) (f : Nat) : Nat := (fnOf m f).params.toNat
def enter (m : Mo) (f : Nat) (args : List Val) : Frm := ⟨f, 0, args ++ List.replicate (locsOf m f - args.length) nothing, []⟩
def over (m : Mo) (s : St) (f : Nat) : St :=
 if f = 2 then { s with st := 1 }
 else if (nextR s.w).2 = true then { s with w := (nextR s.w).1, frs := [enter m 1 []] }
 else { s with frs := [enter m 2 []] }
def does (E : Env) (s : St) (low : List Frm) (fr : Frm) (i : Stp) (rest top : List Cell) : St :=
 if i.op = 50 then
  if 20 < low.length + 1 then { s with st := 9, used := s.used + 1 }
  else { s with used := s.used + 1, frs := low ++ [⟨fr.f, i.nx, fr.locs, rest⟩, enter E.mo i.a (top.map Cell.v)] }
 else if i.op = 51 then
  match low.getLast? with
  | none => s
  | some g => { s with used := s.used + 1, frs := low.dropLast ++ [⟨g.f, g.at_, g.locs, g.stk ++ [cv (top.getD 0 c0).v]⟩] }
 else if i.op = 52 then over E.mo { s with used := s.used + 1 } fr.f
 else if (eff E s.w fr.locs i.op i.a i.b top).st ≠ 0 then
  { s with w := (eff E s.w fr.locs i.op i.a i.b top).w, st := (eff E s.w fr.locs i.op i.a i.b top).st, code := (eff E s.w fr.locs i.op i.a i.b top).code, used := s.used + 1 }
 else
  { s with w := (eff E s.w fr.locs i.op i.a i.b top).w, used := s.used + 1, frs := low ++ [⟨fr.f, ((eff E s.w fr.locs i.op i.a i.b top).go).getD i.nx, (eff E s.w fr.locs i.op i.a i.b top).locs, rest ++ (eff E s.w fr.locs i.op i.a i.b top).top⟩] }
structure Ready (E : Env) (s : St) (low : List Frm) (fr : Frm) (i : Stp) (rest top : List Cell) : Prop where
 frs : s.frs = low ++ [fr]
 at_ : fr.at_ < (codeOf E.mo fr.f).length
 dec : decodeL E.mo fr.f (locsOf E.mo fr.f) (codeOf E.mo fr.f) fr.at_ = .inr i
 stk : fr.stk = rest ++ top
 takes : leS (top.map kd) (want (parOf E.mo) i.op i.a)
 high : rest.length + (give i.op (top.map kd)).length ≤ 1024
theorem Ready.unique {E : Env} {s : St} {low low' : List Frm} {fr fr' : Frm} {i i' : Stp} {rest rest' top top' : List Cell} (h : Ready E s low fr i rest top) (g : Ready E s low' fr' i' rest' top') : low = low' ∧ fr = fr' ∧ i = i' ∧ rest = rest' ∧ top = top' := by
 have e := h.frs.symm.trans g.frs
 obtain ⟨e1, e2⟩ := List.append_inj' e rfl
 simp only [List.cons.injEq, and_true] at e2
 subst e1 e2
 have e3 := h.dec.symm.trans g.dec
 simp only [Sum.inr.injEq] at e3
 subst e3
 have e4 := h.stk.symm.trans g.stk
 have l1 := leS_length h.takes
 have l2 := leS_length g.takes
 rw [List.length_map] at l1 l2
 obtain ⟨e5, e6⟩ := List.append_inj' e4 (l1.trans l2.symm)
 exact ⟨rfl, rfl, rfl, e5, e6⟩
def FnOk (m : Mo) (f : Nat) : Prop := ∃ l, Reads m f (locsOf m f) (codeOf m f) l ∧ badJump l l = none ∧ Flow.Safe (parOf m) l
def FrFit (m : Mo) (f at_ : Nat) (ks : List UInt8) : Prop := ∃ l G, Reads m f (locsOf m f) (codeOf m f) l ∧ Sol (parOf m) l G ∧ Fits l G at_ ks
theorem FrFit.lower {m : Mo} {f at_ : Nat} {ks ks' : List UInt8} (h : FrFit m f at_ ks) (hl : leS ks' ks) : FrFit m f at_ ks' := by
 obtain ⟨l, G, h1, h2, h3⟩ := h
 exact ⟨l, G, h1, h2, h3.lower hl⟩
theorem FnOk.begin {m : Mo} {f : Nat} (h : FnOk m f) : FrFit m f 0 [] := by
 obtain ⟨l, h1, h2, G, h3⟩ := h
 exact ⟨l, G, h1, h3, fits_begin h1 h3⟩
structure Inv (m : Mo) (frs : List Frm) : Prop where
 some_ : frs ≠ []
 kinds : ∀ i g, frs[i]? = some g → (i = 0 ↔ g.f < 3)
 fns : ∀ g ∈ frs, g.f < m.fns.length ∧ g.locs.length = locsOf m g.f
 on : ∀ g, frs.getLast? = some g → FrFit m g.f g.at_ (g.stk.map kd) ∧ g.stk.length ≤ 1024
 low : ∀ g ∈ frs.dropLast, FrFit m g.f g.at_ (g.stk.map kd ++ [97]) ∧ g.stk.length + 1 ≤ 1024
theorem Inv.split {m : Mo} {frs : List Frm} (h : Inv m frs) : ∃ low fr, frs = low ++ [fr] := by
 rcases List.eq_nil_or_concat frs with h0 | ⟨low, fr, h0⟩
 ·exact absurd h0 h.some_
 ·exact ⟨low, fr, by simpa using h0⟩
theorem map_kd_split {stk : List Cell} {r t : List UInt8} (h : stk.map kd = r ++ t) : ∃ rest top, stk = rest ++ top ∧ rest.map kd = r ∧ top.map kd = t := by
 obtain ⟨a, b, h1, h2, h3⟩ := List.map_eq_append_iff.1 h
 exact ⟨a, b, h1, h2, h3⟩
theorem Inv.ready {E : Env} {s : St} (h : Inv E.mo s.frs) : ∃ low fr i rest top, Ready E s low fr i rest top ∧ fr.stk.length ≤ 1024 ∧
  (far i.op = true → FrFit E.mo fr.f i.a (rest.map kd)) ∧ (halts i.op = false → FrFit E.mo fr.f i.nx (rest.map kd ++ give i.op (top.map kd))) ∧ mayOp fr.f i.op = true := by
 obtain ⟨low, fr, hs⟩ := h.split
 obtain ⟨⟨l, G, hr, hG, hf⟩, hh⟩ := h.on fr (by rw [hs]; simp)
 obtain ⟨i, o, r, h1, h2, h3, h4, h5, h6⟩ := fits_step hr hG hf
 obtain ⟨top, e1, e2, e3, e4⟩ := after_shape h4
 obtain ⟨rest, tp, f1, f2, f3⟩ := map_kd_split e1
 subst f2 f3
 obtain ⟨-, -, -, -, hm⟩ := decodeL_next h1 h2
 refine ⟨low, fr, i, rest, tp, ⟨hs, h1, h2, f1, e2, ?_⟩, hh, ?_, ?_, hm⟩
 ·have := e4
  rw [e3] at this
  simpa using this
 ·intro hfar
  exact ⟨l, G, hr, hG, h5 hfar⟩
 ·intro hh2
  rw [← e3]
  exact ⟨l, G, hr, hG, h6 hh2⟩
theorem give_50 (t : List UInt8) : give 50 t = [97] := rfl
theorem leS_map_append {rest top : List Cell} {t : List UInt8} (h : leS (top.map kd) t) : leS ((rest ++ top).map kd) (rest.map kd ++ t) := by
 rw [List.map_append]
 exact leS_append (leS_refl _) h
theorem eff_locs {E : Env} {w : Wd} {locs : List Val} {op a b : Nat} {top : List Cell} : (eff E w locs op a b top).locs.length = locs.length := by
 unfold eff
 split <;> (try rfl)
 ·simp [Eff.off]
 ·split <;> (try split) <;> rfl
 ·split <;> rfl
 ·split <;> rfl
 ·split <;> rfl
 ·split <;> rfl
 ·split <;> rfl
 ·split <;> rfl
theorem inv_enter {m : Mo} {f : Nat} (hf : f < 3) (hm : f < m.fns.length) (h : FnOk m f) : Inv m [enter m f []] where
 some_ := by simp
 kinds := by
  intro i g hi
  cases i with
  | zero =>
   simp only [List.getElem?_cons_zero, Option.some.injEq] at hi
   subst hi
   simp [enter, hf]
  | succ i => simp at hi
 fns := by
  intro g hg
  simp only [List.mem_singleton] at hg
  subst hg
  simp [enter, hm]
 on := by
  intro g hg
  simp only [List.getLast?_singleton, Option.some.injEq] at hg
  subst hg
  exact ⟨by simpa [enter] using h.begin, by simp [enter]⟩
 low := by
  intro g hg
  simp at hg
theorem Inv.change {m : Mo} {low : List Frm} {fr fr' : Frm} (h : Inv m (low ++ [fr])) (hf : fr'.f = fr.f) (hl : fr'.locs.length = fr.locs.length) (hfit : FrFit m fr'.f fr'.at_ (fr'.stk.map kd)) (hh : fr'.stk.length ≤ 1024) : Inv m (low ++ [fr']) where
 some_ := by simp
 kinds := by
  intro i g hi
  rcases Nat.lt_trichotomy i low.length with c | c | c
  ·rw [List.getElem?_append_left c] at hi
   exact h.kinds i g (by rw [List.getElem?_append_left c]; exact hi)
  ·subst c
   rw [List.getElem?_append_right (Nat.le_refl _)] at hi
   simp only [Nat.sub_self, List.getElem?_cons_zero, Option.some.injEq] at hi
   subst hi
   rw [hf]
   exact h.kinds low.length fr (by rw [List.getElem?_append_right (Nat.le_refl _)]; simp)
  ·rw [List.getElem?_append_right (Nat.le_of_lt c)] at hi
   have : i - low.length ≠ 0 := by omega
   obtain ⟨k, hk⟩ : ∃ k, i - low.length = k + 1 := ⟨i - low.length - 1, by omega⟩
   rw [hk] at hi
   simp at hi
 fns := by
  intro g hg
  rcases List.mem_append.1 hg with hg | hg
  ·exact h.fns g (List.mem_append.2 (Or.inl hg))
  ·simp only [List.mem_singleton] at hg
   subst hg
   have := h.fns fr (by simp)
   rw [hf, hl]
   exact this
 on := by
  intro g hg
  simp only [List.getLast?_append, List.getLast?_singleton, Option.some_or, Option.some.injEq] at hg
  subst hg
  exact ⟨hfit, hh⟩
 low := by
  intro g hg
  have := h.low g
  simp only [List.dropLast_concat] at hg this
  exact this hg
theorem Inv.call {m : Mo} {low : List Frm} {fr fr' : Frm} {f : Nat} {args : List Val} (h : Inv m (low ++ [fr])) (hf : fr'.f = fr.f) (hl : fr'.locs.length = fr.locs.length) (hfit : FrFit m fr'.f fr'.at_ (fr'.stk.map kd ++ [97])) (hh : fr'.stk.length + 1 ≤ 1024)
  (h3 : 3 ≤ f) (hm : f < m.fns.length) (ha : args.length ≤ locsOf m f) (hok : FnOk m f) : Inv m (low ++ [fr', enter m f args]) where
 some_ := by simp
 kinds := by
  intro i g hi
  rcases Nat.lt_or_ge i (low.length) with c | c
  ·rw [List.getElem?_append_left c] at hi
   exact h.kinds i g (by rw [List.getElem?_append_left c]; exact hi)
  ·rw [List.getElem?_append_right c] at hi
   rcases Nat.eq_or_lt_of_le c with c | c
   ·rw [← c] at hi ⊢
    simp only [Nat.sub_self, List.getElem?_cons_zero, Option.some.injEq] at hi
    subst hi
    rw [hf]
    exact h.kinds low.length fr (by rw [List.getElem?_append_right (Nat.le_refl _)]; simp)
   ·obtain ⟨k, hk⟩ : ∃ k, i - low.length = k + 1 := ⟨i - low.length - 1, by omega⟩
    rw [hk, List.getElem?_cons_succ] at hi
    cases k with
    | zero =>
     simp only [List.getElem?_cons_zero, Option.some.injEq] at hi
     subst hi
     simp only [enter]
     omega
    | succ k => simp at hi
 fns := by
  intro g hg
  rcases List.mem_append.1 hg with hg | hg
  ·exact h.fns g (List.mem_append.2 (Or.inl hg))
  ·simp only [List.mem_cons, List.not_mem_nil, or_false] at hg
   rcases hg with rfl | rfl
   ·have := h.fns fr (by simp)
    rw [hf, hl]
    exact this
   ·refine ⟨hm, ?_⟩
    simp only [enter, List.length_append, List.length_replicate]
    omega
 on := by
  intro g hg
  have e : low ++ [fr', enter m f args] = (low ++ [fr']) ++ [enter m f args] := by simp
  rw [e] at hg
  simp only [List.getLast?_append, List.getLast?_singleton, Option.some_or, Option.some.injEq] at hg
  subst hg
  exact ⟨by simpa [enter] using hok.begin, by simp [enter]⟩
 low := by
  intro g hg
  have e : low ++ [fr', enter m f args] = (low ++ [fr']) ++ [enter m f args] := by simp
  rw [e, List.dropLast_concat] at hg
  rcases List.mem_append.1 hg with hg | hg
  ·have := h.low g
   simp only [List.dropLast_concat] at this
   exact this hg
  ·simp only [List.mem_singleton] at hg
   subst hg
   exact ⟨hfit, hh⟩
theorem Inv.ret {m : Mo} {low : List Frm} {g fr : Frm} {c : Cell} (h : Inv m (low ++ [g] ++ [fr])) (hc : le (kd c) 97) : Inv m (low ++ [⟨g.f, g.at_, g.locs, g.stk ++ [c]⟩]) := by
 have hg := h.low g (by simp)
 have h' : Inv m (low ++ [⟨g.f, g.at_, g.locs, g.stk ++ [c]⟩]) := {
  some_ := by simp
  kinds := by
   intro i x hi
   rcases Nat.lt_or_ge i low.length with d | d
   ·rw [List.getElem?_append_left d] at hi
    exact h.kinds i x (by rw [List.append_assoc, List.getElem?_append_left d]; exact hi)
   ·rw [List.getElem?_append_right d] at hi
    rcases Nat.eq_or_lt_of_le d with d | d
    ·rw [← d] at hi ⊢
     simp only [Nat.sub_self, List.getElem?_cons_zero, Option.some.injEq] at hi
     subst hi
     exact h.kinds low.length g (by rw [List.append_assoc, List.getElem?_append_right (Nat.le_refl _)]; simp)
    ·obtain ⟨k, hk⟩ : ∃ k, i - low.length = k + 1 := ⟨i - low.length - 1, by omega⟩
     rw [hk] at hi
     simp at hi
  fns := by
   intro x hx
   rcases List.mem_append.1 hx with hx | hx
   ·exact h.fns x (by simp [hx])
   ·simp only [List.mem_singleton] at hx
    subst hx
    exact h.fns g (by simp)
  on := by
   intro x hx
   simp only [List.getLast?_append, List.getLast?_singleton, Option.some_or, Option.some.injEq] at hx
   subst hx
   refine ⟨hg.1.lower ?_, by simpa using hg.2⟩
   rw [List.map_append]
   exact leS_append (leS_refl _) ⟨hc, trivial⟩
  low := by
   intro x hx
   simp only [List.dropLast_concat] at hx
   exact h.low x (by simp [hx]) }
 exact h'
theorem Inv.does {E : Env} {s : St} {low : List Frm} {fr : Frm} {i : Stp} {rest top : List Cell} (hI : Inv E.mo s.frs) (hF : ∀ f, f < E.mo.fns.length → FnOk E.mo f) (h3 : 3 ≤ E.mo.fns.length)
    (hpar : ∀ f, f < E.mo.fns.length → parOf E.mo f ≤ locsOf E.mo f) (hcall : i.op = 50 → 3 ≤ i.a ∧ i.a < E.mo.fns.length)
    (hR : Ready E s low fr i rest top) (hst : (does E s low fr i rest top).st = 0) : Inv E.mo (does E s low fr i rest top).frs := by
  obtain ⟨low', fr', i', rest', top', hR', hh, hfar, hgo, hm⟩ := hI.ready
  obtain ⟨rfl, rfl, rfl, rfl, rfl⟩ := hR.unique hR'
  have hI' := hI
  rw [hR.frs] at hI'
  have hop := mayOp_lt hm
  have hhigh := hR.high
  revert hst
  unfold Mach.does
  split
  · rename_i h50
    split
    · intro hst; cases hst
    · intro hst
      obtain ⟨ha1, ha2⟩ := hcall h50
      have hg := hgo (by rw [h50]; rfl)
      rw [h50, give_50] at hg hhigh
      refine hI'.call (fr' := ⟨fr.f, i.nx, fr.locs, rest⟩) rfl rfl hg (by simpa using hhigh) ha1 ha2 ?_ (hF _ ha2)
      have hl := leS_length hR.takes
      rw [List.length_map, h50] at hl
      have : (want (parOf E.mo) 50 i.a).length = parOf E.mo i.a := by simp [want]
      rw [List.length_map, hl, this]
      exact hpar _ ha2
  · rename_i h50
    split
    · rename_i h51
      intro hst
      rcases List.eq_nil_or_concat low with h0 | ⟨low2, g, h0⟩
      · subst h0
        have := (hI'.kinds 0 fr (by simp)).1 rfl
        unfold mayOp at hm
        rw [h51] at hm
        simp [this] at hm
      · have h0' : low = low2 ++ [g] := by simpa using h0
        subst h0'
        simp only [List.getLast?_append, List.getLast?_singleton, Option.some_or, List.dropLast_concat]
        exact hI'.ret (kd_any _)
    · rename_i h51
      split
      · rename_i h52
        intro hst
        unfold over at hst ⊢
        split
        · rename_i h2
          rw [if_pos h2] at hst
          cases hst
        · split
          · exact inv_enter (by omega) (by omega) (hF 1 (by omega))
          · exact inv_enter (by omega) (by omega) (hF 2 (by omega))
      · rename_i h52
        split
        · rename_i hne
          intro hst
          exact absurd hst hne
        · rename_i he
          intro hst
          have he' : (eff E s.w fr.locs i.op i.a i.b top).st = 0 := by
            rcases Nat.eq_zero_or_pos (eff E s.w fr.locs i.op i.a i.b top).st with c | c
            · exact c
            · exact absurd (show (eff E s.w fr.locs i.op i.a i.b top).st ≠ 0 by omega) he
          rcases eff_kinds hop h50 h51 h52 hR.takes he' with ⟨e1, e2, e3⟩ | ⟨e1, e2, e3⟩
          · refine hI'.change rfl eff_locs ?_ ?_
            · rw [e1]
              exact (hgo e2).lower (leS_map_append e3)
            · have := leS_length e3
              rw [List.length_map] at this
              simp only [List.length_append]
              omega
          · refine hI'.change rfl eff_locs ?_ ?_
            · rw [e2, e3, List.append_nil]
              exact hfar e1
            · rw [e3, List.append_nil]
              have := hR.stk
              rw [this] at hh
              simp only [List.length_append] at hh
              simp only
              omega
end Mach
end Go.Proofs.YtmolfmgchbjnbaaGreatDoor
namespace Go.Proofs.YtmolfmgchbjnbaaGreatDoor
namespace Mach
open Wire Flow
structure SmV (v : Val) : Prop where
 lo : -1000000000 ≤ v.n
 hi : v.n ≤ 1000000000
 sz : v.s.size ≤ 100
def SmC (c : Cell) : Prop := SmV c.v ∧ ∀ k ∈ c.keys, k.size ≤ 100
structure SmA (a : List (ByteArray × Val)) : Prop where
 len : a.length ≤ 30
 once : (keysA a).Nodup
 each : ∀ e ∈ a, e.1.size ≤ 100 ∧ SmV e.2
structure SmW (w : Wd) : Prop where
 recs : ∀ s ∈ w.recs, s.size ≤ 100
 nr : w.nr ≤ w.recs.length
 nrec : w.recs.length ≤ 50
 draws : ∀ n ∈ w.draws, -1000000000 ≤ n ∧ n ≤ 1000000000
 ndr : w.draws.length ≤ 50
 drawn : w.drawn ≤ w.draws.length
 rcd : w.rcd.size ≤ 100
 flds : ∀ s ∈ w.flds, s.size ≤ 100
 nf : w.flds.length ≤ 100
 out : w.out.size ≤ 1000
 globs : ∀ v ∈ w.globs, SmV v
 arrs : ∀ a ∈ w.arrs, SmA a
structure SmE (E : Env) : Prop where
 texts : ∀ s ∈ E.mo.texts, s.size ≤ 100
 fnd : ∀ p s, s.size ≤ 100 → -1 ≤ (E.fnd p s).1 ∧ (E.fnd p s).1 ≤ 100 ∧ 0 ≤ (E.fnd p s).2 ∧ (E.fnd p s).2 ≤ 100
 spl : ∀ p s, s.size ≤ 100 → ∀ t ∈ E.spl p s, t.size ≤ 100
 itoa : ∀ n, -1000000000 ≤ n → n ≤ 1000000000 → (E.itoa n).size ≤ 100
 inj : ∀ i j : Nat, i ≤ 30 → j ≤ 30 → E.itoa (i : Int) = E.itoa (j : Int) → i = j
 wr : ∀ n : Int, -2000000000000000000 ≤ n → n ≤ 2000000000000000000 → E.wr n = n
theorem smV_nothing : SmV nothing := ⟨by decide, by decide, by decide⟩
theorem smV_words {s : ByteArray} (h : s.size ≤ 100) : SmV (words s) := ⟨by simp [words], by simp [words], h⟩
theorem smV_whole {n : Int} (h1 : -1000000000 ≤ n) (h2 : n ≤ 1000000000) : SmV (whole n) := ⟨h1, h2, (by decide : none0.size ≤ 100)⟩
theorem smV_read {s : ByteArray} (h : s.size ≤ 100) : SmV (readV s) := by
 unfold readV
 split
 ·exact ⟨by simp, by simp, h⟩
 ·exact smV_words h
theorem smC_cv {v : Val} (h : SmV v) : SmC (cv v) := ⟨h, by simp [cv]⟩
theorem smC_c0 : SmC c0 := smC_cv smV_nothing
theorem clamp_sm (n : Int) : -1000000000 ≤ clampN n ∧ clampN n ≤ 1000000000 := by
 unfold clampN
 split
 ·omega
 ·split <;> omega
theorem numV_sm {v : Val} (h : SmV v) : -1000000000 ≤ numV v ∧ numV v ≤ 1000000000 := by
 unfold numV
 split
 ·omega
 ·split
  ·exact ⟨h.lo, h.hi⟩
  ·exact clamp_sm _
theorem textV_sm {E : Env} (hE : SmE E) {v : Val} (h : SmV v) : (textV E v).size ≤ 100 := by
 unfold textV
 split
 ·decide
 ·split
  ·exact hE.itoa _ h.lo h.hi
  ·exact h.sz
theorem truth_sm (b : Bool) : SmV (whole (truth b)) := by
 unfold truth
 split
 ·exact smV_whole (by omega) (by omega)
 ·exact smV_whole (by omega) (by omega)
theorem getD_sm {l : List Val} (h : ∀ v ∈ l, SmV v) (i : Nat) : SmV (l.getD i nothing) := by
 rw [List.getD_eq_getElem?_getD]
 rcases hq : l[i]? with _ | v
 ·exact smV_nothing
 ·exact h v (List.mem_of_getElem? hq)
theorem set_sm {l : List Val} (h : ∀ v ∈ l, SmV v) (i : Nat) {v : Val} (hv : SmV v) : ∀ x ∈ l.set i v, SmV x := by
 intro x hx
 rcases List.mem_or_eq_of_mem_set hx with hx | rfl
 ·exact h x hx
 ·exact hv
theorem arr_sm {l : List (List (ByteArray × Val))} (h : ∀ a ∈ l, SmA a) (i : Nat) : SmA (l.getD i []) := by
 rw [List.getD_eq_getElem?_getD]
 rcases hq : l[i]? with _ | v
 ·exact ⟨by simp, by simp [keysA], by simp⟩
 ·exact h v (List.mem_of_getElem? hq)
theorem set_arr {l : List (List (ByteArray × Val))} (h : ∀ a ∈ l, SmA a) (i : Nat) {b : List (ByteArray × Val)} (hb : SmA b) : ∀ x ∈ l.set i b, SmA x := by
 intro x hx
 rcases List.mem_or_eq_of_mem_set hx with hx | rfl
 ·exact h x hx
 ·exact hb
theorem hasK_iff {a : List (ByteArray × Val)} {k : ByteArray} : hasK a k = true ↔ k ∈ keysA a := by
 unfold hasK keysA
 rw [List.any_eq_true, List.mem_map]
 constructor
 ·rintro ⟨e, he, h⟩
  exact ⟨e, he, of_decide_eq_true h⟩
 ·rintro ⟨e, he, h⟩
  exact ⟨e, he, decide_eq_true h⟩
theorem keys_setK_has {a : List (ByteArray × Val)} {k : ByteArray} {v : Val} (h : hasK a k = true) : keysA (setK a k v) = keysA a := by
 rw [hasK_iff] at h
 induction a with
 | nil => simp [keysA] at h
 | cons e a ih =>
  simp only [setK]
  split
  ·rename_i he
   simp [keysA, he]
  ·rename_i he
   have : k ∈ keysA a := by
    simp only [keysA, List.map_cons, List.mem_cons] at h
    rcases h with h | h
    ·exact absurd h.symm he
    ·exact h
   have := ih this
   simp only [keysA, List.map_cons] at this ⊢
   rw [this]
theorem setK_new {a : List (ByteArray × Val)} {k : ByteArray} {v : Val} (h : hasK a k = false) : setK a k v = a ++ [(k, v)] := by
 have h' : k ∉ keysA a := by
  intro hm
  rw [hasK_iff.2 hm] at h
  cases h
 clear h
 induction a with
 | nil => rfl
 | cons e a ih =>
  simp only [setK]
  simp only [keysA, List.map_cons, List.mem_cons, not_or] at h'
  rw [if_neg (fun q => h'.1 q.symm), ih h'.2]
  rfl
theorem setK_mem {a : List (ByteArray × Val)} {k : ByteArray} {v : Val} {e : ByteArray × Val} (h : e ∈ setK a k v) : e ∈ a ∨ e = (k, v) := by
 induction a with
 | nil => exact Or.inr (by simpa [setK] using h)
 | cons x a ih =>
  simp only [setK] at h
  split at h
  ·rcases List.mem_cons.1 h with h | h
   ·exact Or.inr h
   ·exact Or.inl (List.mem_cons_of_mem _ h)
  ·rcases List.mem_cons.1 h with h | h
   ·exact Or.inl (by rw [h]; exact List.mem_cons_self)
   ·rcases ih h with h | h
    ·exact Or.inl (List.mem_cons_of_mem _ h)
    ·exact Or.inr h
theorem setK_sm {a : List (ByteArray × Val)} (h : SmA a) {k : ByteArray} (hk : k.size ≤ 100) {v : Val} (hv : SmV v) (hf : hasK a k = true ∨ a.length < 30) : SmA (setK a k v) := by
 have he : ∀ e ∈ setK a k v, e.1.size ≤ 100 ∧ SmV e.2 := by
  intro e he
  rcases setK_mem he with he | rfl
  ·exact h.each e he
  ·exact ⟨hk, hv⟩
 cases hh : hasK a k with
 | true =>
  have e1 := keys_setK_has (v := v) hh
  refine ⟨?_, by rw [e1]; exact h.once, he⟩
  have : (keysA (setK a k v)).length = (keysA a).length := by rw [e1]
  simp only [keysA, List.length_map] at this
  rw [this]
  exact h.len
 | false =>
  have e1 := setK_new (v := v) hh
  refine ⟨?_, ?_, he⟩
  ·rw [e1, List.length_append]
   rcases hf with hf | hf
   ·rw [hh] at hf; cases hf
   ·simp; omega
  ·rw [e1]
   have : keysA (a ++ [(k, v)]) = keysA a ++ [k] := by simp [keysA]
   rw [this, List.nodup_append]
   refine ⟨h.once, by simp, ?_⟩
   intro x hx y hy
   simp only [List.mem_singleton] at hy
   subst hy
   rintro rfl
   rw [hasK_iff.2 hx] at hh
   cases hh
theorem dropK_sm {a : List (ByteArray × Val)} (h : SmA a) (k : ByteArray) : SmA (dropK a k) := by
 refine ⟨Nat.le_trans (List.length_filter_le _ _) h.len, ?_, ?_⟩
 ·exact List.Nodup.sublist (List.Sublist.map _ List.filter_sublist) h.once
 ·intro e he
  exact h.each e (List.mem_filter.1 he).1
theorem getK_sm {a : List (ByteArray × Val)} (h : ∀ e ∈ a, e.1.size ≤ 100 ∧ SmV e.2) (k : ByteArray) : SmV (getK a k) := by
 induction a with
 | nil => exact smV_nothing
 | cons e a ih =>
  simp only [getK]
  split
  ·exact (h e List.mem_cons_self).2
  ·exact ih fun x hx => h x (List.mem_cons_of_mem _ hx)
theorem fillA_length (E : Env) (i : Nat) (l : List ByteArray) : (fillA E i l).length = l.length := by
 induction l generalizing i with
 | nil => rfl
 | cons s l ih => simp [fillA, ih]
theorem fillA_keys {E : Env} {i : Nat} {l : List ByteArray} {k : ByteArray} (h : k ∈ keysA (fillA E i l)) : ∃ j, i < j ∧ j ≤ i + l.length ∧ k = E.itoa (j : Int) := by
 induction l generalizing i with
 | nil => simp [fillA, keysA] at h
 | cons s l ih =>
  simp only [fillA, keysA, List.map_cons, List.mem_cons] at h
  rcases h with h | h
  ·exact ⟨i + 1, by omega, by simp only [List.length_cons]; omega, by rw [h]; rfl⟩
  ·obtain ⟨j, h1, h2, h3⟩ := ih h
   exact ⟨j, by omega, by simp only [List.length_cons]; omega, h3⟩
theorem fillA_sm {E : Env} (hE : SmE E) {l : List ByteArray} (hl : ∀ t ∈ l, t.size ≤ 100) {i : Nat} (hn : i + l.length ≤ 30) : (keysA (fillA E i l)).Nodup ∧ ∀ e ∈ fillA E i l, e.1.size ≤ 100 ∧ SmV e.2 := by
 induction l generalizing i with
 | nil => simp [fillA, keysA]
 | cons s l ih =>
  simp only [List.length_cons] at hn
  obtain ⟨h1, h2⟩ := ih (fun t ht => hl t (List.mem_cons_of_mem _ ht)) (i := i + 1) (by omega)
  refine ⟨?_, ?_⟩
  ·simp only [fillA, keysA, List.map_cons, List.nodup_cons]
   refine ⟨?_, h1⟩
   intro hm
   obtain ⟨j, g1, g2, g3⟩ := fillA_keys (E := E) (i := i + 1) (l := l) hm
   have := hE.inj (i + 1) j (by omega) (by omega) (by rw [← g3]; congr 1)
   omega
  ·intro e he
   simp only [fillA, List.mem_cons] at he
   rcases he with rfl | he
   ·exact ⟨hE.itoa _ (by omega) (by omega), smV_read (hl s List.mem_cons_self)⟩
   ·exact h2 e he
theorem fields_sm {f l : List UInt8} : ∀ t ∈ fieldsL f l, t.size ≤ f.length + l.length := by
 induction l generalizing f with
 | nil =>
  intro t ht
  simp only [fieldsL] at ht
  split at ht
  ·simp at ht
  ·simp only [List.mem_singleton] at ht
   subst ht
   simp [ByteArray.size]
 | cons c l ih =>
  intro t ht
  simp only [fieldsL] at ht
  split at ht
  ·split at ht
   ·have := ih t ht
    simp at this ⊢
    omega
   ·rcases List.mem_cons.1 ht with rfl | ht
    ·simp [ByteArray.size]
    ·have := ih t ht
     simp at this ⊢
     omega
  ·have := ih t ht
   simp at this ⊢
   omega
theorem fields_count {f l : List UInt8} : (fieldsL f l).length ≤ l.length + 1 ∧ (f = [] → (fieldsL f l).length ≤ l.length) := by
 induction l generalizing f with
 | nil =>
  simp only [fieldsL]
  split
  ·simp
  ·rename_i h
   simp [h]
 | cons c l ih =>
  simp only [fieldsL]
  split
  ·split
   ·rename_i h0
    have := (ih (f := [])).2 rfl
    refine ⟨by simp; omega, fun _ => by simp; omega⟩
   ·rename_i h0
    have := (ih (f := [])).2 rfl
    refine ⟨by simp; omega, fun h => absurd h h0⟩
  ·have := (ih (f := f ++ [c])).1
   refine ⟨by simp; omega, fun _ => by simp; omega⟩
theorem cutF_sm {s : ByteArray} (h : s.size ≤ 100) : (∀ t ∈ cutF s, t.size ≤ 100) ∧ (cutF s).length ≤ 100 := by
 have hb : (bl s).length = s.size := Array.length_toList
 refine ⟨?_, ?_⟩
 ·intro t ht
  have := fields_sm t ht
  simp at this
  omega
 ·have := (fields_count (f := []) (l := bl s)).2 rfl
  unfold cutF
  omega
theorem part_length (m e : Int) (i : Nat) (l : List UInt8) : (partL m e i l).length ≤ l.length := by
 induction l generalizing i with
 | nil => simp [partL]
 | cons c l ih =>
  simp only [partL]
  have := ih (i + 1)
  split <;> simp <;> omega
theorem index_le (t : List UInt8) (i : Nat) (s : List UInt8) : indexL t i s ≤ i + s.length + 1 := by
 induction s generalizing i with
 | nil =>
  unfold indexL
  split <;> simp
 | cons c s ih =>
  unfold indexL
  split
  ·simp
  ·have := ih (i + 1)
   simp only [List.length_cons]
   omega
theorem signed_sm {a : Nat} (h : a < 2000000001) : -1000000000 ≤ signedN a ∧ signedN a ≤ 1000000000 := by
 unfold signedN
 split <;> omega
theorem tdiv_sm {x y : Int} (h1 : -1000000000 ≤ x) (h2 : x ≤ 1000000000) (hy : y ≠ 0) : -1000000000 ≤ x.tdiv y ∧ x.tdiv y ≤ 1000000000 := by
 have h := Int.natAbs_tdiv_le_natAbs x y
 omega
theorem sum_sm {E : Env} (hE : SmE E) {op : Nat} {x y : Int} : -1000000000 ≤ (sumOp E op x y).1 ∧ (sumOp E op x y).1 ≤ 1000000000 := by
 unfold sumOp
 split
 ·simp
 ·simp only
  generalize (if op = 18 then E.wr (x + y) else if op = 19 then E.wr (x - y) else if op = 20 then E.wr (x * y) else if op = 21 then E.wr (x.tdiv y) else E.wr (x - E.wr (E.wr (x.tdiv y) * y))) = n
  split
  ·simp
  ·rename_i h
   simp only
   omega
theorem putF_mem {l : List ByteArray} {n : Nat} {s t : ByteArray} (h : t ∈ putF l n s) : t ∈ l ∨ t = none0 ∨ t = s := by
 unfold putF at h
 rcases List.mem_or_eq_of_mem_set h with h | h
 ·rcases List.mem_append.1 h with h | h
  ·exact Or.inl h
  ·exact Or.inr (Or.inl (List.eq_of_mem_replicate h))
 ·exact Or.inr (Or.inr h)
theorem putF_length (l : List ByteArray) (n : Nat) (s : ByteArray) : (putF l n s).length = max l.length n := by
 unfold putF
 simp only [List.length_set, List.length_append, List.length_replicate]
 omega
theorem nextR_sm {w : Wd} (h : SmW w) : SmW (nextR w).1 := by
 unfold nextR
 split
 ·exact h
 ·rename_i s hs
  have hm := List.mem_of_getElem? hs
  have hl : w.nr < w.recs.length := by
   rw [List.getElem?_eq_some_iff] at hs
   exact hs.1
  obtain ⟨c1, c2⟩ := cutF_sm (h.recs s hm)
  exact { h with nr := hl, rcd := h.recs s hm, flds := c1, nf := c2 }
theorem setField_sm {w : Wd} (h : SmW w) (n : Int) {s : ByteArray} (hs : s.size ≤ 100) : SmW (setFieldW w n s).1 := by
 unfold setFieldW
 split
 ·exact h
 ·rename_i hn
  split
  ·obtain ⟨c1, c2⟩ := cutF_sm hs
   exact { h with rcd := hs, flds := c1, nf := c2 }
  ·split
   ·exact h
   ·rename_i hj
    refine { h with rcd := ?_, flds := ?_, nf := ?_ }
    ·simp only [ByteArray.size, List.size_toArray]
     omega
    ·intro t ht
     rcases putF_mem ht with ht | rfl | rfl
     ·exact h.flds t ht
     ·decide
     ·exact hs
    ·simp only [putF_length]
     have := h.nf
     omega
theorem print_sm {w : Wd} (h : SmW w) (l : List ByteArray) : SmW (printW w l).1 := by
 unfold printW
 split
 ·exact h
 ·rename_i hn
  refine { h with out := ?_ }
  show (w.out.data ++ (joinF l ++ [10]).toArray).size ≤ 1000
  have e : w.out.size = w.out.data.size := rfl
  simp only [Array.size_append, List.size_toArray, List.length_append, List.length_cons, List.length_nil]
  omega
theorem field_sm {w : Wd} (h : SmW w) (n : Int) : SmV (fieldW w n).1 := by
 unfold fieldW
 split
 ·exact smV_nothing
 ·split
  ·exact smV_read h.rcd
  ·split
   ·refine smV_read ?_
    rw [List.getD_eq_getElem?_getD]
    rcases hq : w.flds[n.toNat - 1]? with _ | s
    ·decide
    ·exact h.flds s (List.mem_of_getElem? hq)
   ·exact smV_nothing
theorem cell_sm {top : List Cell} (h : ∀ c ∈ top, SmC c) (i : Nat) : SmC (top.getD i c0) := by
 rw [List.getD_eq_getElem?_getD]
 rcases hq : top[i]? with _ | c
 ·exact smC_c0
 ·exact h c (List.mem_of_getElem? hq)
theorem nextK_mem {a : List (ByteArray × Val)} {l : List ByteArray} {k : ByteArray} {r : List ByteArray} (h : nextK a l = some (k, r)) : k ∈ l ∧ ∀ x ∈ r, x ∈ l := by
 induction l with
 | nil => cases h
 | cons x l ih =>
  simp only [nextK] at h
  split at h
  ·simp only [Option.some.injEq, Prod.mk.injEq] at h
   obtain ⟨rfl, rfl⟩ := h
   exact ⟨List.mem_cons_self, fun y hy => List.mem_cons_of_mem _ hy⟩
  ·obtain ⟨h1, h2⟩ := ih h
   exact ⟨List.mem_cons_of_mem _ h1, fun y hy => List.mem_cons_of_mem _ (h2 y hy)⟩
theorem one_sm {c : Cell} (h : SmC c) : ∀ x ∈ [c], SmC x := by
 intro x hx
 simp only [List.mem_singleton] at hx
 subst hx
 exact h
theorem eff_sm {E : Env} (hE : SmE E) {w : Wd} (h : SmW w) {locs : List Val} (hl : ∀ v ∈ locs, SmV v) : ∀ {op a b : Nat} {top : List Cell}, op < 54 → (op = 0 → a < 2000000001) → (∀ c ∈ top, SmC c) →
  SmW (eff E w locs op a b top).w ∧ (∀ v ∈ (eff E w locs op a b top).locs, SmV v) ∧ ∀ c ∈ (eff E w locs op a b top).top, SmC c := by
 intro op a b top hop ha ht
 match op, hop with
 | 0, _ =>
  exact ⟨h, hl, one_sm (smC_cv (smV_whole (signed_sm (ha rfl)).1 (signed_sm (ha rfl)).2))⟩
 | 1, _ =>
  refine ⟨h, hl, one_sm (smC_cv (smV_words ?_))⟩
  rw [List.getD_eq_getElem?_getD]
  rcases hq : E.mo.texts[a]? with _ | s
  ·decide
  ·exact hE.texts s (List.mem_of_getElem? hq)
 | 2, _ =>
  exact ⟨h, hl, one_sm (smC_cv smV_nothing)⟩
 | 3, _ =>
  exact ⟨h, hl, one_sm (smC_cv (getD_sm hl a))⟩
 | 4, _ =>
  exact ⟨h, set_sm hl a (cell_sm ht 0).1, by simp [eff, Eff.off]⟩
 | 5, _ =>
  exact ⟨h, hl, one_sm (smC_cv (getD_sm h.globs a))⟩
 | 6, _ =>
  exact ⟨{ h with globs := set_sm h.globs a (cell_sm ht 0).1 }, hl, by simp [eff, Eff.off]⟩
 | 7, _ =>
  exact ⟨h, hl, one_sm (smC_cv (field_sm h _))⟩
 | 8, _ =>
  exact ⟨setField_sm h _ (textV_sm hE (cell_sm ht 1).1), hl, by simp [eff, Eff.off]⟩
 | 9, _ =>
  have := h.nf
  exact ⟨h, hl, one_sm (smC_cv (smV_whole (by omega) (by omega)))⟩
 | 10, _ =>
  have := h.nr
  have := h.nrec
  exact ⟨h, hl, one_sm (smC_cv (smV_whole (by omega) (by omega)))⟩
 | 11, _ =>
  have hA := arr_sm h.arrs a
  simp only [eff]
  split
  ·exact ⟨h, hl, one_sm (smC_cv (getK_sm hA.each _))⟩
  ·split
   ·exact ⟨h, hl, by simp [Eff.bad]⟩
   ·rename_i h2
    exact ⟨{ h with arrs := set_arr h.arrs a (setK_sm hA (cell_sm ht 0).1.sz smV_nothing (Or.inr (by omega))) }, hl, one_sm (smC_cv smV_nothing)⟩
 | 12, _ =>
  have hA := arr_sm h.arrs a
  simp only [eff]
  split
  ·exact ⟨h, hl, by simp [Eff.bad]⟩
  ·rename_i h2
   refine ⟨{ h with arrs := set_arr h.arrs a (setK_sm hA (cell_sm ht 0).1.sz (cell_sm ht 1).1 ?_) }, hl, by simp [Eff.off]⟩
   cases hh : hasK (w.arrs.getD a []) (top.getD 0 c0).v.s with
   | true => exact Or.inl rfl
   | false =>
    rw [hh] at h2
    simp only [true_and] at h2
    exact Or.inr (by omega)
 | 13, _ =>
  exact ⟨h, hl, one_sm (smC_cv (truth_sm _))⟩
 | 14, _ =>
  exact ⟨{ h with arrs := set_arr h.arrs a (dropK_sm (arr_sm h.arrs a) _) }, hl, by simp [eff, Eff.off]⟩
 | 15, _ =>
  exact ⟨{ h with arrs := set_arr h.arrs a ⟨by simp, by simp [keysA], by simp⟩ }, hl, by simp [eff, Eff.off]⟩
 | 16, _ =>
  have hA := arr_sm h.arrs a
  refine ⟨h, hl, one_sm ⟨smV_nothing, ?_⟩⟩
  intro k hk
  obtain ⟨e, he, rfl⟩ := List.mem_map.1 hk
  exact (hA.each e he).1
 | 17, _ =>
  simp only [eff]
  split
  ·exact ⟨h, hl, by simp⟩
  ·rename_i k l hn
   obtain ⟨n1, n2⟩ := nextK_mem hn
   have hc := cell_sm ht 0
   refine ⟨h, hl, ?_⟩
   intro c hc'
   simp only [List.mem_cons, List.not_mem_nil, or_false] at hc'
   rcases hc' with rfl | rfl
   ·exact ⟨hc.1, fun x hx => hc.2 x (n2 x hx)⟩
   ·exact smC_cv (smV_words (hc.2 k n1))
 | 18, _ =>
  exact ⟨h, hl, one_sm (smC_cv (smV_whole (sum_sm hE).1 (sum_sm hE).2))⟩
 | 19, _ =>
  exact ⟨h, hl, one_sm (smC_cv (smV_whole (sum_sm hE).1 (sum_sm hE).2))⟩
 | 20, _ =>
  exact ⟨h, hl, one_sm (smC_cv (smV_whole (sum_sm hE).1 (sum_sm hE).2))⟩
 | 21, _ =>
  exact ⟨h, hl, one_sm (smC_cv (smV_whole (sum_sm hE).1 (sum_sm hE).2))⟩
 | 22, _ =>
  exact ⟨h, hl, one_sm (smC_cv (smV_whole (sum_sm hE).1 (sum_sm hE).2))⟩
 | 23, _ =>
  have h1 := (cell_sm ht 0).1
  have hw : E.wr (-(top.getD 0 c0).v.n) = -(top.getD 0 c0).v.n := hE.wr _ (by have := h1.lo; have := h1.hi; omega) (by have := h1.lo; have := h1.hi; omega)
  refine ⟨h, hl, one_sm (smC_cv ?_)⟩
  rw [hw]
  exact smV_whole (by have := h1.hi; omega) (by have := h1.lo; omega)
 | 24, _ =>
  exact ⟨h, hl, one_sm (smC_cv (truth_sm _))⟩
 | 25, _ =>
  simp only [eff]
  split
  ·exact ⟨h, hl, by simp [Eff.bad]⟩
  ·refine ⟨h, hl, one_sm (smC_cv (smV_words ?_))⟩
   rw [ByteArray.size_append]
   omega
 | 26, _ =>
  exact ⟨h, hl, one_sm (smC_cv (smV_whole (numV_sm (cell_sm ht 0).1).1 (numV_sm (cell_sm ht 0).1).2))⟩
 | 27, _ =>
  exact ⟨h, hl, one_sm (smC_cv (smV_words (textV_sm hE (cell_sm ht 0).1)))⟩
 | 28, _ =>
  exact ⟨h, hl, one_sm (smC_cv (truth_sm _))⟩
 | 29, _ =>
  exact ⟨h, hl, one_sm (smC_cv (truth_sm _))⟩
 | 30, _ =>
  exact ⟨h, hl, one_sm (smC_cv (truth_sm _))⟩
 | 31, _ =>
  exact ⟨h, hl, one_sm (smC_cv (truth_sm _))⟩
 | 32, _ =>
  exact ⟨h, hl, one_sm (smC_cv (truth_sm _))⟩
 | 33, _ =>
  exact ⟨h, hl, one_sm (smC_cv (truth_sm _))⟩
 | 34, _ =>
  exact ⟨h, hl, one_sm (smC_cv (truth_sm _))⟩
 | 35, _ =>
  have hf := hE.fnd (E.mo.pats.getD a none0) _ (cell_sm ht 0).1.sz
  exact ⟨h, hl, one_sm (smC_cv (smV_whole (by omega) (by omega)))⟩
 | 36, _ =>
  have hf := hE.fnd (E.mo.pats.getD a none0) _ (cell_sm ht 0).1.sz
  refine ⟨h, hl, one_sm (smC_cv ?_)⟩
  split
  ·exact smV_whole (by omega) (by omega)
  ·exact smV_whole (by omega) (by omega)
 | 37, _ =>
  simp only [eff]
  split
  ·exact ⟨h, hl, by simp [Eff.bad]⟩
  ·exact ⟨h, hl, one_sm (smC_cv (smV_words (by omega)))⟩
 | 38, _ =>
  simp only [eff]
  split
  ·exact ⟨h, hl, by simp [Eff.bad]⟩
  ·rename_i hn
   obtain ⟨f1, f2⟩ := fillA_sm hE (hE.spl (E.mo.pats.getD b none0) _ (cell_sm ht 0).1.sz) (i := 0) (by omega)
   exact ⟨{ h with arrs := set_arr h.arrs a ⟨by rw [fillA_length]; omega, f1, f2⟩ }, hl, one_sm (smC_cv (smV_whole (by omega) (by omega)))⟩
 | 39, _ =>
  have := (cell_sm ht 0).1.sz
  exact ⟨h, hl, one_sm (smC_cv (smV_whole (by omega) (by omega)))⟩
 | 40, _ =>
  refine ⟨h, hl, one_sm (smC_cv (smV_words ?_))⟩
  have h1 := (cell_sm ht 0).1.sz
  have h2 := part_length (top.getD 1 c0).v.n (E.wr ((top.getD 1 c0).v.n + (top.getD 2 c0).v.n)) 0 (bl (top.getD 0 c0).v.s)
  have h3 : (bl (top.getD 0 c0).v.s).length = (top.getD 0 c0).v.s.size := Array.length_toList
  simp only [ByteArray.size, List.size_toArray] at h1 h3 ⊢
  omega
 | 41, _ =>
  have h1 := (cell_sm ht 0).1.sz
  have h2 := index_le (bl (top.getD 1 c0).v.s) 0 (bl (top.getD 0 c0).v.s)
  have h3 : (bl (top.getD 0 c0).v.s).length = (top.getD 0 c0).v.s.size := Array.length_toList
  exact ⟨h, hl, one_sm (smC_cv (smV_whole (by omega) (by omega)))⟩
 | 42, _ =>
  exact ⟨nextR_sm h, hl, one_sm (smC_cv (truth_sm _))⟩
 | 43, _ =>
  simp only [eff]
  split
  ·exact ⟨h, hl, one_sm (smC_cv (smV_whole (by omega) (by omega)))⟩
  ·rename_i n hn
   have hd := h.draws n (List.mem_of_getElem? hn)
   have hlt : w.drawn < w.draws.length := by
    rw [List.getElem?_eq_some_iff] at hn
    exact hn.1
   exact ⟨{ h with drawn := hlt }, hl, one_sm (smC_cv (smV_whole hd.1 hd.2))⟩
 | 44, _ =>
  exact ⟨print_sm h _, hl, by simp [eff, Eff.off]⟩
 | 45, _ =>
  refine ⟨h, hl, ?_⟩
  intro c hc
  simp only [eff, List.mem_cons, List.not_mem_nil, or_false] at hc
  rcases hc with rfl | rfl <;> exact cell_sm ht 0
 | 46, _ =>
  refine ⟨h, hl, ?_⟩
  intro c hc
  simp only [eff, List.mem_cons, List.not_mem_nil, or_false] at hc
  rcases hc with rfl | rfl | rfl
  ·exact cell_sm ht 1
  ·exact cell_sm ht 0
  ·exact cell_sm ht 1
 | 47, _ =>
  exact ⟨h, hl, by simp [eff, Eff.off]⟩
 | 48, _ =>
  exact ⟨h, hl, by simp [eff]⟩
 | 49, _ =>
  exact ⟨h, hl, by simp [eff]⟩
 | 50, _ =>
  exact ⟨h, hl, by simp [eff, Eff.off]⟩
 | 51, _ =>
  exact ⟨h, hl, by simp [eff, Eff.off]⟩
 | 52, _ =>
  exact ⟨h, hl, by simp [eff, Eff.off]⟩
 | 53, _ =>
  exact ⟨h, hl, by simp [eff]⟩
 | n + 54, h => exact absurd h (by omega)
end Mach
end Go.Proofs.YtmolfmgchbjnbaaGreatDoor
