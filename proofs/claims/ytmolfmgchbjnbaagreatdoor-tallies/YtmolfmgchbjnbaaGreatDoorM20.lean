import Derived.Test.YtmolfmgchbjnbaaGreatDoorM05
set_option linter.unusedSimpArgs false
set_option linter.unusedVariables false
namespace Go.Proofs.YtmolfmgchbjnbaaGreatDoor
namespace Flow
open Wire
def readAll (m : Mo) (f locs : Nat) (c : List UInt8) : Nat → Nat → Option (List Stp)
  | 0, _ => none
  | n + 1, i => if i = c.length then some [] else if i < c.length then
      match decodeL m f locs c i with
      | .inl _ => none
      | .inr s => (readAll m f locs c n s.nx).map (s :: ·)
    else none
theorem readAll_ok {m : Mo} {f locs : Nat} {c : List UInt8} : ∀ {n i : Nat} {l : List Stp}, readAll m f locs c n i = some l → Chain m f locs c i l c.length
  | 0, _, _, h => by cases h
  | n + 1, i, l, h => by
    simp only [readAll] at h
    split at h
    · rename_i e
      cases h
      exact e
    · split at h
      · rename_i hi
        split at h
        · cases h
        · rename_i s hs
          cases hq : readAll m f locs c n s.nx with
          | none => rw [hq] at h; cases h
          | some r =>
            rw [hq] at h
            simp only [Option.map_some, Option.some.injEq] at h
            subst h
            exact ⟨hi, hs, readAll_ok hq⟩
      · cases h
def hasB (G : List (Option (List UInt8))) (k : Nat) (st : List UInt8) : Bool :=
 match G[k]? with
 | some (some t) => leSB st t
 | _ => false
theorem hasB_ok {G : List (Option (List UInt8))} {k : Nat} {st : List UInt8} (h : hasB G k st = true) : Has G k st := by
 unfold hasB at h
 split at h
 ·rename_i t ht
  exact ⟨t, ht, leSB_iff.1 h⟩
 ·cases h
def farB (l : List Stp) (G : List (Option (List UInt8))) (a : Nat) (r : List UInt8) : Bool :=
 match numb l a with
 | some k => hasB G k r
 | none => false
def doneB (par : Nat → Nat) (l : List Stp) (G : List (Option (List UInt8))) (i : Nat) (s : Stp) (st : List UInt8) : Bool :=
 match after par s.op s.a st with
 | some (o, r) => (!far s.op || farB l G s.a r) && (halts s.op || hasB G (i + 1) o)
 | none => false
def eachB (par : Nat → Nat) (l : List Stp) (G : List (Option (List UInt8))) : Nat → List Stp → List (Option (List UInt8)) → Bool
 | _, [], [] => true
 | i, s :: r, none :: q => eachB par l G (i + 1) r q
 | i, s :: r, some st :: q => doneB par l G i s st && eachB par l G (i + 1) r q
 | _, _, _ => false
theorem doneB_ok {par : Nat → Nat} {l : List Stp} {G : List (Option (List UInt8))} {i : Nat} {s : Stp} {st : List UInt8} (h : doneB par l G i s st = true) : ∃ o r, after par s.op s.a st = some (o, r) ∧ (far s.op = true → ∃ k, numb l s.a = some k ∧ Has G k r) ∧ (halts s.op = false → Has G (i + 1) o) := by
 unfold doneB at h
 split at h
 ·rename_i o r ho
  simp only [Bool.and_eq_true, Bool.or_eq_true, Bool.not_eq_true'] at h
  refine ⟨o, r, ho, fun hf => ?_, fun hh => ?_⟩
  ·rcases h.1 with q | q
   ·rw [hf] at q; cases q
   ·unfold farB at q
    split at q
    ·rename_i k hk
     exact ⟨k, hk, hasB_ok q⟩
    ·cases q
  ·rcases h.2 with q | q
   ·rw [hh] at q; cases q
   ·exact hasB_ok q
 ·cases h
theorem eachB_ok {par : Nat → Nat} {l : List Stp} {G : List (Option (List UInt8))} : ∀ {i : Nat} {r : List Stp} {q : List (Option (List UInt8))}, eachB par l G i r q = true → r.length = q.length ∧ ∀ j st s, q[j]? = some (some st) → r[j]? = some s → ∃ o x, after par s.op s.a st = some (o, x) ∧ (far s.op = true → ∃ k, numb l s.a = some k ∧ Has G k x) ∧ (halts s.op = false → Has G (i + j + 1) o)
  | i, [], [], _ => ⟨rfl, fun j st s hq => by simp at hq⟩
  | i, [], _ :: _, h => by cases h
  | i, s :: r, [], h => by cases h
  | i, s :: r, none :: q, h => by
    simp only [eachB] at h
    obtain ⟨h1, h2⟩ := eachB_ok h
    refine ⟨by simp [h1], fun j st x hj hx => ?_⟩
    cases j with
    | zero => simp at hj
    | succ j =>
      have := h2 j st x (by simpa using hj) (by simpa using hx)
      rw [show i + 1 + j + 1 = i + (j + 1) + 1 by omega] at this
      exact this
  | i, s :: r, some t :: q, h => by
    simp only [eachB, Bool.and_eq_true] at h
    obtain ⟨h1, h2⟩ := eachB_ok h.2
    refine ⟨by simp [h1], fun j st x hj hx => ?_⟩
    cases j with
    | zero =>
      simp at hj hx
      subst hj hx
      exact doneB_ok h.1
    | succ j =>
      have := h2 j st x (by simpa using hj) (by simpa using hx)
      rw [show i + 1 + j + 1 = i + (j + 1) + 1 by omega] at this
      exact this
def firstB : List (Option (List UInt8)) → Bool
 | some [] :: _ => true
 | _ => false
theorem sol_of {par : Nat → Nat} {l : List Stp} {G : List (Option (List UInt8))} (h0 : firstB G = true) (h : eachB par l G 0 l G = true) : Sol par l G := by
 obtain ⟨h1, h2⟩ := eachB_ok h
 refine ⟨h1.symm, ?_, fun i hi st s hG hl => ?_⟩
 ·unfold firstB at h0
  split at h0
  ·rfl
  ·cases h0
 ·have := h2 i st s hG hl
  rw [Nat.zero_add] at this
  exact this
def tosL (l : List Stp) : List Nat := l.map fun s => if far s.op = true then (numb l s.a).getD 0 else 0
theorem tos_ok {l : List Stp} (h : badJump l l = none) {i : Nat} {s : Stp} (hs : l[i]? = some s) (hf : far s.op = true) : ∃ t, (tosL l)[i]? = some t ∧ numb l s.a = some t := by
 have key : ∀ (r : List Stp), badJump l r = none → ∀ x ∈ r, far x.op = true → numb l x.a ≠ none := by
  intro r
  induction r with
  | nil => intro _ x hx; cases hx
  | cons a r ih =>
   intro hb x hx hfx hn
   simp only [badJump] at hb
   split at hb
   ·cases hb
   ·rename_i hc
    rcases List.mem_cons.1 hx with rfl | hx
    ·exact hc ⟨hfx, hn⟩
    ·exact ih hb x hx hfx hn
 cases hn : numb l s.a with
 | none => exact absurd hn (key l h s (List.mem_of_getElem? hs) hf)
 | some t =>
  refine ⟨t, ?_, rfl⟩
  unfold tosL
  rw [List.getElem?_map, hs]
  simp [hf, hn]
def fnB (m : Mo) (f : Nat) (l : List Stp) (G : List (Option (List UInt8))) : Bool :=
 (readAll m f (Mach.locsOf m f) (Mach.codeOf m f) 1000 0).isSome && (badJump l l).isNone && firstB G && eachB (Mach.parOf m) l G 0 l G && decide (Mach.parOf m f ≤ Mach.locsOf m f) && decide (Mach.locsOf m f ≤ 16) && decide (l.length ≤ 20000)
def codeL (m : Mo) (f : Nat) : List Stp := (readAll m f (Mach.locsOf m f) (Mach.codeOf m f) 1000 0).getD []
structure FnFacts (m : Mo) (f : Nat) : Prop where
 reads : Reads m f (Mach.locsOf m f) (Mach.codeOf m f) (codeL m f)
 jump : badJump (codeL m f) (codeL m f) = none
 safe : Safe (Mach.parOf m) (codeL m f)
 par : Mach.parOf m f ≤ Mach.locsOf m f
 locs : Mach.locsOf m f ≤ 16
 len : (codeL m f).length ≤ 20000
theorem fnFacts {m : Mo} {f : Nat} {G : List (Option (List UInt8))} (h : fnB m f (codeL m f) G = true) : FnFacts m f := by
 unfold fnB at h
 simp only [Bool.and_eq_true, decide_eq_true_eq, Option.isNone_iff_eq_none] at h
 obtain ⟨⟨⟨⟨⟨⟨h1, h2⟩, h3⟩, h4⟩, h5⟩, h6⟩, h7⟩ := h
 refine ⟨?_, h2, ⟨G, sol_of h3 h4⟩, h5, h6, h7⟩
 obtain ⟨l, hl⟩ := Option.isSome_iff_exists.1 h1
 have e : codeL m f = l := by unfold codeL; rw [hl]; rfl
 rw [e]
 exact readAll_ok hl
theorem modOk_of {m : Mo} (h3 : 3 ≤ m.fns.length) (h : ∀ f, f < m.fns.length → FnFacts m f) : Mach.ModOk m :=
 ⟨h3, fun f hf => ⟨_, (h f hf).reads, (h f hf).jump, (h f hf).safe⟩, fun f hf => (h f hf).par⟩
end Flow
end Go.Proofs.YtmolfmgchbjnbaaGreatDoor
namespace Go.Proofs.YtmolfmgchbjnbaaGreatDoor
namespace Mach
open Wire Flow
def Steps (E : Env) (n : Nat) (s s' : St) : Prop := Plays E n s s' ∧ Good E s'
section
variable {E : Env} {n k : Nat} {s a b : St}
theorem Steps.refl (h : Good E s) : Steps E 0 s s := ⟨rfl, h⟩
theorem Steps.trans (h : Steps E n s a) (g : Steps E k a b) : Steps E (n + k) s b := ⟨h.1.append g.1, g.2⟩
theorem Steps.next (hE : SmE E) (hM : ModOk E.mo) (h : Steps E n s a) (ha : a.st = 0) {low : List Frm} {fr : Frm} (hf : a.frs = low ++ [fr]) {i : Stp} (hd : decodeL E.mo fr.f (locsOf E.mo fr.f) (codeOf E.mo fr.f) fr.at_ = .inr i) {rest top : List Cell} (hs : fr.stk = rest ++ top) (hl : top.length = (want (parOf E.mo) i.op i.a).length) : Steps E (n + 1) s (does E a low fr i rest top) := by
 obtain ⟨low', fr', i', rest', top', hR, -⟩ := Inv.ready (E := E) (s := a) (h.2.inv ha).1
 obtain ⟨e1, e2⟩ := List.append_inj' (hf.symm.trans hR.frs) rfl
 simp only [List.cons.injEq, and_true] at e2
 subst e1 e2
 have e3 := hd.symm.trans hR.dec
 simp only [Sum.inr.injEq] at e3
 subst e3
 have l1 := leS_length hR.takes
 rw [List.length_map] at l1
 obtain ⟨e5, e6⟩ := List.append_inj' (hs.symm.trans hR.stk) (hl.trans l1.symm)
 subst e5 e6
 exact ⟨h.1.more ha hR, h.2.does hE hM ha hR⟩
theorem Steps.till (h : Steps E n s a) (ha : a.st ≠ 0) {N : Nat} (hN : n ≤ N) : Plays E N s a := by
 have := h.1.append (plays_ended E (N - n) ha)
 rw [show n + (N - n) = N by omega] at this
 exact this
end
theorem textV_read {E : Env} (s : ByteArray) : textV E (readV s) = s := by
 unfold readV textV
 split <;> rfl
def linesL : ByteArray → List ByteArray → ByteArray × Nat
 | out, [] => (out, 1)
 | out, r :: l => if out.size + r.size + 1 > 1000 then (out, 8) else linesL ⟨out.data ++ (bl r ++ [10]).toArray⟩ l
theorem linesL_st (out : ByteArray) (l : List ByteArray) : (linesL out l).2 = 1 ∨ (linesL out l).2 = 8 := by
 induction l generalizing out with
 | nil => exact .inl rfl
 | cons r l ih =>
  simp only [linesL]
  split
  ·exact .inr rfl
  ·exact ih _
theorem next_some {w : Wd} {r : ByteArray} {l : List ByteArray} (h : w.recs.drop w.nr = r :: l) : nextR w = ({ w with nr := w.nr + 1, rcd := r, flds := cutF r }, true) ∧ w.recs.drop (w.nr + 1) = l := by
 have h1 : w.recs[w.nr]? = some r := by
  have := congrArg (fun x => x[0]?) h
  simpa using this
 refine ⟨by unfold nextR; rw [h1], ?_⟩
 rw [← List.drop_drop, h]
 rfl
theorem next_none {w : Wd} (h : w.recs.drop w.nr = []) : nextR w = (w, false) := by
 have h1 : w.recs[w.nr]? = none := by
  rw [List.drop_eq_nil_iff] at h
  exact List.getElem?_eq_none h
 unfold nextR
 rw [h1]
end Mach
end Go.Proofs.YtmolfmgchbjnbaaGreatDoor
namespace Go.Proofs.YtmolfmgchbjnbaaGreatDoor
namespace Mach
open Wire Flow
section
variable {E : Env} {n : Nat} {S : St} {w w' : Wd} {f at_ : Nat} {locs locs' : List Val} {rest top top' : List Cell} {c : Int} {u : Nat} {i : Stp} {go : Option Nat}
theorem Steps.op (h : Steps E n S ⟨w, [⟨f, at_, locs, rest ++ top⟩], 0, c, u⟩) (hE : SmE E) (hM : ModOk E.mo) (hd : decodeL E.mo f (locsOf E.mo f) (codeOf E.mo f) at_ = .inr i) (hl : top.length = (want (parOf E.mo) i.op i.a).length) (hop : (i.op == 50 || i.op == 51 || i.op == 52) = false) (he : eff E w locs i.op i.a i.b top = ⟨w', locs', top', 0, 0, go⟩) :
  Steps E (n + 1) S ⟨w', [⟨f, go.getD i.nx, locs', rest ++ top'⟩], 0, c, u + 1⟩ := by
 have h2 := h.next hE hM rfl (low := []) (fr := ⟨f, at_, locs, rest ++ top⟩) rfl hd rfl hl
 simp only [Bool.or_eq_false_iff, beq_eq_false_iff_ne] at hop
 unfold Mach.does at h2
 rw [if_neg hop.1.1, if_neg hop.1.2, if_neg hop.2] at h2
 simp only [he] at h2
 exact h2
theorem Steps.fault (h : Steps E n S ⟨w, [⟨f, at_, locs, rest ++ top⟩], 0, c, u⟩) (hE : SmE E) (hM : ModOk E.mo) (hd : decodeL E.mo f (locsOf E.mo f) (codeOf E.mo f) at_ = .inr i) (hl : top.length = (want (parOf E.mo) i.op i.a).length) (hop : (i.op == 50 || i.op == 51 || i.op == 52) = false) {st : Nat} {code : Int} (hst : st ≠ 0) (he : eff E w locs i.op i.a i.b top = ⟨w', locs', top', st, code, go⟩) :
  Steps E (n + 1) S ⟨w', [⟨f, at_, locs, rest ++ top⟩], st, code, u + 1⟩ := by
 have h2 := h.next hE hM rfl (low := []) (fr := ⟨f, at_, locs, rest ++ top⟩) rfl hd rfl hl
 simp only [Bool.or_eq_false_iff, beq_eq_false_iff_ne] at hop
 unfold Mach.does at h2
 rw [if_neg hop.1.1, if_neg hop.1.2, if_neg hop.2] at h2
 simp only [he, ne_eq, hst, not_false_eq_true, if_true] at h2
 exact h2
theorem Steps.over_next {r : ByteArray} {l : List ByteArray} (h : Steps E n S ⟨w, [⟨f, at_, [], []⟩], 0, c, u⟩) (hE : SmE E) (hM : ModOk E.mo) {nx : Nat} (hd : decodeL E.mo f (locsOf E.mo f) (codeOf E.mo f) at_ = .inr ⟨at_, nx, 52, 0, 0⟩) (hf : f ≠ 2) (hl : w.recs.drop w.nr = r :: l) :
  Steps E (n + 1) S ⟨{ w with nr := w.nr + 1, rcd := r, flds := cutF r }, [enter E.mo 1 []], 0, c, u + 1⟩ ∧ w.recs.drop (w.nr + 1) = l := by
 obtain ⟨en, hl2⟩ := next_some hl
 refine ⟨?_, hl2⟩
 have h2 := h.next hE hM rfl (low := []) (fr := ⟨f, at_, [], []⟩) rfl hd (rest := []) (top := []) rfl rfl
 unfold Mach.does at h2
 rw [if_neg (show ¬ (52 : Nat) = 50 by decide), if_neg (show ¬ (52 : Nat) = 51 by decide), if_pos (show (52 : Nat) = 52 from rfl)] at h2
 unfold over at h2
 simp only [en, if_neg hf] at h2
 exact h2
theorem Steps.over_last (h : Steps E n S ⟨w, [⟨f, at_, [], []⟩], 0, c, u⟩) (hE : SmE E) (hM : ModOk E.mo) {nx : Nat} (hd : decodeL E.mo f (locsOf E.mo f) (codeOf E.mo f) at_ = .inr ⟨at_, nx, 52, 0, 0⟩) (hf : f ≠ 2) (hl : w.recs.drop w.nr = []) :
  Steps E (n + 1) S ⟨w, [enter E.mo 2 []], 0, c, u + 1⟩ := by
 have en := next_none hl
 have h2 := h.next hE hM rfl (low := []) (fr := ⟨f, at_, [], []⟩) rfl hd (rest := []) (top := []) rfl rfl
 unfold Mach.does at h2
 rw [if_neg (show ¬ (52 : Nat) = 50 by decide), if_neg (show ¬ (52 : Nat) = 51 by decide), if_pos (show (52 : Nat) = 52 from rfl)] at h2
 unfold over at h2
 simp only [en, if_neg hf] at h2
 exact h2
theorem Steps.over_end (h : Steps E n S ⟨w, [⟨2, at_, [], []⟩], 0, c, u⟩) (hE : SmE E) (hM : ModOk E.mo) {nx : Nat} (hd : decodeL E.mo 2 (locsOf E.mo 2) (codeOf E.mo 2) at_ = .inr ⟨at_, nx, 52, 0, 0⟩) :
  Steps E (n + 1) S ⟨w, [⟨2, at_, [], []⟩], 1, c, u + 1⟩ := by
 have h2 := h.next hE hM rfl (low := []) (fr := ⟨2, at_, [], []⟩) rfl hd (rest := []) (top := []) rfl rfl
 exact h2
end
end Mach
end Go.Proofs.YtmolfmgchbjnbaaGreatDoor
namespace Go.Proofs.YtmolfmgchbjnbaaGreatDoor
namespace Mach
open Wire Flow
abbrev Tl := List (ByteArray × Nat)
def toA (L : Tl) : List (ByteArray × Val) := L.map fun e => (e.1, whole (e.2 : Int))
def hasT (L : Tl) (t : ByteArray) : Bool := L.any fun e => decide (e.1 = t)
def bump : Tl → ByteArray → Tl
 | [], _ => []
 | e :: L, t => if e.1 = t then (t, e.2 + 1) :: L else e :: bump L t
def cntS (L : Tl) (t : ByteArray) : Option Tl := if hasT L t = true then some (bump L t) else if 30 ≤ L.length then none else some (L ++ [(t, 1)])
def dropT (L : Tl) (t : ByteArray) : Tl := L.filter fun e => decide (e.1 ≠ t)
def togS (L : Tl) (t : ByteArray) (i : Nat) : Option Tl := if hasT L t = true then some (dropT L t) else if 30 ≤ L.length then none else some (L ++ [(t, i)])
def wordL (s : ByteArray) : ByteArray := (cutF s).getD 0 none0
def cntF : Tl → List ByteArray → Option Tl
 | L, [] => some L
 | L, r :: rs => (cntS L (wordL r)).bind fun L' => cntF L' rs
def togF : Nat → Tl → List ByteArray → Option Tl
 | _, L, [] => some L
 | i, L, r :: rs => (togS L (wordL r) (i + 1)).bind fun L' => togF (i + 1) L' rs
theorem hasK_toA (L : Tl) (t : ByteArray) : hasK (toA L) t = hasT L t := by
 unfold hasK toA hasT
 rw [List.any_map]
 rfl
theorem bump_ok {L : Tl} {t : ByteArray} (h : hasT L t = true) : ∃ n, (t, n) ∈ L ∧ getK (toA L) t = whole (n : Int) ∧ setK (toA L) t (whole ((n + 1 : Nat) : Int)) = toA (bump L t) := by
 induction L with
 | nil => cases h
 | cons e L ih =>
  by_cases c : e.1 = t
  ·refine ⟨e.2, by rw [← c]; simp, ?_, ?_⟩
   ·show (if e.1 = t then whole (e.2 : Int) else _) = _
    rw [if_pos c]
   ·show (if e.1 = t then (t, whole ((e.2 + 1 : Nat) : Int)) :: toA L else _) = toA (if e.1 = t then (t, e.2 + 1) :: L else _)
    rw [if_pos c, if_pos c]
    rfl
  ·have h' : hasT L t = true := by
    have : (decide (e.1 = t) || hasT L t) = true := h
    simpa [c] using this
   obtain ⟨n, h1, h2, h3⟩ := ih h'
   refine ⟨n, by simp [h1], ?_, ?_⟩
   ·show (if e.1 = t then _ else getK (toA L) t) = _
    rw [if_neg c]
    exact h2
   ·show (if e.1 = t then _ else (e.1, whole (e.2 : Int)) :: setK (toA L) t (whole ((n + 1 : Nat) : Int))) = toA (if e.1 = t then _ else e :: bump L t)
    rw [if_neg c, if_neg c, h3]
    rfl
theorem setK_twice {A : List (ByteArray × Val)} {t : ByteArray} {v u : Val} (h : hasK A t = false) : setK (setK A t v) t u = A ++ [(t, u)] := by
 rw [setK_new h]
 induction A with
 | nil =>
  show (if t = t then (t, u) :: [] else _) = _
  rw [if_pos rfl]
  rfl
 | cons e A ih =>
  have h2 : (decide (e.1 = t) || hasK A t) = false := h
  simp only [Bool.or_eq_false_iff, decide_eq_false_iff_not] at h2
  show (if e.1 = t then _ else e :: setK (A ++ [(t, v)]) t u) = e :: (A ++ [(t, u)])
  rw [if_neg h2.1, ih h2.2]
theorem toA_snoc (L : Tl) (t : ByteArray) (n : Nat) : toA (L ++ [(t, n)]) = toA L ++ [(t, whole (n : Int))] := by simp [toA]
theorem dropK_toA (L : Tl) (t : ByteArray) : dropK (toA L) t = toA (dropT L t) := by
 unfold dropK toA dropT
 rw [List.filter_map]
 rfl
theorem toA_length (L : Tl) : (toA L).length = L.length := by simp [toA]
theorem keys_toA (L : Tl) : keysA (toA L) = L.map Prod.fst := by simp [keysA, toA]
theorem getK_mem {L : Tl} {t : ByteArray} {n : Nat} (hm : (t, n) ∈ L) (hn : (L.map Prod.fst).Nodup) : getK (toA L) t = whole (n : Int) := by
 induction L with
 | nil => cases hm
 | cons e L ih =>
  simp only [List.map_cons, List.nodup_cons] at hn
  show (if e.1 = t then whole (e.2 : Int) else getK (toA L) t) = _
  rcases List.mem_cons.1 hm with c | c
  ·rw [← c, if_pos rfl]
  ·rw [if_neg]
   ·exact ih c hn.2
   ·intro q
    exact hn.1 (List.mem_map.2 ⟨_, c, q.symm⟩)
theorem hasT_mem {L : Tl} {t : ByteArray} {n : Nat} (hm : (t, n) ∈ L) : hasT L t = true := by
 unfold hasT
 rw [List.any_eq_true]
 exact ⟨_, hm, by simp⟩
theorem field_one {E : Env} (w : Wd) : ∃ v, fieldW w 1 = (v, 0) ∧ textV E v = w.flds.getD 0 none0 := by
 unfold fieldW
 rw [if_neg (by decide), if_neg (by decide)]
 cases hf : w.flds with
 | nil => exact ⟨nothing, by rw [if_neg (by simp)], rfl⟩
 | cons a l => exact ⟨readV a, by rw [if_pos (by simp; omega)]; rfl, textV_read a⟩
structure TellC (E : Env) : Prop where
 d0 : decodeL E.mo 2 (locsOf E.mo 2) (codeOf E.mo 2) 0 = .inr ⟨0, 2, 16, 0, 0⟩
 d2 : decodeL E.mo 2 (locsOf E.mo 2) (codeOf E.mo 2) 2 = .inr ⟨2, 4, 17, 19, 0⟩
 d4 : decodeL E.mo 2 (locsOf E.mo 2) (codeOf E.mo 2) 4 = .inr ⟨4, 6, 6, 0, 0⟩
 d6 : decodeL E.mo 2 (locsOf E.mo 2) (codeOf E.mo 2) 6 = .inr ⟨6, 8, 5, 0, 0⟩
 d8 : decodeL E.mo 2 (locsOf E.mo 2) (codeOf E.mo 2) 8 = .inr ⟨8, 9, 27, 0, 0⟩
 d9 : decodeL E.mo 2 (locsOf E.mo 2) (codeOf E.mo 2) 9 = .inr ⟨9, 11, 5, 0, 0⟩
 d11 : decodeL E.mo 2 (locsOf E.mo 2) (codeOf E.mo 2) 11 = .inr ⟨11, 12, 27, 0, 0⟩
 d12 : decodeL E.mo 2 (locsOf E.mo 2) (codeOf E.mo 2) 12 = .inr ⟨12, 14, 11, 0, 0⟩
 d14 : decodeL E.mo 2 (locsOf E.mo 2) (codeOf E.mo 2) 14 = .inr ⟨14, 15, 27, 0, 0⟩
 d15 : decodeL E.mo 2 (locsOf E.mo 2) (codeOf E.mo 2) 15 = .inr ⟨15, 17, 44, 2, 0⟩
 d17 : decodeL E.mo 2 (locsOf E.mo 2) (codeOf E.mo 2) 17 = .inr ⟨17, 19, 48, 2, 0⟩
 d19 : decodeL E.mo 2 (locsOf E.mo 2) (codeOf E.mo 2) 19 = .inr ⟨19, 20, 52, 0, 0⟩
def lineT (E : Env) (e : ByteArray × Nat) : ByteArray := ⟨(joinF [e.1, E.itoa (e.2 : Int)]).toArray⟩
theorem lineT_size (E : Env) (e : ByteArray × Nat) : (lineT E e).size = (joinF [e.1, E.itoa (e.2 : Int)]).length := by
 show (joinF _).toArray.size = _
 simp
section
variable {E : Env} {recs : List ByteArray} {nr : Nat} {draws : List Int} {drawn : Nat} {rcd : ByteArray} {flds : List ByteArray} {L : Tl}
theorem tell_one (hE : SmE E) (hM : ModOk E.mo) (hC : TellC E) {out : ByteArray} {g : Val} {u : Nat} {t : ByteArray} {m : Nat} {ks : List ByteArray} (hm : (t, m) ∈ L) (hn : (L.map Prod.fst).Nodup) (hG : Good E ⟨⟨recs, nr, draws, drawn, rcd, flds, out, [g], [toA L]⟩, [⟨2, 2, [], [⟨true, nothing, 0, t :: ks⟩]⟩], 0, 0, u⟩) :
    Steps E 9 ⟨⟨recs, nr, draws, drawn, rcd, flds, out, [g], [toA L]⟩, [⟨2, 2, [], [⟨true, nothing, 0, t :: ks⟩]⟩], 0, 0, u⟩
      (if out.size + (lineT E (t, m)).size + 1 > 1000 then ⟨⟨recs, nr, draws, drawn, rcd, flds, out, [words t], [toA L]⟩, [⟨2, 15, [], [⟨true, nothing, 0, ks⟩, cv (words t), cv (words (E.itoa (m : Int)))]⟩], 8, 0, u + 9⟩
       else ⟨⟨recs, nr, draws, drawn, rcd, flds, ⟨out.data ++ (bl (lineT E (t, m)) ++ [10]).toArray⟩, [words t], [toA L]⟩, [⟨2, 17, [], [⟨true, nothing, 0, ks⟩]⟩], 0, 0, u + 9⟩) := by
  have hk : hasK (toA L) t = true := by rw [hasK_toA]; exact hasT_mem hm
  have hg := getK_mem hm hn
  have hx : nextK (toA L) (t :: ks) = some (t, ks) := by
    show (if hasK (toA L) t = true then some (t, ks) else _) = _
    rw [if_pos hk]
  have h1 := (Steps.refl hG).op (rest := []) (top := [⟨true, nothing, 0, t :: ks⟩]) hE hM hC.d2 rfl rfl (w' := ⟨recs, nr, draws, drawn, rcd, flds, out, [g], [toA L]⟩) (locs' := []) (top' := [⟨true, nothing, 0, ks⟩, cv (words t)]) (go := none) (by
    show (match nextK (toA L) (t :: ks) with | none => _ | some (k, l) => _) = _
    rw [hx]
    rfl)
  have h2 := h1.op (rest := [⟨true, nothing, 0, ks⟩]) (top := [cv (words t)]) hE hM hC.d4 rfl rfl (w' := ⟨recs, nr, draws, drawn, rcd, flds, out, [words t], [toA L]⟩) (locs' := []) (top' := []) (go := none) rfl
  have h3 := h2.op (rest := [⟨true, nothing, 0, ks⟩]) (top := []) hE hM hC.d6 rfl rfl (w' := ⟨recs, nr, draws, drawn, rcd, flds, out, [words t], [toA L]⟩) (locs' := []) (top' := [cv (words t)]) (go := none) rfl
  have h4 := h3.op (rest := [⟨true, nothing, 0, ks⟩]) (top := [cv (words t)]) hE hM hC.d8 rfl rfl (w' := ⟨recs, nr, draws, drawn, rcd, flds, out, [words t], [toA L]⟩) (locs' := []) (top' := [cv (words t)]) (go := none) rfl
  have h5 := h4.op (rest := [⟨true, nothing, 0, ks⟩, cv (words t)]) (top := []) hE hM hC.d9 rfl rfl (w' := ⟨recs, nr, draws, drawn, rcd, flds, out, [words t], [toA L]⟩) (locs' := []) (top' := [cv (words t)]) (go := none) rfl
  have h6 := h5.op (rest := [⟨true, nothing, 0, ks⟩, cv (words t)]) (top := [cv (words t)]) hE hM hC.d11 rfl rfl (w' := ⟨recs, nr, draws, drawn, rcd, flds, out, [words t], [toA L]⟩) (locs' := []) (top' := [cv (words t)]) (go := none) rfl
  have h7 := h6.op (rest := [⟨true, nothing, 0, ks⟩, cv (words t)]) (top := [cv (words t)]) hE hM hC.d12 rfl rfl (w' := ⟨recs, nr, draws, drawn, rcd, flds, out, [words t], [toA L]⟩) (locs' := []) (top' := [cv (whole (m : Int))]) (go := none) (by
    show (if hasK (toA L) t = true then Eff.put _ _ (getK (toA L) t) else _) = _
    rw [if_pos hk, hg]
    rfl)
  have h8 := h7.op (rest := [⟨true, nothing, 0, ks⟩, cv (words t)]) (top := [cv (whole (m : Int))]) hE hM hC.d14 rfl rfl (w' := ⟨recs, nr, draws, drawn, rcd, flds, out, [words t], [toA L]⟩) (locs' := []) (top' := [cv (words (E.itoa (m : Int)))]) (go := none) rfl
  have hp : printW ⟨recs, nr, draws, drawn, rcd, flds, out, [words t], [toA L]⟩ [t, E.itoa (m : Int)] = if out.size + (lineT E (t, m)).size + 1 > 1000 then (⟨recs, nr, draws, drawn, rcd, flds, out, [words t], [toA L]⟩, 8) else (⟨recs, nr, draws, drawn, rcd, flds, ⟨out.data ++ (bl (lineT E (t, m)) ++ [10]).toArray⟩, [words t], [toA L]⟩, 0) := by
    unfold printW
    rw [lineT_size]
    rfl
  split
  · rename_i hc
    rw [if_pos hc] at hp
    exact h8.fault (rest := [⟨true, nothing, 0, ks⟩]) (top := [cv (words t), cv (words (E.itoa (m : Int)))]) hE hM hC.d15 rfl rfl (st := 8) (code := 0) (by decide) (locs' := []) (top' := []) (go := none) (by
      show Eff.off (printW _ [t, E.itoa (m : Int)]).1 _ (printW _ [t, E.itoa (m : Int)]).2 = _
      rw [hp]
      rfl)
  · rename_i hc
    rw [if_neg hc] at hp
    exact h8.op (rest := [⟨true, nothing, 0, ks⟩]) (top := [cv (words t), cv (words (E.itoa (m : Int)))]) hE hM hC.d15 rfl rfl (locs' := []) (top' := []) (go := none) (by
      show Eff.off (printW _ [t, E.itoa (m : Int)]).1 _ (printW _ [t, E.itoa (m : Int)]).2 = _
      rw [hp]
      rfl)
theorem tell_rest (hE : SmE E) (hM : ModOk E.mo) (hC : TellC E) (hn : (L.map Prod.fst).Nodup) : ∀ (L' : Tl) (out : ByteArray) (g : Val) (u : Nat), (∀ x ∈ L', x ∈ L) → Good E ⟨⟨recs, nr, draws, drawn, rcd, flds, out, [g], [toA L]⟩, [⟨2, 2, [], [⟨true, nothing, 0, L'.map Prod.fst⟩]⟩], 0, 0, u⟩ →
  ∃ n D, n ≤ 10 * L'.length + 2 ∧ Steps E n ⟨⟨recs, nr, draws, drawn, rcd, flds, out, [g], [toA L]⟩, [⟨2, 2, [], [⟨true, nothing, 0, L'.map Prod.fst⟩]⟩], 0, 0, u⟩ D ∧ D.st = (linesL out (L'.map (lineT E))).2 ∧ D.code = 0 ∧ D.w.out = (linesL out (L'.map (lineT E))).1 := by
 intro L'
 induction L' with
 | nil =>
  intro out g u _ hG
  have h1 := (Steps.refl hG).op (rest := []) (top := [⟨true, nothing, 0, []⟩]) hE hM hC.d2 rfl rfl (w' := ⟨recs, nr, draws, drawn, rcd, flds, out, [g], [toA L]⟩) (locs' := []) (top' := []) (go := some 19) rfl
  have h2 := h1.over_end hE hM hC.d19
  exact ⟨2, _, by simp, h2, rfl, rfl, rfl⟩
 | cons e L' ih =>
  intro out g u hm hG
  have h1 := tell_one hE hM hC (t := e.1) (m := e.2) (ks := L'.map Prod.fst) (hm e (by simp)) hn hG
  have hd : (e.1, e.2) = e := rfl
  rw [hd] at h1
  simp only [List.map_cons, linesL]
  by_cases hc : out.size + (lineT E e).size + 1 > 1000
  ·rw [if_pos hc] at h1
   rw [if_pos hc]
   exact ⟨9, _, by simp only [List.length_cons]; omega, h1, rfl, rfl, rfl⟩
  ·rw [if_neg hc] at h1
   rw [if_neg hc]
   have h2 := h1.op (rest := [⟨true, nothing, 0, L'.map Prod.fst⟩]) (top := []) hE hM hC.d17 rfl rfl (w' := ⟨recs, nr, draws, drawn, rcd, flds, ⟨out.data ++ (bl (lineT E e) ++ [10]).toArray⟩, [words e.1], [toA L]⟩) (locs' := []) (top' := []) (go := some 2) rfl
   obtain ⟨n, D, h3, h4, h5⟩ := ih _ _ _ (fun x hx => hm x (by simp [hx])) h2.2
   exact ⟨9 + 1 + n, D, by simp only [List.length_cons]; omega, h2.trans h4, h5⟩
theorem tell_all (hE : SmE E) (hM : ModOk E.mo) (hC : TellC E) {out : ByteArray} {g : Val} {u : Nat} (hG : Good E ⟨⟨recs, nr, draws, drawn, rcd, flds, out, [g], [toA L]⟩, [⟨2, 0, [], []⟩], 0, 0, u⟩) :
  ∃ n D, n ≤ 10 * L.length + 3 ∧ Steps E n ⟨⟨recs, nr, draws, drawn, rcd, flds, out, [g], [toA L]⟩, [⟨2, 0, [], []⟩], 0, 0, u⟩ D ∧ D.st = (linesL out (L.map (lineT E))).2 ∧ D.code = 0 ∧ D.w.out = (linesL out (L.map (lineT E))).1 := by
 have hn : (L.map Prod.fst).Nodup := by
  have := (hG.w.arrs (toA L) (by simp)).once
  rw [keys_toA] at this
  exact this
 have h1 := (Steps.refl hG).op (rest := []) (top := []) hE hM hC.d0 rfl rfl (w' := ⟨recs, nr, draws, drawn, rcd, flds, out, [g], [toA L]⟩) (locs' := []) (top' := [⟨true, nothing, 0, L.map Prod.fst⟩]) (go := none) (by
  show Eff.mk _ _ [⟨true, nothing, 0, keysA (toA L)⟩] _ _ _ = _
  rw [keys_toA])
 obtain ⟨n, D, h3, h4, h5⟩ := tell_rest hE hM hC hn L _ _ _ (fun x hx => hx) h1.2
 exact ⟨1 + n, D, by omega, by have := h1.trans h4; rw [show 0 + 1 + n = 1 + n by omega] at this; exact this, h5⟩
end
end Mach
end Go.Proofs.YtmolfmgchbjnbaaGreatDoor
