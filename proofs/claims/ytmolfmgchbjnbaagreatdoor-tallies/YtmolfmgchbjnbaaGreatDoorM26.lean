import Derived.Test.YtmolfmgchbjnbaaGreatDoorM25
set_option linter.unusedSimpArgs false
set_option linter.unusedVariables false
namespace Go.Proofs.YtmolfmgchbjnbaaGreatDoor
open Go.RowKit
open Wire Flow Mach
theorem chain_last {m : Mo} {f locs : Nat} {c : List UInt8} {i j k : Nat} {l : List Stp} (h : Chain m f locs c i l j) {s : Stp} (hs : l[k]? = some s) (hk : k + 1 = l.length) : s.nx = j := by
 induction l generalizing i k with
 | nil => simp at hs
 | cons a l ih =>
  cases k with
  | zero =>
   cases l with
   | nil =>
    have e : a = s := by simpa using hs
    subst e
    exact h.2.2
   | cons b l => simp at hk
  | succ k => exact ih h.2.2 (by simpa using hs) (by simpa using hk)
theorem plc_next {m : Mo} {f : Nat} {L : List Stp} (h : Reads m f (locsOf m f) (codeOf m f) L) {k : Nat} {i : Stp} (hi : L[k]? = some i) : PlcAt m f L (k + 1) i.nx := by
 have hk := (List.getElem?_eq_some_iff.1 hi).1
 rcases Nat.lt_or_ge (k + 1) L.length with c | c
 ·obtain ⟨j, hj⟩ : ∃ j, L[k + 1]? = some j := ⟨_, List.getElem?_eq_getElem c⟩
  exact .inl ⟨j, hj, Chain.behind h hi hj⟩
 ·exact .inr ⟨by omega, chain_last h hi (by omega)⟩
section
variable {E : Env} {X : Nat} {g : Pl} {s : Ms} {W W' : World} {tag tag' : Nat → Nat} {lv : Nat → Bool} {R : Nat → Rw} {mp : Nat → Option (Nat × List (Value × Value))} {x : Mx}
def onAt (s : Ms) (a : Nat) : Ms := { s with fr := { s.fr with at_ := a } }
theorem fAt_onAt (s : Ms) (a : Nat) {k : Nat} (hk : k < s.low.length) : fAt (onAt s a) k = fAt s k := by simp [fAt, onAt, hk]
theorem fAt_onAt_top (s : Ms) (a : Nat) : fAt (onAt s a) s.low.length = { s.fr with at_ := a } := fAt_top (onAt s a)
theorem fAt_onAt_stk (s : Ms) (a k : Nat) : (fAt (onAt s a) k).stk = (fAt s k).stk ∧ (fAt (onAt s a) k).f = (fAt s k).f ∧ (fAt (onAt s a) k).locs = (fAt s k).locs := by
 unfold fAt
 split
 ·rename_i h
  have h' : k < s.low.length := h
  rw [if_pos h']
  exact ⟨rfl, rfl, rfl⟩
 ·rename_i h
  have h' : ¬ k < s.low.length := h
  rw [if_neg h']
  exact ⟨rfl, rfl, rfl⟩
def atF (x : Mx) (s : Ms) (t : Nat) : Mx := onF x s.low.length ⟨(x.F s.low.length).cv, t, (x.F s.low.length).sv, (x.F s.low.length).pw⟩
theorem atF_oth (x : Mx) (s : Ms) (t k : Nat) : ((atF x s t).F k).cv = (x.F k).cv ∧ ((atF x s t).F k).sv = (x.F k).sv ∧ ((atF x s t).F k).pw = (x.F k).pw := by
 by_cases e : k = s.low.length
 ·subst e
  simp [atF, onF, up_same]
 ·show (up x.F s.low.length _ k).cv = _ ∧ (up x.F s.low.length _ k).sv = _ ∧ (up x.F s.low.length _ k).pw = _
  rw [up_off _ _ e]
  exact ⟨rfl, rfl, rfl⟩
theorem MR.setAt (h : MR E X g.g s W tag lv R mp x) (h6 : 6 ≤ W.heap.size) {t a : Nat} (ht : PlcAt E.mo s.fr.f (x.code s.fr.f).2 t a) :
  W.frozen? ⟨g.g, s.low.length * 51 + 1, none⟩ = false ∧ W.cell? ⟨g.g, s.low.length * 51 + 1, none⟩ = some (.int .i64 ((x.F s.low.length).ix : Nat)) ∧
  (∃ R', MR E X g.g (onAt s a) (W.setCell ⟨g.g, s.low.length * 51 + 1, none⟩ (.int .i64 (t : Nat))) tag lv R' mp (atF x s t)) ∧ Kp tag tag W (W.setCell ⟨g.g, s.low.length * 51 + 1, none⟩ (.int .i64 (t : Nat))) := by
 obtain ⟨⟨cap, r11, hv⟩, -⟩ := h.top
 have o := (h.S.rows 11 h.lF).1
 rw [r11] at o
 obtain ⟨S1, k⟩ := h.S.put h.lF r11 (j := s.low.length * 51 + 1) (by omega) (.int .i64 (t : Nat))
 have e1 : (rng (s.low.length + 1) fun k => frC (x.F k) (fAt s k))[s.low.length * 51 + 1]? = some (.int .i64 ((x.F s.low.length).ix : Nat)) := by
  rw [rng_get (fun _ _ => frC_len _ _) (by omega) (by omega)]
  rfl
 refine ⟨own_thaw o _, own_cell o e1, ⟨_, S1, h.sta.kp k h6, h.lX, ?_, h.lF, ?_, h.vF, h.nF, h.lG, ?_, h.lA, ?_, h.nA, fun i hi => ?_, fun i hi => ?_, fun i j c hi hj hc => ?_, fun i hi => ?_, h.rcs.kp k, h.drw.kp k, h.fld.kp k⟩, k⟩
 ·rw [up_off _ _ (by decide)]; exact h.rX
 ·rw [up_same, ← hv]
  show _ = Rw.mk x.frv 225 51 (s.low.length + 1) _
  congr 1
  rw [rng_set (fun _ _ => frC_len _ _) (by omega) (by omega)]
  refine rng_congr fun j hj => ?_
  by_cases e : j = s.low.length
  ·subst e
   show _ = frC (up x.F s.low.length _ s.low.length) (fAt (onAt s a) s.low.length)
   rw [up_same, up_same, fAt_top, fAt_onAt_top]
   rfl
  ·show _ = frC (up x.F s.low.length _ j) (fAt (onAt s a) j)
   rw [up_off _ _ e, up_off _ _ e, fAt_onAt _ _ (by omega)]
 ·rw [up_off _ _ (by decide)]; exact h.rG
 ·rw [up_off _ _ (by decide)]; exact h.rA
 ·obtain ⟨a, b, c⟩ := h.arr i hi
  exact ⟨a, b, by rw [up_off _ _ (by omega)]; exact c⟩
 ·obtain ⟨a1, b⟩ := h.stk i hi
  rw [(fAt_onAt_stk s a i).1, up_off _ _ (by omega), (atF_oth x s t i).2.1, (atF_oth x s t i).2.2]
  exact ⟨a1, b⟩
 ·rw [(fAt_onAt_stk s a i).1] at hj
  obtain ⟨h1, h2, h3, ga, ca, lf, h4, h5, h6⟩ := h.wlk i j c hi hj hc
  exact ⟨h1, h2, h3, ga, ca, lf, h4, by rw [up_off _ _ (by omega), (atF_oth x s t i).2.2]; exact h5, h6.kp k⟩
 ·obtain ⟨a1, a2, a3⟩ := h.fn i hi
  rw [(atF_oth x s t i).1, (fAt_onAt_stk s a i).2.1]
  refine ⟨a1, a2, ?_⟩
  by_cases e : i = s.low.length
  ·subst e
   show PlcAt _ _ _ (up x.F s.low.length _ s.low.length).ix _
   rw [up_same, fAt_onAt_top, fAt_top]
   exact ht
  ·have hi' : i ≤ s.low.length := hi
   show PlcAt _ _ _ (up x.F s.low.length _ i).ix _
   rw [up_off _ _ e, fAt_onAt _ _ (by omega)]
   exact a3
theorem MM.setAt (h : MM E X g s W tag) {t a : Nat} (ht : ∀ L, Reads E.mo s.fr.f (locsOf E.mo s.fr.f) (codeOf E.mo s.fr.f) L → PlcAt E.mo s.fr.f L t a) :
  W.frozen? ⟨g.g, s.low.length * 51 + 1, none⟩ = false ∧ (∃ v, W.cell? ⟨g.g, s.low.length * 51 + 1, none⟩ = some v) ∧
  MM E X g (onAt s a) (W.setCell ⟨g.g, s.low.length * 51 + 1, none⟩ (.int .i64 (t : Nat))) tag ∧ Kp tag tag W (W.setCell ⟨g.g, s.low.length * 51 + 1, none⟩ (.int .i64 (t : Nat))) := by
 obtain ⟨h6, lv, R, mp, x, hx, h⟩ := h
 obtain ⟨a1, -, -⟩ := h.fn _ (Nat.le_refl _)
 rw [fAt_top] at a1
 obtain ⟨e1, e2, ⟨R', e3⟩, e4⟩ := h.setAt h6 (ht _ (h.sta.code _ a1).reads)
 exact ⟨e1, ⟨_, e2⟩, ⟨Nat.le_trans h6 e4.size, lv, R', mp, atF x s t, hx, e3⟩, e4⟩
theorem MM.frame (h : MM E X g s W tag) : Calls Tryz.prog 63 #[ptr X] W (MP E X g s tag W (fp g s)) := by
 obtain ⟨h6, lv, R, mp, x, hx, h⟩ := h
 obtain ⟨cap, hc⟩ := h.vF
 have hn := h.nF
 refine (frame_any X g.g s.low.length cap W (h.xc (by rw [← hc]; rfl)) (by omega)).mono fun e W' ⟨he, hf⟩ => ⟨he, ?_⟩
 exact MM.fr ⟨h6, lv, R, mp, x, hx, h⟩ hf
def NextP (E : Env) (X : Nat) (g : Pl) (s : Ms) (i : Stp) (tag : Nat → Nat) (W : World) (e : Ending) (W' : World) : Prop :=
 ∃ t : Nat, e = .returned (inV (i.op : Nat) (i.pl : Nat) (min i.a 2000000000 : Nat) (min i.b 2000000000 : Nat) (t : Nat)) ∧ (far i.op = true → ∀ L, Reads E.mo s.fr.f (locsOf E.mo s.fr.f) (codeOf E.mo s.fr.f) L → PlcAt E.mo s.fr.f L t i.a) ∧ ∃ tag', MM E X g (onAt s i.nx) W' tag' ∧ Kp tag tag' W W'
theorem MM.next (h : MM E X g s W tag) (hat : s.fr.at_ < (codeOf E.mo s.fr.f).length) {i : Stp} (hd : decodeL E.mo s.fr.f (locsOf E.mo s.fr.f) (codeOf E.mo s.fr.f) s.fr.at_ = .inr i) :
  Calls Tryz.prog 64 #[fp g s] W (NextP E X g s i tag W) := by
 obtain ⟨h6, lv, R, mp, x, hx, h⟩ := h
 obtain ⟨a1, a2, a3⟩ := h.fn _ (Nat.le_refl _)
 rw [fAt_top] at a1 a2 a3
 have C := h.sta.code _ a1
 obtain ⟨gc, cc, T, v1, v2, v3, v4, v5, v6⟩ := C.at_
 obtain ⟨i', hi', hp⟩ : ∃ i, (x.code s.fr.f).2[(x.F s.low.length).ix]? = some i ∧ i.pl = s.fr.at_ := by
  rcases a3 with c | ⟨-, c⟩
  ·exact c
  ·omega
 have hdd := (Chain.decodes C.reads hi').2
 rw [hp, hd] at hdd
 have hii : i = i' := by simpa using hdd
 subst hii
 have hlt := (List.getElem?_eq_some_iff.1 hi').1
 obtain ⟨t, hT⟩ : ∃ t, T[(x.F s.low.length).ix]? = some t := ⟨_, List.getElem?_eq_getElem (by rw [v5.len]; exact hlt)⟩
 obtain ⟨c0, c1, c2, c3, c4⟩ := v5.cell _ _ _ hi' hT
 obtain ⟨⟨cap, r11, hv⟩, -⟩ := h.top
 have o := (h.S.rows 11 h.lF).1
 rw [r11] at o
 have e0 : (rng (s.low.length + 1) fun k => frC (x.F k) (fAt s k))[s.low.length * 51]? = some (x.F s.low.length).cv := by
  have := rng_get (n := s.low.length + 1) (z := 51) (f := fun k => frC (x.F k) (fAt s k)) (fun _ _ => frC_len _ _) (j := s.low.length) (t := 0) (by omega) (by omega)
  exact this
 obtain ⟨f1, f2, ⟨R', f3⟩, f4⟩ := h.setAt h6 (plc_next C.reads hi')
 have hlen := C.len
 refine (next_any g.g (s.low.length * 51) gc (x.F s.low.length).ix _ cc _ _ _ _ _ W ((own_cell o e0).trans (by rw [a2, v1])) f2 f1 hlt (by omega) c0 c1 c2 c3 c4).mono fun e W' ⟨he, hset⟩ => ⟨t, he, fun hf L hL => ?_, ?_⟩
 ·obtain ⟨t', q1, q2⟩ := v6 _ _ hlt hi' hf
  rw [hT] at q1
  have : t = t' := by simpa using q1
  subst this
  rw [chain_unique hL C.reads]
  exact .inl (numb_some q2)
 ·obtain ⟨tg, M2, K2⟩ := MM.fr (g := g) ⟨Nat.le_trans h6 f4.size, lv, R', mp, atF x s _, hx, f3⟩ hset
  exact ⟨tg, M2, f4.trans K2⟩
end
end Go.Proofs.YtmolfmgchbjnbaaGreatDoor
namespace Go.Proofs.YtmolfmgchbjnbaaGreatDoor
open Go.RowKit
open Wire Flow Mach
section
variable {E : Env} {X : Nat} {g : Pl} {s s' : Ms} {W W' : World} {tag tag' : Nat → Nat} {lv : Nat → Bool} {R : Nat → Rw} {mp : Nat → Option (Nat × List (Value × Value))} {x : Mx}
def onL (x : Mx) (rv dv flv : Value) : Mx := { x with rv := rv, dv := dv, flv := flv }
theorem fAt_same (h1 : s'.low = s.low) (h2 : s'.fr = s.fr) (k : Nat) : fAt s' k = fAt s k := by
 unfold fAt
 rw [h1, h2]
theorem MR.rex (h : MR E X g.g s W tag lv R mp x) (h6 : 6 ≤ W.heap.size) {R' : Nat → Rw} (k : Kp tag tag' W W') (hS : Sto W' tag' lv R' mp) {rv dv flv : Value} (h1 : s'.low = s.low) (h2 : s'.fr = s.fr) (h3 : s'.w.globs = s.w.globs) (h4 : s'.w.arrs = s.w.arrs)
  (h10 : R' 10 = ⟨.slice (some ⟨X, 0, none⟩) 1 1, 135, 16, 1, xC (onL x rv dv flv) s'⟩) (hR : ∀ i, i ≠ 10 → R' i = R i)
  (r1 : RoL W' tag' rv ((s'.w.recs.drop s'.w.nr).map .string)) (r2 : RoL W' tag' dv ((s'.w.draws.drop s'.w.drawn).map (.int .i64))) (r3 : RoL W' tag' flv (s'.w.flds.map .string)) : MR E X g.g s' W' tag' lv R' mp (onL x rv dv flv) := by
 refine ⟨hS, h.sta.kp k h6, h.lX, h10, h.lF, ?_, ?_, ?_, h.lG, ?_, h.lA, ?_, ?_, fun i hi => ?_, fun i hi => ?_, fun i j c hi hj hc => ?_, fun i hi => ?_, r1, r2, r3⟩
 ·rw [hR 11 (by decide), h.rF, h1]
  congr 1
  refine rng_congr fun j hj => ?_
  rw [fAt_same h1 h2]
  rfl
 ·rw [h1]; exact h.vF
 ·rw [h1]; exact h.nF
 ·rw [hR 12 (by decide), h.rG, h3]
  rfl
 ·rw [hR 13 (by decide), h.rA, h4]
  rfl
 ·rw [h4]; exact h.nA
 ·rw [h4] at hi ⊢
  obtain ⟨a, b, c⟩ := h.arr i hi
  exact ⟨a, b, by rw [hR _ (by omega)]; exact c⟩
 ·rw [h1] at hi
  obtain ⟨a, b⟩ := h.stk i hi
  rw [fAt_same h1 h2, hR _ (by omega)]
  exact ⟨a, b⟩
 ·rw [h1] at hi
  rw [fAt_same h1 h2] at hj
  obtain ⟨q1, q2, q3, ga, ca, lf, q4, q5, q6⟩ := h.wlk i j c hi hj hc
  rw [h4, hR _ (by omega)]
  exact ⟨q1, q2, q3, ga, ca, lf, q4, q5, q6.kp k⟩
 ·rw [h1] at hi
  rw [fAt_same h1 h2]
  exact h.fn i hi
theorem MM.putX (h : MM E X g s W tag) {j : Nat} (hj : j < 16) {v : Value} (h1 : s'.low = s.low) (h2 : s'.fr = s.fr) (h3 : s'.w.globs = s.w.globs) (h4 : s'.w.arrs = s.w.arrs) (h5 : s'.w.recs = s.w.recs) (h7 : s'.w.nr = s.w.nr) (h8 : s'.w.draws = s.w.draws) (h9 : s'.w.drawn = s.w.drawn) (h11 : s'.w.flds = s.w.flds)
  (hx : ∀ x, xC x s' = (xC x s).set j v) : W.frozen? ⟨X, j, none⟩ = false ∧ (∃ u, W.cell? ⟨X, j, none⟩ = some u) ∧ MM E X g s' (W.setCell ⟨X, j, none⟩ v) tag ∧ Kp tag tag W (W.setCell ⟨X, j, none⟩ v) := by
 obtain ⟨h6, lv, R, mp, x, hxx, h⟩ := h
 have o := (h.S.rows 10 h.lX).1
 rw [h.rX] at o
 obtain ⟨S1, k⟩ := h.S.put h.lX h.rX (j := j) (by omega) v
 obtain ⟨u, hu⟩ : ∃ u, (xC x s)[j]? = some u := ⟨_, List.getElem?_eq_getElem (show j < (xC x s).length from hj)⟩
 refine ⟨own_thaw o _, ⟨u, own_cell o hu⟩, ⟨Nat.le_trans h6 k.size, lv, _, mp, onL x x.rv x.dv x.flv, hxx, h.rex h6 k S1 h1 h2 h3 h4 ?_ (fun i hi => up_off _ _ hi) ?_ ?_ ?_⟩, k⟩
 ·rw [up_same]
  show _ = Rw.mk _ 135 16 1 (xC x s')
  rw [hx]
 ·rw [h5, h7]; exact h.rcs.kp k
 ·rw [h8, h9]; exact h.drw.kp k
 ·rw [h11]; exact h.fld.kp k
theorem MM.setCode (h : MM E X g s W tag) (c : Int) : W.frozen? ⟨X, 13, none⟩ = false ∧ (∃ u, W.cell? ⟨X, 13, none⟩ = some u) ∧ MM E X g { s with code := c } (W.setCell ⟨X, 13, none⟩ (.int .i64 c)) tag ∧ Kp tag tag W (W.setCell ⟨X, 13, none⟩ (.int .i64 c)) :=
 h.putX (by decide) rfl rfl rfl rfl rfl rfl rfl rfl rfl fun x => rfl
theorem MM.setSt (h : MM E X g s W tag) (n : Nat) : W.frozen? ⟨X, 12, none⟩ = false ∧ (∃ u, W.cell? ⟨X, 12, none⟩ = some u) ∧ MM E X g { s with st := n } (W.setCell ⟨X, 12, none⟩ (.int .i64 (n : Nat))) tag ∧ Kp tag tag W (W.setCell ⟨X, 12, none⟩ (.int .i64 (n : Nat))) :=
 h.putX (by decide) rfl rfl rfl rfl rfl rfl rfl rfl rfl fun x => rfl
theorem MM.setUsed (h : MM E X g s W tag) (n : Nat) : W.frozen? ⟨X, 15, none⟩ = false ∧ (∃ u, W.cell? ⟨X, 15, none⟩ = some u) ∧ MM E X g { s with used := n } (W.setCell ⟨X, 15, none⟩ (.int .i64 (n : Nat))) tag ∧ Kp tag tag W (W.setCell ⟨X, 15, none⟩ (.int .i64 (n : Nat))) :=
 h.putX (by decide) rfl rfl rfl rfl rfl rfl rfl rfl rfl fun x => rfl
theorem MM.setOut (h : MM E X g s W tag) (t : ByteArray) : W.frozen? ⟨X, 14, none⟩ = false ∧ (∃ u, W.cell? ⟨X, 14, none⟩ = some u) ∧ MM E X g { s with w := { s.w with out := t } } (W.setCell ⟨X, 14, none⟩ (.string t)) tag ∧ Kp tag tag W (W.setCell ⟨X, 14, none⟩ (.string t)) :=
 h.putX (by decide) rfl rfl rfl rfl rfl rfl rfl rfl rfl fun x => rfl
theorem MM.xnr (h : MM E X g s W tag) : W.cell? ⟨X, 5, none⟩ = some (.int .i64 (s.w.nr : Nat)) := by
 obtain ⟨h6, lv, R, mp, x, hx, h⟩ := h
 exact h.xc rfl
theorem MM.xrcd (h : MM E X g s W tag) : W.cell? ⟨X, 6, none⟩ = some (.string s.w.rcd) := by
 obtain ⟨h6, lv, R, mp, x, hx, h⟩ := h
 exact h.xc rfl
theorem MM.xst (h : MM E X g s W tag) : W.cell? ⟨X, 12, none⟩ = some (.int .i64 (s.st : Nat)) := by
 obtain ⟨h6, lv, R, mp, x, hx, h⟩ := h
 exact h.xc rfl
theorem MM.xcode (h : MM E X g s W tag) : W.cell? ⟨X, 13, none⟩ = some (.int .i64 s.code) := by
 obtain ⟨h6, lv, R, mp, x, hx, h⟩ := h
 exact h.xc rfl
theorem MM.xout (h : MM E X g s W tag) : W.cell? ⟨X, 14, none⟩ = some (.string s.w.out) := by
 obtain ⟨h6, lv, R, mp, x, hx, h⟩ := h
 exact h.xc rfl
theorem MM.xused (h : MM E X g s W tag) : W.cell? ⟨X, 15, none⟩ = some (.int .i64 (s.used : Nat)) := by
 obtain ⟨h6, lv, R, mp, x, hx, h⟩ := h
 exact h.xc rfl
theorem MM.flds (h : MM E X g s W tag) : ∃ o c, W.cell? ⟨X, 7, none⟩ = some (.slice o s.w.flds.length c) ∧ s.w.flds.length ≤ c ∧ ∀ i t, s.w.flds[i]? = some t → ∃ gt off, o = some ⟨gt, off, none⟩ ∧ W.cell? ⟨gt, off + i, none⟩ = some (.string t) := by
 obtain ⟨h6, lv, R, mp, x, hx, h⟩ := h
 obtain ⟨o, c, e1, e2, e2', e3⟩ := h.fld
 rw [List.length_map] at e1
 refine ⟨o, c, h.xc (by rw [← e1]; rfl), by simpa using e2, fun i t hi => ?_⟩
 have hl := (List.getElem?_eq_some_iff.1 hi).1
 obtain ⟨gt, off, e, -, -, e4⟩ := e3 (by simp; omega)
 exact ⟨gt, off, e, e4 i _ (by rw [List.getElem?_map, hi]; rfl)⟩
end
end Go.Proofs.YtmolfmgchbjnbaaGreatDoor
namespace Go.Proofs.YtmolfmgchbjnbaaGreatDoor
open Go.RowKit
open Wire Flow Mach
section
variable {E : Env} {X : Nat} {g : Pl} {s : Ms} {W W' : World} {tag : Nat → Nat}
abbrev stI (n : Int) : Value := .int .i64 n
set_option maxRecDepth 100000 in
set_option maxHeartbeats 4000000 in
theorem MM.rnf (h : MM E X g s W tag) (hl : s.fr.stk.length < 1024) (hn : s.w.flds.length ≤ 1000000) :
  Calls Tryz.prog 117 #[ptr X, fp g s, .int .u8 9] W (MP E X g (onStk s (s.fr.stk ++ [cv (whole s.w.flds.length)])) tag W (stI 0)) := by
 obtain ⟨o, c, x7, hc, -⟩ := h.flds
 have HQ : Hid _ := fun (_ : Unit) => h.pushNumber hl (s.w.flds.length : Nat)
 have hw64 : IntKind.i64.wrap (s.w.flds.length : Int) = s.w.flds.length := by rw [IntKind.wrap_i64]; omega
 clear h
 go_enter Tryz.func117, Tryz.ntmps117
 go_wp2_with fail
 refine (HQ.out ()).mono ?_
 rintro e W1 ⟨rfl, t1, h1, k1⟩
 have HM1 : Hid _ := And.intro h1 (k1)
 have HK1 : Hid _ := k1
 clear h1 k1 HQ
 go_wp2_with fail
 go_ret
 exact ⟨rfl, t1, HM1.out.1, HM1.out.2⟩
set_option maxRecDepth 100000 in
set_option maxHeartbeats 4000000 in
theorem MM.rnr (h : MM E X g s W tag) (hl : s.fr.stk.length < 1024) :
  Calls Tryz.prog 117 #[ptr X, fp g s, .int .u8 10] W (MP E X g (onStk s (s.fr.stk ++ [cv (whole s.w.nr)])) tag W (stI 0)) := by
 have x5 := h.xnr
 have HQ : Hid _ := fun (_ : Unit) => h.pushNumber hl (s.w.nr : Nat)
 clear h
 go_enter Tryz.func117, Tryz.ntmps117
 go_wp2_with fail
 refine (HQ.out ()).mono ?_
 rintro e W1 ⟨rfl, t1, h1, k1⟩
 have HM1 : Hid _ := And.intro h1 (k1)
 have HK1 : Hid _ := k1
 clear h1 k1 HQ
 go_wp2_with fail
 go_ret
 exact ⟨rfl, t1, HM1.out.1, HM1.out.2⟩
set_option maxRecDepth 100000 in
set_option maxHeartbeats 4000000 in
theorem MM.jump (h : MM E X g s W tag) {t a : Nat} (ht : ∀ L, Reads E.mo s.fr.f (locsOf E.mo s.fr.f) (codeOf E.mo s.fr.f) L → PlcAt E.mo s.fr.f L t a) (pl q b : Int) :
  Calls Tryz.prog 128 #[ptr X, fp g s, inV 48 pl q b (t : Nat)] W (MP E X g (onAt s a) tag W (stI 0)) := by
 obtain ⟨W1, hW1, F1, ⟨b0, b1, b2, b3, b4⟩, l1⟩ := box5 W 48 pl q b (t : Nat)
 obtain ⟨t1, h1, k1, -⟩ := MM.box h F1
 obtain ⟨z1, ⟨u, x1⟩, M2, K2⟩ := h1.setAt ht
 obtain ⟨W2, hW2⟩ : ∃ W2, W1.setCell ⟨g.g, s.low.length * 51 + 1, none⟩ (.int .i64 (t : Nat)) = W2 := ⟨_, rfl⟩
 rw [hW2] at M2 K2
 have HM2 : Hid _ := And.intro M2 (k1.trans K2)
 clear h h1 k1 F1 l1 M2 K2
 go_enter Tryz.func128, Tryz.ntmps128
 go_wp2_with fail
 go_ret
 exact ⟨rfl, t1, HM2.out.1, HM2.out.2⟩
set_option maxRecDepth 100000 in
set_option maxHeartbeats 4000000 in
theorem MM.jz (h : MM E X g s W tag) {l : List Cell} {v : Val} (hs : s.fr.stk = l ++ [cv v]) (hl : s.fr.stk.length ≤ 1024) (hv : SmV v) {t a : Nat} (ht : ∀ L, Reads E.mo s.fr.f (locsOf E.mo s.fr.f) (codeOf E.mo s.fr.f) L → PlcAt E.mo s.fr.f L t a) (pl q b : Int) :
  Calls Tryz.prog 128 #[ptr X, fp g s, inV 49 pl q b (t : Nat)] W (MP E X g (if numV v = 0 then onAt (onStk s l) a else onStk s l) tag W (stI 0)) := by
 obtain ⟨W1, hW1, F1, ⟨b0, b1, b2, b3, b4⟩, l1⟩ := box5 W 49 pl q b (t : Nat)
 obtain ⟨t1, h1, k1, hb1⟩ := MM.box h F1
 have HM1 : Hid _ := And.intro h1 k1
 have HB : Hid _ := fun (W2 : World) (t2 : Nat → Nat) (k : Kp t1 t2 W1 W2) => (k.cell (p := ⟨W.heap.size, 4, none⟩) l1 (by show t1 W.heap.size < 10; rw [hb1 _ (Nat.le_refl _)]; decide)).trans b4
 have HP : Hid _ := fun (_ : Unit) => h1.popNumber hs hl hv
 have HA : Hid _ := fun (W2 : World) (t2 : Nat → Nat) (h2 : MM E X g (onStk s l) W2 t2) => MM.setAt h2 (t := t) (a := a) ht
 clear h h1 k1 F1 l1 hb1 b4
 rcases Decidable.em (numV v = 0) with c | c
 ·rw [if_pos c]
  have e0 : (numV v == 0) = true := by simp [c]
  have e0' : decide (numV v = 0) = true := by simp [c]
  go_enter Tryz.func128, Tryz.ntmps128
  go_wp2_with fail
  refine (HP.out ()).mono ?_
  rintro e W2 ⟨rfl, t2, h2, k2⟩
  have HM2 : Hid _ := And.intro h2 (HM1.out.2.trans k2)
  have HK2 : Hid _ := k2
  clear h2 k2 HP
  have b4 := HB.out W2 t2 HK2.out
  obtain ⟨z1, ⟨u, x1'⟩, M3, K3⟩ := HA.out W2 t2 HM2.out.1
  have x1 : W2.cell? ⟨g.g, s.low.length * 51 + 1, none⟩ = some u := x1'
  have z1' : W2.frozen? ⟨g.g, s.low.length * 51 + 1, none⟩ = false := z1
  obtain ⟨W3, hW3⟩ : ∃ W3, W2.setCell ⟨g.g, s.low.length * 51 + 1, none⟩ (.int .i64 (t : Nat)) = W3 := ⟨_, rfl⟩
  have M3' : MM E X g (onAt (onStk s l) a) W3 t2 := by rw [← hW3]; exact M3
  have K3' : Kp t2 t2 W2 W3 := by rw [← hW3]; exact K3
  have HM3 : Hid _ := And.intro M3' (HM2.out.2.trans K3')
  clear M3 K3 M3' K3' HA x1' z1 HB b0 b1 b2 b3
  go_wp2_with fail
  go_ret
  exact ⟨rfl, t2, HM3.out.1, HM3.out.2⟩
 ·rw [if_neg c]
  have e0 : (numV v == 0) = false := by simp [c]
  have e0' : decide (numV v = 0) = false := by simp [c]
  go_enter Tryz.func128, Tryz.ntmps128
  go_wp2_with fail
  refine (HP.out ()).mono ?_
  rintro e W2 ⟨rfl, t2, h2, k2⟩
  have HM2 : Hid _ := And.intro h2 (HM1.out.2.trans k2)
  have HK2 : Hid _ := k2
  clear h2 k2 HP
  have b4 := HB.out W2 t2 HK2.out
  obtain ⟨z1, ⟨u, x1'⟩, M3, K3⟩ := HA.out W2 t2 HM2.out.1
  have x1 : W2.cell? ⟨g.g, s.low.length * 51 + 1, none⟩ = some u := x1'
  have z1' : W2.frozen? ⟨g.g, s.low.length * 51 + 1, none⟩ = false := z1
  obtain ⟨W3, hW3⟩ : ∃ W3, W2.setCell ⟨g.g, s.low.length * 51 + 1, none⟩ (.int .i64 (t : Nat)) = W3 := ⟨_, rfl⟩
  have M3' : MM E X g (onAt (onStk s l) a) W3 t2 := by rw [← hW3]; exact M3
  have K3' : Kp t2 t2 W2 W3 := by rw [← hW3]; exact K3
  have HM3 : Hid _ := And.intro M3' (HM2.out.2.trans K3')
  clear M3 K3 M3' K3' HA x1' z1 HB b0 b1 b2 b3
  go_wp2_with fail
  go_ret
  exact ⟨rfl, t2, HM2.out.1, HM2.out.2⟩
set_option maxRecDepth 100000 in
set_option maxHeartbeats 4000000 in
theorem MM.exit (h : MM E X g s W tag) {l : List Cell} {v : Val} (hs : s.fr.stk = l ++ [cv v]) (hl : s.fr.stk.length ≤ 1024) (hv : SmV v) (pl q b t : Int) :
  Calls Tryz.prog 128 #[ptr X, fp g s, inV 53 pl q b t] W (MP E X g { onStk s l with code := numV v } tag W (stI 2)) := by
 obtain ⟨W1, hW1, F1, ⟨b0, b1, b2, b3, b4⟩, l1⟩ := box5 W 53 pl q b t
 obtain ⟨t1, h1, k1, hb1⟩ := MM.box h F1
 have HM1 : Hid _ := And.intro h1 k1
 have HP : Hid _ := fun (W2 : World) (t2 : Nat → Nat) (h2 : MM E X g s W2 t2) => h2.popNumber hs hl hv
 have HA : Hid _ := fun (W2 : World) (t2 : Nat → Nat) (h2 : MM E X g (onStk s l) W2 t2) => MM.setCode h2 (numV v)
 clear h h1 k1 F1 l1 hb1
 go_enter Tryz.func128, Tryz.ntmps128
 go_wp2_with fail
 refine (HP.out W1 t1 HM1.out.1).mono ?_
 rintro e W2 ⟨rfl, t2, h2, k2⟩
 have HM2 : Hid _ := And.intro h2 (HM1.out.2.trans k2)
 have HK2 : Hid _ := k2
 clear h2 k2 HP
 obtain ⟨z1, ⟨u, x1⟩, M3, K3⟩ := HA.out W2 t2 HM2.out.1
 obtain ⟨W3, hW3⟩ : ∃ W3, W2.setCell ⟨X, 13, none⟩ (.int .i64 (numV v)) = W3 := ⟨_, rfl⟩
 rw [hW3] at M3 K3
 have HM3 : Hid _ := And.intro M3 (HM2.out.2.trans K3)
 clear M3 K3 HA b0 b1 b2 b3 b4
 go_wp2_with fail
 go_ret
 exact ⟨rfl, t2, HM3.out.1, HM3.out.2⟩
end
end Go.Proofs.YtmolfmgchbjnbaaGreatDoor
namespace Go.Proofs.YtmolfmgchbjnbaaGreatDoor
open Go.RowKit
open Wire Flow Mach
section
variable {E : Env} {X : Nat} {g : Pl} {s : Ms} {W W' : World} {tag : Nat → Nat}
theorem MM.noDraw (h : MM E X g s W tag) (hd : s.w.draws[s.w.drawn]? = none) : ∃ o c, W.cell? ⟨X, 4, none⟩ = some (.slice o 0 c) := by
 obtain ⟨h6, lv, R, mp, x, hx, h⟩ := h
 obtain ⟨o, c, e1, -⟩ := h.drw
 have : s.w.draws.drop s.w.drawn = [] := List.drop_eq_nil_of_le (List.getElem?_eq_none_iff.1 hd)
 rw [this] at e1
 exact ⟨o, c, h.xc (by rw [show (Value.slice o 0 c) = x.dv from e1.symm]; rfl)⟩
def onDraw (s : Ms) : Ms := { s with w := { s.w with drawn := s.w.drawn + 1 } }
theorem MM.setDraw (h : MM E X g s W tag) {n : Int} (hd : s.w.draws[s.w.drawn]? = some n) : ∃ gt off m c, W.cell? ⟨X, 4, none⟩ = some (.slice (some ⟨gt, off, none⟩) (m + 1) c) ∧ m + 1 ≤ c ∧ c ≤ 9223372036854775807 ∧ W.cell? ⟨gt, off, none⟩ = some (.int .i64 n) ∧ W.frozen? ⟨X, 4, none⟩ = false ∧
  ∀ o', (c ≠ 1 → o' = some ⟨gt, off + 1, none⟩) → MM E X g (onDraw s) (W.setCell ⟨X, 4, none⟩ (.slice o' m (c - 1))) tag ∧ Kp tag tag W (W.setCell ⟨X, 4, none⟩ (.slice o' m (c - 1))) := by
 obtain ⟨h6, lv, R, mp, x, hx, h⟩ := h
 obtain ⟨o, c, e1, e2, e2', e3⟩ := h.drw
 have hl := (List.getElem?_eq_some_iff.1 hd).1
 have hc : s.w.draws.drop s.w.drawn = n :: s.w.draws.drop (s.w.drawn + 1) := by
  rw [List.drop_eq_getElem_cons hl, (List.getElem?_eq_some_iff.1 hd).2]
 rw [hc] at e1 e2 e3
 simp only [List.map_cons, List.length_cons] at e1 e2 e3
 obtain ⟨gt, off, e4, e5, e6, e7⟩ := e3 (by omega)
 have ow := (h.S.rows 10 h.lX).1
 rw [h.rX] at ow
 refine ⟨gt, off, ((s.w.draws.drop (s.w.drawn + 1)).map (Value.int .i64)).length, c, h.xc (by rw [← e4, ← e1]; rfl), e2, e2', by have := e7 0 _ rfl; exact this, own_thaw ow _, fun o' ho => ?_⟩
 obtain ⟨S1, k⟩ := h.S.put h.lX h.rX (j := 4) (by omega) (.slice o' ((s.w.draws.drop (s.w.drawn + 1)).map (Value.int .i64)).length (c - 1))
 refine ⟨⟨Nat.le_trans h6 k.size, lv, _, mp, onL x x.rv (.slice o' ((s.w.draws.drop (s.w.drawn + 1)).map (Value.int .i64)).length (c - 1)) x.flv, hx, h.rex h6 k S1 rfl rfl rfl rfl ?_ (fun i hi => up_off _ _ hi) (h.rcs.kp k) ?_ (h.fld.kp k)⟩, k⟩
 ·rw [up_same]
  rfl
 ·refine ⟨o', c - 1, rfl, ?_, by omega, fun h0 => ?_⟩
  ·show ((s.w.draws.drop (s.w.drawn + 1)).map (Value.int .i64)).length ≤ _
   omega
  ·have h0' : 0 < ((s.w.draws.drop (s.w.drawn + 1)).map (Value.int .i64)).length := h0
   refine ⟨gt, off + 1, ho (by omega), Nat.lt_of_lt_of_le e5 k.size, (k.ret gt e5).trans e6, fun i v hv => ?_⟩
   have := e7 (i + 1) v hv
   rw [show off + (i + 1) = off + 1 + i by omega] at this
   exact (k.cell (p := ⟨gt, off + 1 + i, none⟩) e5 (by show tag gt < 10; omega)).trans this
set_option maxRecDepth 100000 in
set_option maxHeartbeats 4000000 in
theorem MM.draw0 (h : MM E X g s W tag) (hd : s.w.draws[s.w.drawn]? = none) : Calls Tryz.prog 223 #[ptr X] W (MP E X g s tag W (stI 0)) := by
 obtain ⟨o, c, x4⟩ := h.noDraw hd
 have HM1 : Hid _ := h
 clear h
 go_enter Tryz.func223, Tryz.ntmps223
 go_wp2_with fail
 go_ret
 exact ⟨rfl, tag, HM1.out, Kp.refl _ _⟩
set_option maxRecDepth 100000 in
set_option maxHeartbeats 4000000 in
theorem MM.draw1 (h : MM E X g s W tag) {n : Int} (hd : s.w.draws[s.w.drawn]? = some n) : Calls Tryz.prog 223 #[ptr X] W (MP E X g (onDraw s) tag W (stI n)) := by
 obtain ⟨gt, off, m, c, x4, hc, hc', y0, z4, HF⟩ := h.setDraw hd
 have e0 : (((m + 1 : Nat) : Int) == 0) = false := by simp; omega
 have hw64 : IntKind.i64.wrap ((m + 1 : Nat) : Int) = ((m + 1 : Nat) : Int) := by rw [IntKind.wrap_i64]; omega
 have HF' : Hid _ := HF
 clear HF h
 rcases Decidable.em (c = 1) with hc1 | hc1
 ·subst hc1
  have hm0 : m = 0 := by omega
  subst hm0
  go_enter Tryz.func223, Tryz.ntmps223
  go_wp2_with fail
  go_ret
  exact ⟨rfl, tag, (HF'.out (some ⟨gt, off, none⟩) (fun h => absurd rfl h)).1, (HF'.out (some ⟨gt, off, none⟩) (fun h => absurd rfl h)).2⟩
 ·go_enter Tryz.func223, Tryz.ntmps223
  go_wp2_with fail
  go_ret
  exact ⟨rfl, tag, (HF'.out _ (fun _ => rfl)).1, (HF'.out _ (fun _ => rfl)).2⟩
set_option maxRecDepth 100000 in
set_option maxHeartbeats 4000000 in
theorem MM.idraw0 (h : MM E X g s W tag) (hl : s.fr.stk.length < 1024) (hd : s.w.draws[s.w.drawn]? = none) (pl a b q : Int) :
  Calls Tryz.prog 126 #[ptr X, fp g s, inV 43 pl a b q] W (MP E X g (onStk s (s.fr.stk ++ [cv (whole 0)])) tag W (stI 0)) := by
 obtain ⟨W1, hW1, F1, ⟨b0, b1, b2, b3, b4⟩, l1⟩ := box5 W 43 pl a b q
 obtain ⟨t1, h1, k1, -⟩ := MM.box h F1
 have HM1 : Hid _ := And.intro h1 k1
 have HD : Hid _ := fun (_ : Unit) => h1.draw0 hd
 have HQ : Hid _ := fun (W1 : World) (t1 : Nat → Nat) (h1 : MM E X g s W1 t1) => MM.pushNumber h1 hl 0
 clear h h1 k1 F1 l1
 go_enter Tryz.func126, Tryz.ntmps126
 go_wp2_with fail
 refine (HD.out ()).mono ?_
 rintro e W2 ⟨rfl, t2, h2, k2⟩
 have HM2 : Hid _ := And.intro h2 (HM1.out.2.trans k2)
 have HK2 : Hid _ := k2
 clear h2 k2 HD
 go_wp2_with fail
 refine (HQ.out W2 t2 HM2.out.1).mono ?_
 rintro e W3 ⟨rfl, t3, h3, k3⟩
 have HM3 : Hid _ := And.intro h3 (HM2.out.2.trans k3)
 have HK3 : Hid _ := k3
 clear h3 k3 HQ
 go_wp2_with fail
 go_ret
 exact ⟨rfl, t3, HM3.out.1, HM3.out.2⟩
set_option maxRecDepth 100000 in
set_option maxHeartbeats 4000000 in
theorem MM.idraw1 (h : MM E X g s W tag) (hl : s.fr.stk.length < 1024) {n : Int} (hd : s.w.draws[s.w.drawn]? = some n) (pl a b q : Int) :
  Calls Tryz.prog 126 #[ptr X, fp g s, inV 43 pl a b q] W (MP E X g (onStk (onDraw s) (s.fr.stk ++ [cv (whole n)])) tag W (stI 0)) := by
 obtain ⟨W1, hW1, F1, ⟨b0, b1, b2, b3, b4⟩, l1⟩ := box5 W 43 pl a b q
 obtain ⟨t1, h1, k1, -⟩ := MM.box h F1
 have HM1 : Hid _ := And.intro h1 k1
 have HD : Hid _ := fun (_ : Unit) => h1.draw1 hd
 have HQ : Hid _ := fun (W1 : World) (t1 : Nat → Nat) (h1 : MM E X g (onDraw s) W1 t1) => MM.pushNumber h1 hl n
 clear h h1 k1 F1 l1
 go_enter Tryz.func126, Tryz.ntmps126
 go_wp2_with fail
 refine (HD.out ()).mono ?_
 rintro e W2 ⟨rfl, t2, h2, k2⟩
 have HM2 : Hid _ := And.intro h2 (HM1.out.2.trans k2)
 have HK2 : Hid _ := k2
 clear h2 k2 HD
 go_wp2_with fail
 refine (HQ.out W2 t2 HM2.out.1).mono ?_
 rintro e W3 ⟨rfl, t3, h3, k3⟩
 have HM3 : Hid _ := And.intro h3 (HM2.out.2.trans k3)
 have HK3 : Hid _ := k3
 clear h3 k3 HQ
 go_wp2_with fail
 go_ret
 exact ⟨rfl, t3, HM3.out.1, HM3.out.2⟩
end
end Go.Proofs.YtmolfmgchbjnbaaGreatDoor
