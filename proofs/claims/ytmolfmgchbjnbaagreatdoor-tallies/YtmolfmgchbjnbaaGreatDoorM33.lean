import Derived.Test.YtmolfmgchbjnbaaGreatDoorM32
set_option linter.unusedSimpArgs false
set_option linter.unusedVariables false
namespace Go.Proofs.YtmolfmgchbjnbaaGreatDoor
open Go.RowKit
open Wire Flow Mach
section
variable {E : Env} {X : Nat} {g : Pl} {s : Ms} {W W' : World} {tag : Nat → Nat}
def onSetF (s : Ms) (n : Int) (t : ByteArray) : Ms := { s with w := (setFieldW s.w n t).1 }
theorem MM.setF (h : MM E X g s W tag) (n : Int) (t : ByteArray) (ht : t.size ≤ 100) (hl : s.w.flds.length ≤ 1000) (hf : ∀ x ∈ s.w.flds, x.size ≤ 1048576) :
  Calls Tryz.prog 200 #[ptr X, .int .i64 n, .string t] W (MP E X g (onSetF s n t) tag W (stI (setFieldW s.w n t).2)) := by
 unfold onSetF setFieldW
 by_cases c : n < 0 ∨ n > 50
 ·simp only [if_pos c]
  exact h.setBad n c t
 ·simp only [if_neg c]
  obtain ⟨k, rfl⟩ : ∃ k : Nat, n = (k : Int) := ⟨n.toNat, by omega⟩
  by_cases c0 : (k : Int) = 0
  ·simp only [if_pos c0]
   have := h.setGood (n := k) (by omega) t (jt := t) (fl := cutF t) (fun fo fc hx => by
    rw [c0]
    exact with_zero s.w.rcd t fo _ fc (by omega) W)
   rw [if_neg (by omega), if_neg (by omega)] at this
   exact this
  ·simp only [if_neg c0, Int.toNat_natCast]
   have hsz : (⟨(joinF (putF s.w.flds k t)).toArray⟩ : ByteArray).size = (joinF (putF s.w.flds k t)).length := by
    show Array.size _ = _
    simp
   have := h.setGood (n := k) (by omega) t (jt := ⟨(joinF (putF s.w.flds k t)).toArray⟩) (fl := putF s.w.flds k t) (fun fo fc hx => by
    obtain ⟨fo', fc', hx', -, hc⟩ := h.flds
    rw [hx] at hx'
    obtain ⟨rfl, rfl⟩ : fo = fo' ∧ fc = fc' := by simpa using hx'
    exact with_n s.w.rcd t fo fc k s.w.flds W (by omega) (by omega) hl (by omega) hf hc)
   rw [hsz] at this
   by_cases c1 : (joinF (putF s.w.flds k t)).length > 100
   ·rw [if_pos c1, if_pos c1] at this
    simp only [if_pos c1]
    exact this
   ·rw [if_neg c1, if_neg c1] at this
    simp only [if_neg c1]
    exact this
set_option maxRecDepth 100000 in
set_option maxHeartbeats 4000000 in
theorem MM.rsetfield (hE : EnvOk E) (h : MM E X g s W tag) {l : List Cell} {u v : Val} (hs : s.fr.stk = l ++ [cv u, cv v]) (hl : s.fr.stk.length ≤ 1024) (hu : SmV u) (hv : SmV v) (ht : (textV E v).size ≤ 100) (hfl : s.w.flds.length ≤ 1000) (hf : ∀ x ∈ s.w.flds, x.size ≤ 1048576) :
  Calls Tryz.prog 117 #[ptr X, fp g s, .int .u8 8] W (MP E X g (onSetF (onStk s l) (numV u) (textV E v)) tag W (stI (setFieldW s.w (numV u) (textV E v)).2)) := by
 have hs1 : s.fr.stk = (l ++ [cv u]) ++ [cv v] := by rw [hs]; simp
 have hlu : (l ++ [cv u]).length ≤ 1024 := by rw [hs] at hl; simp at hl ⊢; omega
 have HP : Hid _ := fun (_ : Unit) => MM.popText hE h hs1 hl hv
 have HN : Hid _ := fun (W1 : World) (t1 : Nat → Nat) (h1 : MM E X g (onStk s (l ++ [cv u])) W1 t1) => MM.popNumber h1 (l := l) (v := u) rfl hlu hu
 have HS : Hid _ := fun (W1 : World) (t1 : Nat → Nat) (h1 : MM E X g (onStk s l) W1 t1) => MM.setF h1 (numV u) (textV E v) ht hfl hf
 replace HN : Hid (∀ (W1 : World) (t1 : Nat → Nat), MM E X g (onStk s (l ++ [cv u])) W1 t1 → Calls Tryz.prog 197 #[fp g s] W1 (MP E X g (onStk s l) t1 W1 (.int .i64 (numV u)))) := HN
 replace HS : Hid (∀ (W1 : World) (t1 : Nat → Nat), MM E X g (onStk s l) W1 t1 → Calls Tryz.prog 200 #[ptr X, .int .i64 (numV u), .string (textV E v)] W1 (MP E X g (onSetF (onStk s l) (numV u) (textV E v)) t1 W1 (stI (setFieldW s.w (numV u) (textV E v)).2))) := HS
 generalize onSetF (onStk s l) (numV u) (textV E v) = s2 at HS ⊢
 generalize (setFieldW s.w (numV u) (textV E v)).2 = st at HS ⊢
 generalize textV E v = tx at HP HS
 generalize numV u = nn at HN HS
 clear h hs hs1 ht hfl hf
 go_enter Tryz.func117, Tryz.ntmps117
 go_wp2_with fail
 refine (HP.out ()).mono ?_
 rintro e W1 ⟨rfl, t1, h1, k1⟩
 have HM1 : Hid _ := And.intro h1 (k1)
 have HK1 : Hid _ := k1
 clear h1 k1 HP
 go_wp2_with fail
 refine (HN.out W1 t1 HM1.out.1).mono ?_
 rintro e W2 ⟨rfl, t2, h2, k2⟩
 have HM2 : Hid _ := And.intro h2 (HM1.out.2.trans k2)
 have HK2 : Hid _ := k2
 clear h2 k2 HN
 go_wp2_with fail
 refine (HS.out W2 t2 HM2.out.1).mono ?_
 rintro e W3 ⟨rfl, t3, h3, k3⟩
 have HM3 : Hid _ := And.intro h3 (HM2.out.2.trans k3)
 have HK3 : Hid _ := k3
 clear h3 k3 HS
 go_wp2_with fail
 go_ret
 exact ⟨rfl, t3, HM3.out.1, HM3.out.2⟩
end
end Go.Proofs.YtmolfmgchbjnbaaGreatDoor
namespace Go.Proofs.YtmolfmgchbjnbaaGreatDoor
open Go.RowKit
open Wire Flow Mach
section
variable {E : Env} {X : Nat} {g : Pl} {s : Ms} {W W' : World} {tag : Nat → Nat}
theorem MM.patAt (h : MM E X g s W tag) {i : Nat} {t : ByteArray} (hi : E.mo.pats[i]? = some t) :
  ∃ gp n cap pb, g.pv = .slice (some ⟨gp, 0, none⟩) n cap ∧ i < n ∧ n ≤ 1000 ∧ W.cell? ⟨X, 1, none⟩ = some (.slice (some ⟨gp, 0, none⟩) n cap) ∧ W.cell? ⟨gp, i, none⟩ = some (ptr pb) ∧ pb < W.heap.size ∧ tag pb = 9 ∧ gp < W.heap.size ∧ tag gp = 9 ∧ PatG E W pb t := by
 obtain ⟨h6, lv, R, mp, x, hx, h⟩ := h
 obtain ⟨o, cap, e1, e2, e3⟩ := h.sta.pat
 obtain ⟨gp, pb, q1, q2, q3, q4, q5, q6, q7⟩ := e3 i t hi
 rw [q1] at e1
 exact ⟨gp, E.mo.pats.length, cap, pb, hx.1.2.2.1.symm.trans e1, (List.getElem?_eq_some_iff.1 hi).1, e2, h.xc (by rw [← e1]; rfl), q4, q5, q6, q2, q3, q7⟩
set_option maxRecDepth 100000 in
set_option maxHeartbeats 4000000 in
theorem MM.pfind (hE : EnvOk E) (h : MM E X g s W tag) {l : List Cell} {v : Val} (hs : s.fr.stk = l ++ [cv v]) (hl : s.fr.stk.length ≤ 1024) (hv : SmV v) (hx : (textV E v).size ≤ 100) {a : Nat} {t : ByteArray} (ha : E.mo.pats[a]? = some t) (hb : -1 ≤ (E.fnd t (textV E v)).1 ∧ (E.fnd t (textV E v)).1 ≤ 1000000) (pl b q : Int) :
  Calls Tryz.prog 124 #[ptr X, fp g s, inV 35 pl (a : Nat) b q] W (MP E X g (onStk s (l ++ [cv (whole ((E.fnd t (textV E v)).1 + 1))])) tag W (stI 0)) := by
 have hl1 : l.length < 1024 := by rw [hs] at hl; simp at hl; omega
 obtain ⟨W1, hW1, F1, ⟨b0, b1, b2, b3, b4⟩, l1⟩ := box5 W 35 pl (a : Nat) b q
 obtain ⟨t1, h1, k1, hb1⟩ := MM.box h F1
 have HM1 : Hid _ := And.intro h1 k1
 have hq : t1 W.heap.size < 10 := by rw [hb1 _ (Nat.le_refl _)]; decide
 have HB : Hid _ := fun (W2 : World) (t2 : Nat → Nat) (k : Kp t1 t2 W1 W2) => And.intro ((k.cell (p := ⟨W.heap.size, 0, none⟩) l1 hq).trans b0) (And.intro ((k.cell (p := ⟨W.heap.size, 2, none⟩) l1 hq).trans b2) ((k.cell (p := ⟨W.heap.size, 3, none⟩) l1 hq).trans b3))
 have HP : Hid _ := fun (_ : Unit) => MM.popText hE h1 hs hl hv
 have HA : Hid _ := fun (W2 : World) (t2 : Nat → Nat) (h2 : MM E X g (onStk s l) W2 t2) => And.intro (h2.patAt ha) h2.tab
 have HG : Hid _ := fun (W2 : World) (pb : Nat) (hp : PatG E W2 pb t) (hT : Tab W2) => (hp W2 rfl hT).1 (textV E v) hx
 have HQ : Hid _ := fun (W2 : World) (t2 : Nat → Nat) (h2 : MM E X g (onStk s l) W2 t2) => MM.pushNumber h2 (show l.length < 1024 from hl1) ((E.fnd t (textV E v)).1 + 1)
 have hw : IntKind.i64.wrap ((E.fnd t (textV E v)).1 + 1) = (E.fnd t (textV E v)).1 + 1 := by rw [IntKind.wrap_i64]; omega
 generalize (E.fnd t (textV E v)).1 = p1 at *
 generalize (E.fnd t (textV E v)).2 = p2 at *
 generalize textV E v = tx at *
 clear h h1 k1 F1 l1 hb1 hx hb hq b0 b1 b2 b3 b4
 go_enter Tryz.func124, Tryz.ntmps124
 go_wp2_with fail
 refine (HP.out ()).mono ?_
 rintro e W2 ⟨rfl, t2, h2, k2⟩
 have HM2 : Hid _ := And.intro h2 (HM1.out.2.trans k2)
 have HK2 : Hid _ := k2
 clear h2 k2 HP
 obtain ⟨b0, b2, -⟩ := HB.out W2 t2 HK2.out
 obtain ⟨⟨gp, n, cap, pb, -, hin, hn, x1, xp, -, -, -, -, hg⟩, hT⟩ := HA.out W2 t2 HM2.out.1
 have HC : Hid _ := fun (_ : Unit) => HG.out W2 pb hg hT
 have hi' : (a : Int) < n := by omega
 clear hg hT HA HG HB HK2
 go_wp2_with fail
 refine (HC.out ()).mono ?_
 rintro e W3 ⟨rfl, F3⟩
 obtain ⟨t3, h3, k3⟩ := MM.fr HM2.out.1 F3
 have HM3 : Hid _ := And.intro h3 (HM2.out.2.trans k3)
 have HK3 : Hid _ := k3
 clear h3 k3 F3
 clear HC
 go_wp2_with fail
 refine (HQ.out W3 t3 HM3.out.1).mono ?_
 rintro e W4 ⟨rfl, t4, h4, k4⟩
 have HM4 : Hid _ := And.intro h4 (HM3.out.2.trans k4)
 have HK4 : Hid _ := k4
 clear h4 k4 HQ
 go_wp2_with fail
 go_ret
 exact ⟨rfl, t4, HM4.out.1, HM4.out.2⟩
set_option maxRecDepth 100000 in
set_option maxHeartbeats 4000000 in
theorem MM.pspan (hE : EnvOk E) (h : MM E X g s W tag) {l : List Cell} {v : Val} (hs : s.fr.stk = l ++ [cv v]) (hl : s.fr.stk.length ≤ 1024) (hv : SmV v) (hx : (textV E v).size ≤ 100) {a : Nat} {t : ByteArray} (ha : E.mo.pats[a]? = some t) (pl b q : Int) :
  Calls Tryz.prog 124 #[ptr X, fp g s, inV 36 pl (a : Nat) b q] W (MP E X g (onStk s (l ++ [cv (whole (if (E.fnd t (textV E v)).1 < 0 then -1 else (E.fnd t (textV E v)).2))])) tag W (stI 0)) := by
 have hl1 : l.length < 1024 := by rw [hs] at hl; simp at hl; omega
 obtain ⟨W1, hW1, F1, ⟨b0, b1, b2, b3, b4⟩, l1⟩ := box5 W 36 pl (a : Nat) b q
 obtain ⟨t1, h1, k1, hb1⟩ := MM.box h F1
 have HM1 : Hid _ := And.intro h1 k1
 have hq : t1 W.heap.size < 10 := by rw [hb1 _ (Nat.le_refl _)]; decide
 have HB : Hid _ := fun (W2 : World) (t2 : Nat → Nat) (k : Kp t1 t2 W1 W2) => And.intro ((k.cell (p := ⟨W.heap.size, 0, none⟩) l1 hq).trans b0) (And.intro ((k.cell (p := ⟨W.heap.size, 2, none⟩) l1 hq).trans b2) ((k.cell (p := ⟨W.heap.size, 3, none⟩) l1 hq).trans b3))
 have HP : Hid _ := fun (_ : Unit) => MM.popText hE h1 hs hl hv
 have HA : Hid _ := fun (W2 : World) (t2 : Nat → Nat) (h2 : MM E X g (onStk s l) W2 t2) => And.intro (h2.patAt ha) h2.tab
 have HG : Hid _ := fun (W2 : World) (pb : Nat) (hp : PatG E W2 pb t) (hT : Tab W2) => (hp W2 rfl hT).1 (textV E v) hx
 have HQ : Hid _ := fun (W2 : World) (t2 : Nat → Nat) (h2 : MM E X g (onStk s l) W2 t2) => MM.pushNumber h2 (show l.length < 1024 from hl1) (if (E.fnd t (textV E v)).1 < 0 then -1 else (E.fnd t (textV E v)).2)
 generalize (E.fnd t (textV E v)).1 = p1 at *
 generalize (E.fnd t (textV E v)).2 = p2 at *
 generalize textV E v = tx at *
 clear h h1 k1 F1 l1 hb1 hx hq b0 b1 b2 b3 b4
 rcases Decidable.em (p1 < 0) with c | c
 ·rw [if_pos c] at HQ ⊢
  go_enter Tryz.func124, Tryz.ntmps124
  go_wp2_with fail
  refine (HP.out ()).mono ?_
  rintro e W2 ⟨rfl, t2, h2, k2⟩
  have HM2 : Hid _ := And.intro h2 (HM1.out.2.trans k2)
  have HK2 : Hid _ := k2
  clear h2 k2 HP
  obtain ⟨b0, b2, -⟩ := HB.out W2 t2 HK2.out
  obtain ⟨⟨gp, n, cap, pb, -, hin, hn, x1, xp, -, -, -, -, hg⟩, hT⟩ := HA.out W2 t2 HM2.out.1
  have HC : Hid _ := fun (_ : Unit) => HG.out W2 pb hg hT
  have hi' : (a : Int) < n := by omega
  clear hg hT HA HG HB HK2
  go_wp2_with fail
  refine (HC.out ()).mono ?_
  rintro e W3 ⟨rfl, F3⟩
  obtain ⟨t3, h3, k3⟩ := MM.fr HM2.out.1 F3
  have HM3 : Hid _ := And.intro h3 (HM2.out.2.trans k3)
  have HK3 : Hid _ := k3
  clear h3 k3 F3
  clear HC
  go_wp2_with fail
  refine (HQ.out W3 t3 HM3.out.1).mono ?_
  rintro e W4 ⟨rfl, t4, h4, k4⟩
  have HM4 : Hid _ := And.intro h4 (HM3.out.2.trans k4)
  have HK4 : Hid _ := k4
  clear h4 k4 HQ
  go_wp2_with fail
  go_ret
  exact ⟨rfl, t4, HM4.out.1, HM4.out.2⟩
 ·rw [if_neg c] at HQ ⊢
  go_enter Tryz.func124, Tryz.ntmps124
  go_wp2_with fail
  refine (HP.out ()).mono ?_
  rintro e W2 ⟨rfl, t2, h2, k2⟩
  have HM2 : Hid _ := And.intro h2 (HM1.out.2.trans k2)
  have HK2 : Hid _ := k2
  clear h2 k2 HP
  obtain ⟨b0, b2, -⟩ := HB.out W2 t2 HK2.out
  obtain ⟨⟨gp, n, cap, pb, -, hin, hn, x1, xp, -, -, -, -, hg⟩, hT⟩ := HA.out W2 t2 HM2.out.1
  have HC : Hid _ := fun (_ : Unit) => HG.out W2 pb hg hT
  have hi' : (a : Int) < n := by omega
  clear hg hT HA HG HB HK2
  go_wp2_with fail
  refine (HC.out ()).mono ?_
  rintro e W3 ⟨rfl, F3⟩
  obtain ⟨t3, h3, k3⟩ := MM.fr HM2.out.1 F3
  have HM3 : Hid _ := And.intro h3 (HM2.out.2.trans k3)
  have HK3 : Hid _ := k3
  clear h3 k3 F3
  clear HC
  go_wp2_with fail
  refine (HQ.out W3 t3 HM3.out.1).mono ?_
  rintro e W4 ⟨rfl, t4, h4, k4⟩
  have HM4 : Hid _ := And.intro h4 (HM3.out.2.trans k4)
  have HK4 : Hid _ := k4
  clear h4 k4 HQ
  go_wp2_with fail
  go_ret
  exact ⟨rfl, t4, HM4.out.1, HM4.out.2⟩
end
end Go.Proofs.YtmolfmgchbjnbaaGreatDoor
namespace Go.Proofs.YtmolfmgchbjnbaaGreatDoor
open Go.RowKit
open Wire Flow Mach
theorem fillA_snoc (E : Env) (l : List ByteArray) (x : ByteArray) : ∀ i, fillA E i (l ++ [x]) = fillA E i l ++ [(E.itoa ((i + l.length : Nat) + 1 : Int), readV x)] := by
 induction l with
 | nil => intro i; simp [fillA]
 | cons a l ih =>
  intro i
  rw [List.cons_append, fillA, ih (i + 1), fillA, List.cons_append, show i + 1 + l.length = i + (a :: l).length by simp only [List.length_cons]; omega]
section
variable {E : Env} {X : Nat} {g : Pl} {s : Ms} {W W' : World} {tag : Nat → Nat}
theorem onArr_twice (s : Ms) (i : Nat) (a b : List (ByteArray × Val)) : onArr (onArr s i a) i b = onArr s i b := by
 unfold onArr
 simp only [List.set_set]
def FlI (E : Env) (X : Nat) (g : Pl) (s : Ms) (i : Nat) (L : List ByteArray) (tag : Nat → Nat) (W : World) (k : Nat) (wr : World) : Prop := ∃ t, MM E X g (onArr s i (fillA E 0 (L.take k))) wr t ∧ Kp tag t W wr
theorem fill_new {E : Env} (hS : SmE E) {L : List ByteArray} {k : Nat} (hk : k < L.length) (hn : L.length ≤ 30) : hasK (fillA E 0 (L.take k)) (E.itoa ((k : Int) + 1)) = false := by
 rcases hq : hasK (fillA E 0 (L.take k)) (E.itoa ((k : Int) + 1)) with _ | _
 ·rfl
 ·obtain ⟨j, g1, g2, g3⟩ := fillA_keys (hasK_iff.1 hq)
  rw [List.length_take] at g2
  have := hS.inj (k + 1) j (by omega) (by omega) (by rw [← g3]; congr 1)
  omega
theorem FlI.step (hS : SmE E) {ga c : Nat} (hg : g.av = .slice (some ⟨ga, 0, none⟩) s.w.arrs.length c) {i : Nat} (hi : i < s.w.arrs.length) {L : List ByteArray} (hn : L.length ≤ 30) (hL : ∀ x ∈ L, x.size ≤ 100) {k : Nat} (hk : k < L.length) {wr : World} {t : Nat → Nat} (M : MM E X g (onArr s i (fillA E 0 (L.take k))) wr t) (K : Kp tag t W wr) {x : ByteArray} (hx : L[k]? = some x) :
  Calls Tryz.prog 205 #[.pointer (some ⟨ga, i * 2, none⟩), .string (E.itoa ((k : Int) + 1)), vV (readV x)] wr fun e W' => e = .returned unit ∧ FlI E X g s i L tag W (k + 1) W' := by
 have hlen : (onArr s i (fillA E 0 (L.take k))).w.arrs.length = s.w.arrs.length := arr_len s i _
 have hget : (onArr s i (fillA E 0 (L.take k))).w.arrs.getD i [] = fillA E 0 (L.take k) := arr_same s hi _
 have hnew := fill_new hS hk hn
 obtain ⟨q1, q2⟩ := fillA_sm (i := 0) hS (l := L.take k) (fun t ht => hL t (List.mem_of_mem_take ht)) (by rw [List.length_take]; omega)
 have ho : ArrOk (fillA E 0 (L.take k)) := ⟨q1, fun e he => Nat.le_trans (q2 e he).1 (by decide)⟩
 have hfl : (fillA E 0 (L.take k)).length < 100000 := by rw [fillA_length, List.length_take]; omega
 have := M.setNew (c := c) (by rw [hlen]; exact hg) (i := i) (by rw [hlen]; exact hi) (key := E.itoa ((k : Int) + 1)) (Nat.le_trans (hS.itoa _ (by omega) (by omega)) (by decide)) (by rw [hget]; exact ho) (by rw [hget]; exact hnew) (by rw [hget]; exact hfl) (readV x)
 rw [hget, onArr_twice, setK_new hnew] at this
 refine this.mono fun e W' ⟨he, t', M', K'⟩ => ⟨he, t', ?_, K.trans K'⟩
 have e1 : L.take (k + 1) = L.take k ++ [x] := by
  rw [List.take_add_one, hx]
  rfl
 have e2 : (L.take k).length = k := by rw [List.length_take]; omega
 rw [e1, fillA_snoc, Nat.zero_add, e2]
 exact M'
set_option maxRecDepth 100000 in
set_option maxHeartbeats 4000000 in
theorem MM.fill (hE : EnvOk E) (hS : SmE E) (h : MM E X g s W tag) {ga c : Nat} (hg : g.av = .slice (some ⟨ga, 0, none⟩) s.w.arrs.length c) {i : Nat} (hi : i < s.w.arrs.length) {L : List ByteArray} (hn : L.length ≤ 30) (hL : ∀ x ∈ L, x.size ≤ 100) {o : Option Addr} {lc : Nat} (hc : ∀ (j : Nat) (x : ByteArray), L[j]? = some x → ∃ gl off, o = some ⟨gl, off, none⟩ ∧ tag gl < 10 ∧ W.cell? ⟨gl, off + j, none⟩ = some (.string x)) :
    Calls Tryz.prog 220 #[.pointer (some ⟨ga, i * 2, none⟩), .slice o L.length lc] W (MP E X g (onArr s i (fillA E 0 L)) tag W unit) := by
  have HE0 : Hid _ := fun (_ : Unit) => h.empty hg hi
  have HST : Hid _ := fun (k : Nat) (hk : k < L.length) (wr : World) (J : FlI E X g s i L tag W k wr) => by
    obtain ⟨t, M, K⟩ := J
    obtain ⟨x, hx⟩ : ∃ x, L[k]? = some x := ⟨_, List.getElem?_eq_getElem hk⟩
    obtain ⟨gl, off, e1, e2, e3⟩ := hc k x hx
    have hgl := lt_of_cell e3
    exact (⟨x, gl, off, t, M, K, e1, (K.cell (p := ⟨gl, off + k, none⟩) hgl e2).trans e3, M.pow, hL x (List.mem_of_getElem? hx), fun wr' t' M' K' => FlI.step hS hg hi hn hL hk M' K' hx⟩ : ∃ x gl off t, MM E X g (onArr s i (fillA E 0 (L.take k))) wr t ∧ Kp tag t W wr ∧ o = some ⟨gl, off, none⟩ ∧ wr.cell? ⟨gl, off + k, none⟩ = some (.string x) ∧ PowTab wr ∧ x.size ≤ 100 ∧
      ∀ (wr' : World) (t' : Nat → Nat), MM E X g (onArr s i (fillA E 0 (L.take k))) wr' t' → Kp tag t' W wr' → Calls Tryz.prog 205 #[.pointer (some ⟨ga, i * 2, none⟩), .string (E.itoa ((k : Int) + 1)), vV (readV x)] wr' fun e W' => e = .returned unit ∧ FlI E X g s i L tag W (k + 1) W')
  have HEND : Hid (∀ wr, FlI E X g s i L tag W L.length wr → ∃ t, MM E X g (onArr s i (fillA E 0 L)) wr t ∧ Kp tag t W wr) := fun wr J => by
    obtain ⟨t, M, K⟩ := J
    rw [List.take_length] at M
    exact ⟨t, M, K⟩
  have HBEG : Hid (∀ wr t, MM E X g (onArr s i []) wr t → Kp tag t W wr → FlI E X g s i L tag W 0 wr) := fun wr t M K => ⟨t, M, K⟩
  have hit : E.itoa = itoaB := hE.itoa
  generalize onArr s i (fillA E 0 L) = s2 at HEND ⊢
  obtain ⟨n, hn'⟩ : ∃ n, L.length = n := ⟨_, rfl⟩
  rw [hn'] at hn HST HEND ⊢
  have hw64 : IntKind.i64.wrap (n : Int) = n := by rw [IntKind.wrap_i64]; omega
  clear h hc hL hn'
  go_enter Tryz.func220, Tryz.ntmps220
  go_wp2_with fail
  refine (HE0.out ()).mono ?_
  rintro e W1 ⟨rfl, t1, M1, K1⟩
  have J0 : Hid _ := HBEG.out W1 t1 M1 K1
  clear M1 K1 HE0 HBEG
  go_wp2
  go_loopw [10] (fun q wr => ∃ k : Nat, k ≤ n ∧ q = .int .i64 k ∧ Hid (FlI E X g s i L tag W k wr)) (fun q _ => n - (intOf q).toNat)
  case atStart => exact ⟨0, by omega, rfl, J0⟩
  case round =>
    clear J0
    obtain ⟨k, hk, rfl, J⟩ := hrel
    by_cases hlt : k < n
    · have g1 : (k : Int) < n := by omega
      obtain ⟨x, gl, off, t, M, K, rfl, hcell, hpow, hxs, HS⟩ := HST.out k hlt wr J.out
      have HM : Hid _ := And.intro M K
      have HI : Hid _ := fun (_ : Unit) => itoa_any ((k : Int) + 1) wr (by omega) (by omega) hpow
      have HR : Hid _ := fun (W2 : World) => read_v x (Nat.le_trans hxs (by decide)) W2
      have HSS : Hid _ := HS
      rw [hit] at HSS
      have hw1 : IntKind.i64.wrap ((k : Int) + 1) = (k : Int) + 1 := by rw [IntKind.wrap_i64]; omega
      unfold vV at HSS HR
      generalize itoaB ((k : Int) + 1) = key at HI HSS
      generalize ((readV x).kind : Int) = kk at HR HSS
      generalize vN (readV x) = mm at HR HSS
      generalize vS (readV x) = tt at HR HSS
      clear M K hpow HS HST J hit
      go_wp2_with fail
      refine (HI.out ()).mono ?_
      rintro e W2 ⟨rfl, F2⟩
      have HF2 : Hid _ := F2
      clear F2 HI
      go_wp2_with fail
      refine (HR.out W2).mono ?_
      rintro e W3 ⟨rfl, F3⟩
      obtain ⟨t3, M3, K3⟩ := MM.fr HM.out.1 (HF2.out.trans F3)
      have HC : Hid _ := fun (_ : Unit) => HSS.out W3 t3 M3 (HM.out.2.trans K3)
      clear M3 K3 F3 HR HSS
      go_wp2_with fail
      refine (HC.out ()).mono ?_
      rintro e W4 ⟨rfl, J4⟩
      have HJ : Hid _ := J4
      clear J4 HC
      go_wp2_with fail
      exact ⟨⟨k + 1, by omega, by go_num, HJ⟩, by simp [intOf]; omega⟩
    · have g1 : ¬ ((k : Int) < n) := by omega
      have hkn : k = n := by omega
      subst hkn
      have HF : Hid _ := HEND.out wr J.out
      clear HEND HST J
      go_wp2_with fail
      refine bodyPost_end (results_none rfl _ _ _) rfl ?_
      exact ⟨rfl, HF.out⟩
end
end Go.Proofs.YtmolfmgchbjnbaaGreatDoor
namespace Go.Proofs.YtmolfmgchbjnbaaGreatDoor
open Go.RowKit
open Wire Flow Mach
section
variable {E : Env} {X : Nat} {g : Pl} {s : Ms} {W W' : World} {tag : Nat → Nat}
set_option maxRecDepth 100000 in
set_option maxHeartbeats 1000000 in
theorem MM.pswap (hE : EnvOk E) (h : MM E X g s W tag) {l : List Cell} {u v : Val} (hs : s.fr.stk = l ++ [cv u, cv v]) (hl : s.fr.stk.length ≤ 1024) (hu : SmV u) (hv : SmV v) (hxu : (textV E u).size ≤ 100) (hxv : (textV E v).size ≤ 100) {a : Nat} {t : ByteArray} (ha : E.mo.pats[a]? = some t) (pl b q : Int) :
  Calls Tryz.prog 124 #[ptr X, fp g s, inV 37 pl (a : Nat) b q] W (MP E X g (onStk s (l ++ if (E.swp t (textV E u) (textV E v)).size > 100 then [] else [cv (words (E.swp t (textV E u) (textV E v)))])) tag W (stI (if (E.swp t (textV E u) (textV E v)).size > 100 then 6 else 0))) := by
 have hs1 : s.fr.stk = (l ++ [cv u]) ++ [cv v] := by rw [hs]; simp
 have hlu : (l ++ [cv u]).length ≤ 1024 := by rw [hs] at hl; simp at hl ⊢; omega
 have hl1 : l.length < 1024 := by simp at hlu; omega
 have hm : Tryz.prog.follows Departure.mixedOrders = true := by kernel_rfl
 obtain ⟨W1, hW1, F1, ⟨b0, b1, b2, b3, b4⟩, l1⟩ := box5 W 37 pl (a : Nat) b q
 obtain ⟨t1, h1, k1, hb1⟩ := MM.box h F1
 have HM1 : Hid _ := And.intro h1 k1
 have hq : t1 W.heap.size < 10 := by rw [hb1 _ (Nat.le_refl _)]; decide
 have HB : Hid _ := fun (W2 : World) (t2 : Nat → Nat) (k : Kp t1 t2 W1 W2) => And.intro ((k.cell (p := ⟨W.heap.size, 0, none⟩) l1 hq).trans b0) (And.intro ((k.cell (p := ⟨W.heap.size, 2, none⟩) l1 hq).trans b2) ((k.cell (p := ⟨W.heap.size, 3, none⟩) l1 hq).trans b3))
 have HP : Hid _ := fun (_ : Unit) => MM.popText hE h1 hs1 hl hv
 have HP2 : Hid _ := fun (W2 : World) (t2 : Nat → Nat) (h2 : MM E X g (onStk s (l ++ [cv u])) W2 t2) => MM.popText hE h2 (l := l) (v := u) rfl hlu hu
 have HA : Hid _ := fun (W2 : World) (t2 : Nat → Nat) (h2 : MM E X g (onStk s (l ++ [cv u])) W2 t2) => h2.patAt ha
 have HA2 : Hid _ := fun (W2 : World) (t2 : Nat → Nat) (h2 : MM E X g (onStk s l) W2 t2) => h2.patAt ha
 have HG : Hid _ := fun (W2 : World) (pb : Nat) (hp : PatG E W2 pb t) (hT : Tab W2) => (hp W2 rfl hT).2.1 (textV E u) (textV E v) hxu hxv
 have HL : Hid _ := fun (W2 : World) => isLong_any (E.swp t (textV E u) (textV E v)) W2
 have HQ : Hid _ := fun (W2 : World) (t2 : Nat → Nat) (h2 : MM E X g (onStk s l) W2 t2) => MM.pushText h2 (show l.length < 1024 from hl1) (E.swp t (textV E u) (textV E v))
 replace HP2 : Hid (∀ (W1 : World) (t1 : Nat → Nat), MM E X g (onStk s (l ++ [cv u])) W1 t1 → Calls Tryz.prog 199 #[fp g s] W1 (MP E X g (onStk s l) t1 W1 (.string (textV E u)))) := HP2
 generalize E.swp t (textV E u) (textV E v) = sw at *
 generalize textV E u = tu at *
 generalize textV E v = tv at *
 clear h h1 k1 F1 l1 hb1 hxu hxv hq b0 b1 b2 b3 b4 hs1
 rcases Decidable.em (sw.size > 100) with c | c
 ·rw [if_pos c, if_pos c, List.append_nil]
  rw [show decide ((sw.size : Int) > 100) = true from decide_eq_true (by omega)] at HL
  clear c
  go_enter Tryz.func124, Tryz.ntmps124
  go_wp2_with fail
  refine (HP.out ()).mono ?_
  rintro e W2 ⟨rfl, t2, h2, k2⟩
  have HM2 : Hid _ := And.intro h2 (HM1.out.2.trans k2)
  have HK2 : Hid _ := k2
  clear h2 k2 HP
  obtain ⟨b0, b2, -⟩ := HB.out W2 t2 HK2.out
  obtain ⟨gp, n, cap, pb, -, hin, hn, x1, xp, hpl, hpt, hgl, hgt, hg⟩ := HA.out W2 t2 HM2.out.1
  have hi' : (a : Int) < n := by omega
  have HX1 : Hid _ := x1
  have HPB : Hid _ := And.intro hpl (And.intro hpt (And.intro hgl (And.intro hgt hg)))
  clear hpl hpt hgl hgt hg HB HK2
  go_wp2_with fail
  refine wp_region_heldD (fun V => V.cell? ⟨X, 1, none⟩ = some (.slice (some ⟨gp, 0, none⟩) n cap) ∧ V.cell? ⟨gp, a, none⟩ = some (ptr pb)) hm ?_
  obtain ⟨WD, hWD⟩ : ∃ WD, W2.drew = WD := ⟨_, rfl⟩
  rw [hWD]
  have F3 : Fr [] W2 WD := by rw [← hWD]; exact (Fr.refl [] W2).drew
  have hS : WD.cell? ⟨X, 1, none⟩ = some (.slice (some ⟨gp, 0, none⟩) n cap) ∧ WD.cell? ⟨gp, a, none⟩ = some (ptr pb) := by rw [← hWD]; exact ⟨x1, xp⟩
  obtain ⟨t3, h3, k3⟩ := MM.fr HM2.out.1 F3
  have HM3 : Hid _ := And.intro h3 (HM2.out.2.trans k3)
  have HK3 : Hid _ := k3
  clear h3 k3 F3 x1 xp hWD
  refine wpAnyH_takes (fun _ _ _ _ _ h => h) hS [0, 1, 2, 3, 4, 5, 6, 7, 9] (by kernel_rfl) ?_
  iterate 9
   refine Yls.cons (v := ?_) rfl (.inl ⟨rfl, fun w1 hS1 => ?_⟩) ?_
   rotate_left
   ·obtain ⟨p0, p1⟩ := hS1
    go_simp
    first | rfl | (refine (if_neg (by omega)).trans ?_; rfl)
   simp only [Act.put, List.setIfInBounds_toArray, List.set_cons_zero, List.set_cons_succ, List.getElem_toArray, List.getElem_cons_succ, List.getElem_cons_zero]
  refine Yls.nil ?_
  refine wpAnyH_ready (rs := [8]) (by kernel_rfl) (by simp) ?_
  refine AllReadyH.cons rfl (fun K hK => ?_) AllReadyH.nil
  go_simp
  refine (HP2.out WD t3 HM3.out.1).mono ?_
  rintro e W4 ⟨rfl, t4, h4, k4⟩
  have k24 := HK3.out.trans k4
  have xp4 : W4.cell? ⟨gp, a, none⟩ = some (ptr pb) := (k4.cell (p := ⟨gp, a, none⟩) (lt_of_cell hS.2) (by show t3 gp < 10; rw [HK3.out.ret gp HPB.out.2.2.1, HPB.out.2.2.2.1]; decide)).trans hS.2
  obtain ⟨gp', n', cap', pb', e1', -, -, x1', -⟩ := HA2.out W4 t4 h4
  obtain ⟨gp0, n0, cap0, pb0, e0, -, -, x0, -⟩ := HA.out W2 t2 HM2.out.1
  have hS4 : W4.cell? ⟨X, 1, none⟩ = some (.slice (some ⟨gp, 0, none⟩) n cap) ∧ W4.cell? ⟨gp, a, none⟩ = some (ptr pb) := by
   refine ⟨?_, xp4⟩
   rw [x1', ← e1', e0, ← x0]
   exact HX1.out
  have hg4 : PatG E W4 pb t := HPB.out.2.2.2.2.of_block (k24.blk pb HPB.out.1 (by rw [HPB.out.2.1]; decide))
  have HC : Hid _ := fun (_ : Unit) => HG.out W4 pb hg4 h4.tab
  have HM4 : Hid _ := And.intro h4 (HM3.out.2.trans k4)
  clear h4 k4 k24 xp4 x1' e1' e0 x0 hg4 HG HA HA2 HP2
  clear hS
  have hS := hS4
  clear hS4
  refine hK _ _ hS ?_
  clear hK K
  intro _
  try simp only [Act.put, List.setIfInBounds_toArray, List.set_cons_zero, List.set_cons_succ, List.getElem_toArray, List.getElem_cons_succ, List.getElem_cons_zero]
  refine wpAnyH_ready (rs := [10]) (by kernel_rfl) (by simp) ?_
  refine AllReadyH.cons rfl (fun K hK => ?_) AllReadyH.nil
  go_simp
  refine (HC.out ()).mono ?_
  rintro e W5 ⟨rfl, F5⟩
  have hS5 : W5.cell? ⟨X, 1, none⟩ = some (.slice (some ⟨gp, 0, none⟩) n cap) ∧ W5.cell? ⟨gp, a, none⟩ = some (ptr pb) := ⟨(F5.cell (p := ⟨X, 1, none⟩) (lt_of_cell hS.1) (by simp)).trans hS.1, (F5.cell (p := ⟨gp, a, none⟩) (lt_of_cell hS.2) (by simp)).trans hS.2⟩
  obtain ⟨t5, h5, k5⟩ := MM.fr HM4.out.1 F5
  have HM5 : Hid _ := And.intro h5 (HM4.out.2.trans k5)
  have HK5 : Hid _ := k5
  clear h5 k5 F5
  clear hS HC
  refine hK _ _ hS5 ?_
  clear hK K
  intro _
  try simp only [Act.put, List.setIfInBounds_toArray, List.set_cons_zero, List.set_cons_succ, List.getElem_toArray, List.getElem_cons_succ, List.getElem_cons_zero]
  refine wpAnyH_ready (rs := [11]) (by kernel_rfl) (by simp) ?_
  refine AllReadyH.cons rfl (fun K hK => ?_) AllReadyH.nil
  go_simp
  refine hK _ _ hS5 ?_
  clear hK K
  intro _
  try simp only [Act.put, List.setIfInBounds_toArray, List.set_cons_zero, List.set_cons_succ, List.getElem_toArray, List.getElem_cons_succ, List.getElem_cons_zero]
  refine wpAnyH_done (by kernel_rfl) ?_ _
  clear hS5
  go_wp2_with fail
  refine (HL.out W5).mono ?_
  rintro e W6 ⟨rfl, rfl⟩
  clear HL
  go_wp2_with fail
  go_ret
  exact ⟨rfl, t5, HM5.out.1, HM5.out.2⟩
 ·rw [if_neg c, if_neg c]
  rw [show decide ((sw.size : Int) > 100) = false from decide_eq_false (by omega)] at HL
  clear c
  go_enter Tryz.func124, Tryz.ntmps124
  go_wp2_with fail
  refine (HP.out ()).mono ?_
  rintro e W2 ⟨rfl, t2, h2, k2⟩
  have HM2 : Hid _ := And.intro h2 (HM1.out.2.trans k2)
  have HK2 : Hid _ := k2
  clear h2 k2 HP
  obtain ⟨b0, b2, -⟩ := HB.out W2 t2 HK2.out
  obtain ⟨gp, n, cap, pb, -, hin, hn, x1, xp, hpl, hpt, hgl, hgt, hg⟩ := HA.out W2 t2 HM2.out.1
  have hi' : (a : Int) < n := by omega
  have HX1 : Hid _ := x1
  have HPB : Hid _ := And.intro hpl (And.intro hpt (And.intro hgl (And.intro hgt hg)))
  clear hpl hpt hgl hgt hg HB HK2
  go_wp2_with fail
  refine wp_region_heldD (fun V => V.cell? ⟨X, 1, none⟩ = some (.slice (some ⟨gp, 0, none⟩) n cap) ∧ V.cell? ⟨gp, a, none⟩ = some (ptr pb)) hm ?_
  obtain ⟨WD, hWD⟩ : ∃ WD, W2.drew = WD := ⟨_, rfl⟩
  rw [hWD]
  have F3 : Fr [] W2 WD := by rw [← hWD]; exact (Fr.refl [] W2).drew
  have hS : WD.cell? ⟨X, 1, none⟩ = some (.slice (some ⟨gp, 0, none⟩) n cap) ∧ WD.cell? ⟨gp, a, none⟩ = some (ptr pb) := by rw [← hWD]; exact ⟨x1, xp⟩
  obtain ⟨t3, h3, k3⟩ := MM.fr HM2.out.1 F3
  have HM3 : Hid _ := And.intro h3 (HM2.out.2.trans k3)
  have HK3 : Hid _ := k3
  clear h3 k3 F3 x1 xp hWD
  refine wpAnyH_takes (fun _ _ _ _ _ h => h) hS [0, 1, 2, 3, 4, 5, 6, 7, 9] (by kernel_rfl) ?_
  iterate 9
   refine Yls.cons (v := ?_) rfl (.inl ⟨rfl, fun w1 hS1 => ?_⟩) ?_
   rotate_left
   ·obtain ⟨p0, p1⟩ := hS1
    go_simp
    first | rfl | (refine (if_neg (by omega)).trans ?_; rfl)
   simp only [Act.put, List.setIfInBounds_toArray, List.set_cons_zero, List.set_cons_succ, List.getElem_toArray, List.getElem_cons_succ, List.getElem_cons_zero]
  refine Yls.nil ?_
  refine wpAnyH_ready (rs := [8]) (by kernel_rfl) (by simp) ?_
  refine AllReadyH.cons rfl (fun K hK => ?_) AllReadyH.nil
  go_simp
  refine (HP2.out WD t3 HM3.out.1).mono ?_
  rintro e W4 ⟨rfl, t4, h4, k4⟩
  have k24 := HK3.out.trans k4
  have xp4 : W4.cell? ⟨gp, a, none⟩ = some (ptr pb) := (k4.cell (p := ⟨gp, a, none⟩) (lt_of_cell hS.2) (by show t3 gp < 10; rw [HK3.out.ret gp HPB.out.2.2.1, HPB.out.2.2.2.1]; decide)).trans hS.2
  obtain ⟨gp', n', cap', pb', e1', -, -, x1', -⟩ := HA2.out W4 t4 h4
  obtain ⟨gp0, n0, cap0, pb0, e0, -, -, x0, -⟩ := HA.out W2 t2 HM2.out.1
  have hS4 : W4.cell? ⟨X, 1, none⟩ = some (.slice (some ⟨gp, 0, none⟩) n cap) ∧ W4.cell? ⟨gp, a, none⟩ = some (ptr pb) := by
   refine ⟨?_, xp4⟩
   rw [x1', ← e1', e0, ← x0]
   exact HX1.out
  have hg4 : PatG E W4 pb t := HPB.out.2.2.2.2.of_block (k24.blk pb HPB.out.1 (by rw [HPB.out.2.1]; decide))
  have HC : Hid _ := fun (_ : Unit) => HG.out W4 pb hg4 h4.tab
  have HM4 : Hid _ := And.intro h4 (HM3.out.2.trans k4)
  clear h4 k4 k24 xp4 x1' e1' e0 x0 hg4 HG HA HA2 HP2
  clear hS
  have hS := hS4
  clear hS4
  refine hK _ _ hS ?_
  clear hK K
  intro _
  try simp only [Act.put, List.setIfInBounds_toArray, List.set_cons_zero, List.set_cons_succ, List.getElem_toArray, List.getElem_cons_succ, List.getElem_cons_zero]
  refine wpAnyH_ready (rs := [10]) (by kernel_rfl) (by simp) ?_
  refine AllReadyH.cons rfl (fun K hK => ?_) AllReadyH.nil
  go_simp
  refine (HC.out ()).mono ?_
  rintro e W5 ⟨rfl, F5⟩
  have hS5 : W5.cell? ⟨X, 1, none⟩ = some (.slice (some ⟨gp, 0, none⟩) n cap) ∧ W5.cell? ⟨gp, a, none⟩ = some (ptr pb) := ⟨(F5.cell (p := ⟨X, 1, none⟩) (lt_of_cell hS.1) (by simp)).trans hS.1, (F5.cell (p := ⟨gp, a, none⟩) (lt_of_cell hS.2) (by simp)).trans hS.2⟩
  obtain ⟨t5, h5, k5⟩ := MM.fr HM4.out.1 F5
  have HM5 : Hid _ := And.intro h5 (HM4.out.2.trans k5)
  have HK5 : Hid _ := k5
  clear h5 k5 F5
  clear hS HC
  refine hK _ _ hS5 ?_
  clear hK K
  intro _
  try simp only [Act.put, List.setIfInBounds_toArray, List.set_cons_zero, List.set_cons_succ, List.getElem_toArray, List.getElem_cons_succ, List.getElem_cons_zero]
  refine wpAnyH_ready (rs := [11]) (by kernel_rfl) (by simp) ?_
  refine AllReadyH.cons rfl (fun K hK => ?_) AllReadyH.nil
  go_simp
  refine hK _ _ hS5 ?_
  clear hK K
  intro _
  try simp only [Act.put, List.setIfInBounds_toArray, List.set_cons_zero, List.set_cons_succ, List.getElem_toArray, List.getElem_cons_succ, List.getElem_cons_zero]
  refine wpAnyH_done (by kernel_rfl) ?_ _
  clear hS5
  go_wp2_with fail
  refine (HL.out W5).mono ?_
  rintro e W6 ⟨rfl, rfl⟩
  clear HL
  go_wp2_with fail
  refine (HQ.out W6 t5 HM5.out.1).mono ?_
  rintro e W7 ⟨rfl, t7, h7, k7⟩
  have HM7 : Hid _ := And.intro h7 (HM5.out.2.trans k7)
  have HK7 : Hid _ := k7
  clear h7 k7 HQ
  go_wp2_with fail
  go_ret
  exact ⟨rfl, t7, HM7.out.1, HM7.out.2⟩
end
end Go.Proofs.YtmolfmgchbjnbaaGreatDoor
