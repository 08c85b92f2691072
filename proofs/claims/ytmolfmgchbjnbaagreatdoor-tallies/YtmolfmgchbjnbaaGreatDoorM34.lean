import Derived.Test.YtmolfmgchbjnbaaGreatDoorM33
set_option linter.unusedSimpArgs false
set_option linter.unusedVariables false
namespace Go.Proofs.YtmolfmgchbjnbaaGreatDoor
open Go.RowKit
open Wire Flow Mach
section
variable {E : Env} {X : Nat} {g : Pl} {s : Ms} {W W' : World} {tag : Nat → Nat}
set_option maxRecDepth 100000 in
set_option maxHeartbeats 1000000 in
theorem MM.psplit (hE : EnvOk E) (hSE : SmE E) (h : MM E X g s W tag) {l : List Cell} {v : Val} (hs : s.fr.stk = l ++ [cv v]) (hl : s.fr.stk.length ≤ 1024) (hv : SmV v) (hx : (textV E v).size ≤ 100) {a bi : Nat} {t : ByteArray} (hb : E.mo.pats[bi]? = some t) (ha : a < s.w.arrs.length) (hna : s.w.arrs.length ≤ 1000) (hbig : (E.spl t (textV E v)).length ≤ 1000000) (pl q : Int) :
  Calls Tryz.prog 124 #[ptr X, fp g s, inV 38 pl (a : Nat) (bi : Nat) q] W (MP E X g (if (E.spl t (textV E v)).length > 30 then onStk s l else onStk (onArr s a (fillA E 0 (E.spl t (textV E v)))) (l ++ [cv (whole ((E.spl t (textV E v)).length : Int))])) tag W (stI (if (E.spl t (textV E v)).length > 30 then 7 else 0))) := by
 have hl1 : l.length < 1024 := by rw [hs] at hl; simp at hl; omega
 obtain ⟨ga, gc, hga⟩ := h.avS ha
 have hm : Tryz.prog.follows Departure.mixedOrders = true := by kernel_rfl
 obtain ⟨W1, hW1, F1, ⟨b0, b1, b2, b3, b4⟩, l1⟩ := box5 W 38 pl (a : Nat) (bi : Nat) q
 obtain ⟨t1, h1, k1, hb1⟩ := MM.box h F1
 have HM1 : Hid _ := And.intro h1 k1
 have hq : t1 W.heap.size < 10 := by rw [hb1 _ (Nat.le_refl _)]; decide
 have HB : Hid _ := fun (W2 : World) (t2 : Nat → Nat) (k : Kp t1 t2 W1 W2) => And.intro ((k.cell (p := ⟨W.heap.size, 0, none⟩) l1 hq).trans b0) (And.intro ((k.cell (p := ⟨W.heap.size, 2, none⟩) l1 hq).trans b2) ((k.cell (p := ⟨W.heap.size, 3, none⟩) l1 hq).trans b3))
 have HP : Hid _ := fun (_ : Unit) => MM.popText hE h1 hs hl hv
 have HA : Hid _ := fun (W2 : World) (t2 : Nat → Nat) (h2 : MM E X g (onStk s l) W2 t2) => h2.patAt hb
 have HG : Hid _ := fun (W2 : World) (pb : Nat) (hp : PatG E W2 pb t) (hT : Tab W2) => (hp W2 rfl hT).2.2 (textV E v) hx
 have hLs : ∀ x ∈ E.spl t (textV E v), x.size ≤ 100 := hSE.spl t (textV E v) hx
 have hi2 : (a : Int) < s.w.arrs.length := by omega
 generalize E.spl t (textV E v) = L at *
 generalize textV E v = tx at *
 have HFI : Hid (L.length ≤ 30 → ∀ (W5 : World) (t5 : Nat → Nat), MM E X g (onStk s l) W5 t5 → ∀ (o : Option Addr) (lc : Nat), (∀ (j : Nat) (x : ByteArray), L[j]? = some x → ∃ gl off, o = some ⟨gl, off, none⟩ ∧ t5 gl < 10 ∧ W5.cell? ⟨gl, off + j, none⟩ = some (.string x)) → Calls Tryz.prog 220 #[.pointer (some ⟨ga, a * 2, none⟩), .slice o L.length lc] W5 (MP E X g (onArr (onStk s l) a (fillA E 0 L)) t5 W5 unit)) := fun hn W5 t5 h5 o lc hc => h5.fill hE hSE hga ha hn hLs hc
 have HAV : Hid (∀ (W5 : World) (t5 : Nat → Nat), MM E X g (onStk s l) W5 t5 → W5.cell? ⟨X, 9, none⟩ = some (.slice (some ⟨ga, 0, none⟩) s.w.arrs.length gc)) := fun W5 t5 h5 => h5.avc.trans (congrArg some hga)
 have HQ : Hid (∀ (W5 : World) (t5 : Nat → Nat), MM E X g (onArr (onStk s l) a (fillA E 0 L)) W5 t5 → Calls Tryz.prog 192 #[fp g s, .int .i64 (L.length : Int)] W5 (MP E X g (onStk (onArr s a (fillA E 0 L)) (l ++ [cv (whole (L.length : Int))])) t5 W5 unit)) := fun W5 t5 h5 => MM.pushNumber h5 (show l.length < 1024 from hl1) (L.length : Int)
 have hw64 : IntKind.i64.wrap (L.length : Int) = L.length := by rw [IntKind.wrap_i64]; omega
 clear h h1 k1 F1 l1 hb1 hx hq b0 b1 b2 b3 b4 hLs hga
 rcases Decidable.em (L.length > 30) with c | c
 ·rw [if_pos c, if_pos c]
  have c' : (L.length : Int) > 30 := by omega
  replace HFI : Hid (∀ (W5 : World) (t5 : Nat → Nat), MM E X g (onStk s l) W5 t5 → ∀ (o : Option Addr) (lc : Nat), (∀ (j : Nat) (x : ByteArray), L[j]? = some x → ∃ gl off, o = some ⟨gl, off, none⟩ ∧ t5 gl < 10 ∧ W5.cell? ⟨gl, off + j, none⟩ = some (.string x)) → True) := fun _ _ _ _ _ _ => trivial
  clear HQ HAV
  go_enter Tryz.func124, Tryz.ntmps124
  go_wp2_with fail
  refine (HP.out ()).mono ?_
  rintro e W2 ⟨rfl, t2, h2, k2⟩
  have HM2 : Hid _ := And.intro h2 (HM1.out.2.trans k2)
  have HK2 : Hid _ := k2
  clear h2 k2 HP
  obtain ⟨b0, b2, b3⟩ := HB.out W2 t2 HK2.out
  obtain ⟨gp, n, cap, pb, -, hin, hn, x1, xp, -, -, -, -, hg⟩ := HA.out W2 t2 HM2.out.1
  have hi' : (bi : Int) < n := by omega
  have HPG : Hid _ := hg
  clear hg HB HK2 HA
  go_wp2_with fail
  refine wp_region_heldD (fun V => V.cell? ⟨X, 1, none⟩ = some (.slice (some ⟨gp, 0, none⟩) n cap) ∧ V.cell? ⟨gp, bi, none⟩ = some (ptr pb) ∧ V.cell? ⟨W.heap.size, 3, none⟩ = some (.int .i64 (bi : Nat))) hm ?_
  obtain ⟨WD, hWD⟩ : ∃ WD, W2.drew = WD := ⟨_, rfl⟩
  rw [hWD]
  have F3 : Fr [] W2 WD := by rw [← hWD]; exact (Fr.refl [] W2).drew
  have hS : WD.cell? ⟨X, 1, none⟩ = some (.slice (some ⟨gp, 0, none⟩) n cap) ∧ WD.cell? ⟨gp, bi, none⟩ = some (ptr pb) ∧ WD.cell? ⟨W.heap.size, 3, none⟩ = some (.int .i64 (bi : Nat)) := by rw [← hWD]; exact ⟨x1, xp, b3⟩
  have hpD : PatG E WD pb t := by rw [← hWD]; exact HPG.out
  obtain ⟨t3, h3, k3⟩ := MM.fr HM2.out.1 F3
  have HC : Hid _ := fun (_ : Unit) => HG.out WD pb hpD h3.tab
  have HM3 : Hid _ := And.intro h3 (HM2.out.2.trans k3)
  clear h3 k3 F3 x1 xp hWD HPG hpD HG
  refine wpAnyH_takes (fun _ _ _ _ _ h => h) hS [0, 1, 2, 3, 4, 5, 6, 7, 8, 9] (by kernel_rfl) ?_
  iterate 10
   refine Yls.cons (v := ?_) rfl (.inl ⟨rfl, fun w1 hS1 => ?_⟩) ?_
   rotate_left
   ·obtain ⟨p0, p1, p2⟩ := hS1
    go_simp
    first | rfl | (refine (if_neg (by omega)).trans ?_; rfl)
   simp only [Act.put, List.setIfInBounds_toArray, List.set_cons_zero, List.set_cons_succ, List.getElem_toArray, List.getElem_cons_succ, List.getElem_cons_zero]
  refine Yls.nil ?_
  refine wpAnyH_ready (rs := [10]) (by kernel_rfl) (by simp) ?_
  refine AllReadyH.cons rfl (fun K hK => ?_) AllReadyH.nil
  go_simp
  refine (HC.out ()).mono ?_
  rintro e W4 ⟨v', rfl, ⟨o, lc, rfl, hcl⟩, F4⟩
  have hS4 : W4.cell? ⟨X, 1, none⟩ = some (.slice (some ⟨gp, 0, none⟩) n cap) ∧ W4.cell? ⟨gp, bi, none⟩ = some (ptr pb) ∧ W4.cell? ⟨W.heap.size, 3, none⟩ = some (.int .i64 (bi : Nat)) := ⟨(F4.cell (p := ⟨X, 1, none⟩) (lt_of_cell hS.1) (by simp)).trans hS.1, (F4.cell (p := ⟨gp, bi, none⟩) (lt_of_cell hS.2.1) (by simp)).trans hS.2.1, (F4.cell (p := ⟨W.heap.size, 3, none⟩) (lt_of_cell hS.2.2) (by simp)).trans hS.2.2⟩
  obtain ⟨t4, h4, k4, hb4⟩ := MM.box HM3.out.1 F4
  have HFL : Hid _ := fun (W5 : World) (t5 : Nat → Nat) (h5 : MM E X g (onStk s l) W5 t5) (k5 : Kp t4 t5 W4 W5) => HFI.out W5 t5 h5 o lc (fun j x hj => by
   obtain ⟨gl, off, e1, e2, e3⟩ := hcl j x hj
   have hgl : gl < W4.heap.size := lt_of_cell e3
   have h6 : t4 gl = 6 := hb4 gl e2
   exact ⟨gl, off, e1, by rw [k5.ret gl hgl, h6]; decide, (k5.cell (p := ⟨gl, off + j, none⟩) hgl (by show t4 gl < 10; omega)).trans e3⟩)
  have HM4 : Hid _ := And.intro h4 (HM3.out.2.trans k4)
  clear h4 k4 hb4 hcl F4 hS HC HFI
  refine hK _ _ hS4 ?_
  clear hK K
  intro _
  try simp only [Act.put, List.setIfInBounds_toArray, List.set_cons_zero, List.set_cons_succ, List.getElem_toArray, List.getElem_cons_succ, List.getElem_cons_zero]
  refine wpAnyH_ready (rs := [11]) (by kernel_rfl) (by simp) ?_
  refine AllReadyH.cons rfl (fun K hK => ?_) AllReadyH.nil
  go_simp
  refine hK _ _ hS4 ?_
  clear hK K
  intro _
  try simp only [Act.put, List.setIfInBounds_toArray, List.set_cons_zero, List.set_cons_succ, List.getElem_toArray, List.getElem_cons_succ, List.getElem_cons_zero]
  refine wpAnyH_done (by kernel_rfl) ?_ _
  clear hS4
  generalize L.length = ln at *
  go_wp2_with fail
  go_ret
  exact ⟨rfl, t4, HM4.out.1, HM4.out.2⟩
 ·rw [if_neg c, if_neg c]
  have c' : ¬ (L.length : Int) > 30 := by omega
  replace HFI : Hid _ := HFI.out (by omega)
  generalize onStk (onArr s a (fillA E 0 L)) (l ++ [cv (whole (L.length : Int))]) = s2 at HQ ⊢
  generalize onArr (onStk s l) a (fillA E 0 L) = s1 at HQ HFI
  go_enter Tryz.func124, Tryz.ntmps124
  go_wp2_with fail
  refine (HP.out ()).mono ?_
  rintro e W2 ⟨rfl, t2, h2, k2⟩
  have HM2 : Hid _ := And.intro h2 (HM1.out.2.trans k2)
  have HK2 : Hid _ := k2
  clear h2 k2 HP
  obtain ⟨b0, b2, b3⟩ := HB.out W2 t2 HK2.out
  obtain ⟨gp, n, cap, pb, -, hin, hn, x1, xp, -, -, -, -, hg⟩ := HA.out W2 t2 HM2.out.1
  have hi' : (bi : Int) < n := by omega
  have HPG : Hid _ := hg
  clear hg HB HK2 HA
  go_wp2_with fail
  refine wp_region_heldD (fun V => V.cell? ⟨X, 1, none⟩ = some (.slice (some ⟨gp, 0, none⟩) n cap) ∧ V.cell? ⟨gp, bi, none⟩ = some (ptr pb) ∧ V.cell? ⟨W.heap.size, 3, none⟩ = some (.int .i64 (bi : Nat))) hm ?_
  obtain ⟨WD, hWD⟩ : ∃ WD, W2.drew = WD := ⟨_, rfl⟩
  rw [hWD]
  have F3 : Fr [] W2 WD := by rw [← hWD]; exact (Fr.refl [] W2).drew
  have hS : WD.cell? ⟨X, 1, none⟩ = some (.slice (some ⟨gp, 0, none⟩) n cap) ∧ WD.cell? ⟨gp, bi, none⟩ = some (ptr pb) ∧ WD.cell? ⟨W.heap.size, 3, none⟩ = some (.int .i64 (bi : Nat)) := by rw [← hWD]; exact ⟨x1, xp, b3⟩
  have hpD : PatG E WD pb t := by rw [← hWD]; exact HPG.out
  obtain ⟨t3, h3, k3⟩ := MM.fr HM2.out.1 F3
  have HC : Hid _ := fun (_ : Unit) => HG.out WD pb hpD h3.tab
  have HM3 : Hid _ := And.intro h3 (HM2.out.2.trans k3)
  clear h3 k3 F3 x1 xp hWD HPG hpD HG
  refine wpAnyH_takes (fun _ _ _ _ _ h => h) hS [0, 1, 2, 3, 4, 5, 6, 7, 8, 9] (by kernel_rfl) ?_
  iterate 10
   refine Yls.cons (v := ?_) rfl (.inl ⟨rfl, fun w1 hS1 => ?_⟩) ?_
   rotate_left
   ·obtain ⟨p0, p1, p2⟩ := hS1
    go_simp
    first | rfl | (refine (if_neg (by omega)).trans ?_; rfl)
   simp only [Act.put, List.setIfInBounds_toArray, List.set_cons_zero, List.set_cons_succ, List.getElem_toArray, List.getElem_cons_succ, List.getElem_cons_zero]
  refine Yls.nil ?_
  refine wpAnyH_ready (rs := [10]) (by kernel_rfl) (by simp) ?_
  refine AllReadyH.cons rfl (fun K hK => ?_) AllReadyH.nil
  go_simp
  refine (HC.out ()).mono ?_
  rintro e W4 ⟨v', rfl, ⟨o, lc, rfl, hcl⟩, F4⟩
  have hS4 : W4.cell? ⟨X, 1, none⟩ = some (.slice (some ⟨gp, 0, none⟩) n cap) ∧ W4.cell? ⟨gp, bi, none⟩ = some (ptr pb) ∧ W4.cell? ⟨W.heap.size, 3, none⟩ = some (.int .i64 (bi : Nat)) := ⟨(F4.cell (p := ⟨X, 1, none⟩) (lt_of_cell hS.1) (by simp)).trans hS.1, (F4.cell (p := ⟨gp, bi, none⟩) (lt_of_cell hS.2.1) (by simp)).trans hS.2.1, (F4.cell (p := ⟨W.heap.size, 3, none⟩) (lt_of_cell hS.2.2) (by simp)).trans hS.2.2⟩
  obtain ⟨t4, h4, k4, hb4⟩ := MM.box HM3.out.1 F4
  have HFL : Hid _ := fun (W5 : World) (t5 : Nat → Nat) (h5 : MM E X g (onStk s l) W5 t5) (k5 : Kp t4 t5 W4 W5) => HFI.out W5 t5 h5 o lc (fun j x hj => by
   obtain ⟨gl, off, e1, e2, e3⟩ := hcl j x hj
   have hgl : gl < W4.heap.size := lt_of_cell e3
   have h6 : t4 gl = 6 := hb4 gl e2
   exact ⟨gl, off, e1, by rw [k5.ret gl hgl, h6]; decide, (k5.cell (p := ⟨gl, off + j, none⟩) hgl (by show t4 gl < 10; omega)).trans e3⟩)
  have HM4 : Hid _ := And.intro h4 (HM3.out.2.trans k4)
  clear h4 k4 hb4 hcl F4 hS HC HFI
  refine hK _ _ hS4 ?_
  clear hK K
  intro _
  try simp only [Act.put, List.setIfInBounds_toArray, List.set_cons_zero, List.set_cons_succ, List.getElem_toArray, List.getElem_cons_succ, List.getElem_cons_zero]
  refine wpAnyH_ready (rs := [11]) (by kernel_rfl) (by simp) ?_
  refine AllReadyH.cons rfl (fun K hK => ?_) AllReadyH.nil
  go_simp
  refine hK _ _ hS4 ?_
  clear hK K
  intro _
  try simp only [Act.put, List.setIfInBounds_toArray, List.set_cons_zero, List.set_cons_succ, List.getElem_toArray, List.getElem_cons_succ, List.getElem_cons_zero]
  refine wpAnyH_done (by kernel_rfl) ?_ _
  clear hS4
  generalize L.length = ln at *
  have x9 := HAV.out W4 t4 HM4.out.1
  have HF4 : Hid _ := fun (_ : Unit) => HFL.out W4 t4 HM4.out.1 (Kp.refl _ _)
  clear HFL HAV
  go_wp2_with fail
  refine (HF4.out ()).mono ?_
  rintro e W5 ⟨rfl, t5, h5, k5⟩
  have HM5 : Hid _ := And.intro h5 (HM4.out.2.trans k5)
  have HK5 : Hid _ := k5
  clear h5 k5 HF4
  go_wp2_with fail
  refine (HQ.out W5 t5 HM5.out.1).mono ?_
  rintro e W6 ⟨rfl, t6, h6, k6⟩
  have HM6 : Hid _ := And.intro h6 (HM5.out.2.trans k6)
  have HK6 : Hid _ := k6
  clear h6 k6 HQ
  go_wp2_with fail
  go_ret
  exact ⟨rfl, t6, HM6.out.1, HM6.out.2⟩
end
end Go.Proofs.YtmolfmgchbjnbaaGreatDoor
namespace Go.Proofs.YtmolfmgchbjnbaaGreatDoor
open Go.RowKit
open Wire Flow Mach
section
variable {E : Env} {X : Nat} {g : Pl} {s : Ms} {W W' : World} {tag : Nat → Nat}
def onCut (s : Ms) (lo : List Frm) (f : Frm) : Ms := { s with low := lo, fr := f }
theorem fAt_cut {s : Ms} {lo : List Frm} {f : Frm} (hl : s.low = lo ++ [f]) {k : Nat} (hk : k ≤ lo.length) : fAt (onCut s lo f) k = fAt s k := by
  unfold fAt onCut
  rw [hl]
  simp only [List.length_append, List.length_cons, List.length_nil]
  rw [if_pos (show k < lo.length + (0 + 1) by omega)]
  rcases Nat.lt_or_ge k lo.length with c | c
  · rw [if_pos c, List.getD_eq_getElem?_getD, List.getD_eq_getElem?_getD, List.getElem?_append_left c]
  · have : k = lo.length := by omega
    subst this
    rw [if_neg (Nat.lt_irrefl _), List.getD_eq_getElem?_getD, List.getElem?_append_right (Nat.le_refl _), Nat.sub_self]
    rfl
theorem MM.cutF (h : MM E X g s W tag) {lo : List Frm} {f : Frm} (hl : s.low = lo ++ [f]) :
  ∃ cap, W.cell? ⟨X, 11, none⟩ = some (.slice (some ⟨g.g, 0, none⟩) (lo.length + 2) cap) ∧ lo.length + 2 ≤ cap ∧ lo.length ≤ 20 ∧ W.frozen? ⟨X, 11, none⟩ = false ∧
  MM E X g (onCut s lo f) (W.setCell ⟨X, 11, none⟩ (.slice (some ⟨g.g, 0, none⟩) (lo.length + 1) cap)) tag ∧ Kp tag tag W (W.setCell ⟨X, 11, none⟩ (.slice (some ⟨g.g, 0, none⟩) (lo.length + 1) cap)) := by
 obtain ⟨h6, lv, R, mp, x, hx, h⟩ := h
 obtain ⟨cap, hc⟩ := h.vF
 have hlen : s.low.length = lo.length + 1 := by rw [hl]; simp
 have hnF := h.nF
 have hnA := h.nA
 have o10 := (h.S.rows 10 h.lX).1
 rw [h.rX] at o10
 have o11 := (h.S.rows 11 h.lF).1
 rw [h.rF, hc, hlen] at o11
 simp only at o11
 have hcap : lo.length + 2 ≤ cap := by
  rcases o11.2 with ⟨h', _⟩ | ⟨g', cap', cur, h', hb, hg, hnc, hcm, hcs, ht⟩
  ·cases h'
  ·simp only [Value.slice.injEq, Option.some.injEq, Addr.mk.injEq, and_true, true_and] at h'
   obtain ⟨rfl, rfl⟩ := h'
   omega
 have r11 : R 11 = ⟨.slice (some ⟨g.g, 0, none⟩) (lo.length + 2) cap, 225, 51, lo.length + 2, rng (s.low.length + 1) fun k => frC (x.F k) (fAt s k)⟩ := by rw [h.rF, hc, hlen]
 have S1 := h.S.cut h.lF r11 (n' := lo.length + 1) (by omega)
 obtain ⟨S2, K2⟩ := S1.put (i := 10) h.lX (by rw [up_off _ _ (by decide)]; exact h.rX) (j := 11) (by omega) (.slice (some ⟨g.g, 0, none⟩) (lo.length + 1) cap)
 obtain ⟨R', hS', hR10, hR11, hR⟩ : ∃ R', Sto (W.setCell ⟨X, 11, none⟩ (.slice (some ⟨g.g, 0, none⟩) (lo.length + 1) cap)) tag lv R' mp ∧ R' 10 = ⟨.slice (some ⟨X, 0, none⟩) 1 1, 135, 16, 1, (xC x s).set 11 (.slice (some ⟨g.g, 0, none⟩) (lo.length + 1) cap)⟩ ∧ R' 11 = ⟨.slice (some ⟨g.g, 0, none⟩) (lo.length + 1) cap, 225, 51, lo.length + 1, (rng (s.low.length + 1) fun k => frC (x.F k) (fAt s k)).take ((lo.length + 1) * 51)⟩ ∧ ∀ i, i ≠ 10 → i ≠ 11 → R' i = R i :=
  ⟨_, S2, up_same _ _ _, by rw [up_off _ _ (by decide), up_same], fun i h1 h2 => by rw [up_off _ _ h1, up_off _ _ h2]⟩
 refine ⟨cap, own_cell o10 (by show some x.frv = _; rw [hc, hlen]), hcap, by omega, own_thaw o10 _, ⟨Nat.le_trans h6 K2.size, lv, R', mp, { x with frv := .slice (some ⟨g.g, 0, none⟩) (lo.length + 1) cap }, hx, ?_⟩, K2⟩
 refine ⟨hS', h.sta.kp K2 h6, h.lX, ?_, h.lF, ?_, ⟨cap, rfl⟩, ?_, h.lG, ?_, h.lA, ?_, h.nA, fun i hi => ?_, fun i hi => ?_, fun i j c hi hj hcl => ?_, fun i hi => ?_, h.rcs.kp K2, h.drw.kp K2, h.fld.kp K2⟩
 ·rw [hR10]
  rfl
 ·rw [hR11]
  show _ = Rw.mk _ 225 51 (lo.length + 1) (rng (lo.length + 1) fun k => frC (x.F k) (fAt (onCut s lo f) k))
  rw [rng_take (fun _ _ => frC_len _ _) (by omega)]
  congr 1
  refine rng_congr fun j hj => ?_
  rw [fAt_cut hl (by omega)]
 ·show lo.length ≤ 20
  omega
 ·rw [hR 12 (by decide) (by decide)]; exact h.rG
 ·rw [hR 13 (by decide) (by decide)]; exact h.rA
 ·have hi' : i < s.w.arrs.length := hi
  obtain ⟨a, b, c⟩ := h.arr i hi
  exact ⟨a, b, by rw [hR _ (by omega) (by omega)]; exact c⟩
 ·have hi' : i ≤ lo.length := hi
  obtain ⟨a, b⟩ := h.stk i (by omega)
  rw [fAt_cut hl hi', hR _ (by omega) (by omega)]
  exact ⟨a, b⟩
 ·have hi' : i ≤ lo.length := hi
  rw [fAt_cut hl hi'] at hj
  obtain ⟨q1, q2, q3, ga, ca, lf, q4, q5, q6⟩ := h.wlk i j c (by omega) hj hcl
  exact ⟨q1, q2, q3, ga, ca, lf, q4, by rw [hR _ (by omega) (by omega)]; exact q5, q6.kp K2⟩
 ·have hi' : i ≤ lo.length := hi
  rw [fAt_cut hl hi']
  exact h.fn i (by omega)
set_option maxRecDepth 100000 in
set_option maxHeartbeats 1000000 in
theorem MM.leave (h : MM E X g s W tag) {l : List Cell} {v : Val} (hs : s.fr.stk = l ++ [cv v]) (hl : s.fr.stk.length ≤ 1024) {lo : List Frm} {f : Frm} (hlo : s.low = lo ++ [f]) (hf : f.stk.length < 1024) :
  Calls Tryz.prog 227 #[ptr X] W (MP E X g (onStk (onCut s lo f) (f.stk ++ [cv v])) tag W unit) := by
 have hm : Tryz.prog.follows Departure.mixedOrders = true := by kernel_rfl
 have HF : Hid _ := fun (_ : Unit) => h.frame
 have HP : Hid _ := fun (W1 : World) (t1 : Nat → Nat) (h1 : MM E X g s W1 t1) => MM.popV h1 hs hl
 have HC : Hid _ := fun (W1 : World) (t1 : Nat → Nat) (h1 : MM E X g (onStk s l) W1 t1) => MM.cutF h1 (lo := lo) (f := f) hlo
 have HF2 : Hid _ := fun (W1 : World) (t1 : Nat → Nat) (h1 : MM E X g (onCut s lo f) W1 t1) => MM.frame h1
 have HQ : Hid _ := fun (W1 : World) (t1 : Nat → Nat) (h1 : MM E X g (onCut s lo f) W1 t1) => MM.push h1 (show f.stk.length < 1024 from hf) v
 replace HC : Hid (∀ (W1 : World) (t1 : Nat → Nat), MM E X g (onStk s l) W1 t1 → ∃ cap, W1.cell? ⟨X, 11, none⟩ = some (.slice (some ⟨g.g, 0, none⟩) (lo.length + 2) cap) ∧ lo.length + 2 ≤ cap ∧ lo.length ≤ 20 ∧ W1.frozen? ⟨X, 11, none⟩ = false ∧
  MM E X g (onCut s lo f) (W1.setCell ⟨X, 11, none⟩ (.slice (some ⟨g.g, 0, none⟩) (lo.length + 1) cap)) t1 ∧ Kp t1 t1 W1 (W1.setCell ⟨X, 11, none⟩ (.slice (some ⟨g.g, 0, none⟩) (lo.length + 1) cap))) := HC
 have hfp2 : fp g (onCut s lo f) = .pointer (some ⟨g.g, lo.length * 51, none⟩) := rfl
 rw [hfp2] at HF2 HQ
 have hst : (onCut s lo f).fr.stk = f.stk := rfl
 rw [hst] at HQ
 generalize onStk (onCut s lo f) (f.stk ++ [cv v]) = s2 at HQ ⊢
 generalize onCut s lo f = s1 at HC HF2 HQ
 unfold vV at HQ
 generalize (v.kind : Int) = kk at HP HQ
 generalize vN v = mm at HP HQ
 generalize vS v = tt at HP HQ
 generalize lo.length = lol at *
 clear h hs hlo hf hfp2 hst
 go_enter Tryz.func227, Tryz.ntmps227
 go_wp2_with fail
 refine (HF.out ()).mono ?_
 rintro e W1 ⟨rfl, t1, h1, k1⟩
 have HM1 : Hid _ := And.intro h1 (k1)
 have HK1 : Hid _ := k1
 clear h1 k1 HF
 go_wp2_with fail
 refine (HP.out W1 t1 HM1.out.1).mono ?_
 rintro e W2 ⟨rfl, t2, h2, k2⟩
 have HM2 : Hid _ := And.intro h2 (HM1.out.2.trans k2)
 have HK2 : Hid _ := k2
 clear h2 k2 HP
 obtain ⟨W3, hW3, F3, c0, c1, c2, l3⟩ := box_cells W2 kk mm tt
 obtain ⟨t3, h3, k3, hb3⟩ := MM.box HM2.out.1 F3
 have HX3 : Hid _ := BoxAt.mk l3 (hb3 _ (Nat.le_refl _)) c0 c1 c2
 have HM3 : Hid _ := And.intro h3 (HM2.out.2.trans k3)
 have HK3 : Hid _ := k3
 clear h3 k3 F3 hb3 l3
 go_wp2_with fail
 obtain ⟨cap, x11, hcap, hlol, z11, M5, K5⟩ := HC.out W3 t3 HM3.out.1
 obtain ⟨m, hm1⟩ : ∃ m, lol + 1 = m := ⟨_, rfl⟩
 rw [show lol + 2 = m + 1 by omega] at x11 hcap
 rw [hm1] at M5 K5
 obtain ⟨W5, hW5⟩ : ∃ W5, W3.setCell ⟨X, 11, none⟩ (.slice (some ⟨g.g, 0, none⟩) m cap) = W5 := ⟨_, rfl⟩
 rw [hW5] at M5 K5
 have F6 : Fr [] W5 W5.drew := (Fr.refl [] W5).drew
 obtain ⟨t6, h6, k6⟩ := MM.fr M5 F6
 have HM6 : Hid _ := And.intro h6 ((HM3.out.2.trans K5).trans k6)
 have HX6 : Hid _ := (HX3.out.kp K5).kp k6
 have hw1 : IntKind.i64.wrap (m : Int) = m := by rw [IntKind.wrap_i64]; omega
 have hcs : (m : Int) ≤ cap := by omega
 have hn0 : (0 : Int) ≤ m := by omega
 clear M5 K5 HX3 HC F6 h6 k6 hlol hcap hm1 HM3 HK3
 refine wp_region_tail 14 hm (by kernel_rfl) ?_
 simp only [List.take_succ_cons, List.take_zero, List.drop_succ_cons, List.drop_zero]
 repeat still_step
 refine wpStill_nil ?_
 clear c0 c1 c2
 go_wp2_with fail
 refine wp_region_heldD (fun w => w.cell? ⟨W2.heap.size, 0, none⟩ = some (.int .u8 kk) ∧ w.cell? ⟨W2.heap.size, 1, none⟩ = some (.int .i64 mm) ∧ w.cell? ⟨W2.heap.size, 2, none⟩ = some (.string tt)) hm ?_
 obtain ⟨WD, hWD⟩ : ∃ WD, W5.drew.drew = WD := ⟨_, rfl⟩
 rw [hWD]
 have F7 : Fr [] W5.drew WD := by rw [← hWD]; exact (Fr.refl [] _).drew
 obtain ⟨t7, h7, k7⟩ := MM.fr HM6.out.1 F7
 have HM7 : Hid _ := And.intro h7 (HM6.out.2.trans k7)
 have HX7 : Hid _ := HX6.out.kp k7
 have hS : WD.cell? ⟨W2.heap.size, 0, none⟩ = some (.int .u8 kk) ∧ WD.cell? ⟨W2.heap.size, 1, none⟩ = some (.int .i64 mm) ∧ WD.cell? ⟨W2.heap.size, 2, none⟩ = some (.string tt) := ⟨HX7.out.c0, HX7.out.c1, HX7.out.c2⟩
 clear h7 k7 F7 hWD HX6 HM6 x11 z11 hW5 hW3
 refine wpAnyH_takes (fun _ _ _ _ _ h => h) hS [0, 2] (by kernel_rfl) ?_
 iterate 2
  refine Yls.cons (v := ?_) rfl (.inl ⟨rfl, fun w1 hS1 => ?_⟩) ?_
  rotate_left
  ·obtain ⟨p0, p1, p2⟩ := hS1
   go_simp
   first | rfl | (refine (if_neg (by omega)).trans ?_; rfl)
  simp only [Act.put, List.setIfInBounds_toArray, List.set_cons_zero, List.set_cons_succ, List.getElem_toArray, List.getElem_cons_succ, List.getElem_cons_zero]
 refine Yls.nil ?_
 refine wpAnyH_ready (rs := [1]) (by kernel_rfl) (by simp) ?_
 refine AllReadyH.cons rfl (fun K hK => ?_) AllReadyH.nil
 go_simp
 refine (HF2.out WD t7 HM7.out.1).mono ?_
 rintro e W8 ⟨rfl, t8, h8, k8⟩
 have HX8 : Hid _ := HX7.out.kp k8
 have HM8 : Hid _ := And.intro h8 (HM7.out.2.trans k8)
 clear h8 k8 HF2 HX7 hS
 refine hK _ _ ⟨HX8.out.c0, HX8.out.c1, HX8.out.c2⟩ ?_
 clear hK K
 intro _
 try simp only [Act.put, List.setIfInBounds_toArray, List.set_cons_zero, List.set_cons_succ, List.getElem_toArray, List.getElem_cons_succ, List.getElem_cons_zero]
 refine wpAnyH_ready (rs := [3]) (by kernel_rfl) (by simp) ?_
 refine AllReadyH.cons rfl (fun K hK => ?_) AllReadyH.nil
 go_simp
 refine (HQ.out W8 t8 HM8.out.1).mono ?_
 rintro e W9 ⟨rfl, t9, h9, k9⟩
 have HX9 : Hid _ := HX8.out.kp k9
 have HM9 : Hid _ := And.intro h9 (HM8.out.2.trans k9)
 clear h9 k9 HQ HX8
 refine hK _ _ ⟨HX9.out.c0, HX9.out.c1, HX9.out.c2⟩ ?_
 clear hK K
 intro _
 try simp only [Act.put, List.setIfInBounds_toArray, List.set_cons_zero, List.set_cons_succ, List.getElem_toArray, List.getElem_cons_succ, List.getElem_cons_zero]
 refine wpAnyH_done (by kernel_rfl) ?_ _
 refine bodyPost_end (results_none rfl _ _ _) rfl ?_
 exact ⟨rfl, t9, HM9.out.1, HM9.out.2⟩
end
end Go.Proofs.YtmolfmgchbjnbaaGreatDoor
namespace Go.Proofs.YtmolfmgchbjnbaaGreatDoor
open Go.RowKit
open Wire Flow Mach
def frZ (cv : Value) : List Value := [cv, .int .i64 0] ++ locC [] ++ [.slice none 0 0]
theorem frZ_len (cv : Value) : (frZ cv).length = 51 := by simp [frZ, locC_len]
set_option maxRecDepth 100000 in
set_option maxHeartbeats 1000000 in
theorem begin_any (X gf fn fc f n c : Nat) (vo : Option Addr) (W : World) (hX : X ≠ gf) (x2 : W.cell? ⟨X, 2, none⟩ = some (.slice (some ⟨gf, 0, none⟩) fn fc)) (hf : f < fn) (hf1 : fn ≤ 1000) (y : W.cell? ⟨gf, f * 2 + 1, none⟩ = some (.slice vo n c)) {u10 u11 : Value} (x10 : W.cell? ⟨X, 10, none⟩ = some u10) (x11 : W.cell? ⟨X, 11, none⟩ = some u11) (z10 : W.frozen? ⟨X, 10, none⟩ = false) (z11 : W.frozen? ⟨X, 11, none⟩ = false) :
  Calls Tryz.prog 62 #[ptr X, .int .i64 (f : Nat)] W fun e W' => e = .returned unit ∧ W' = ((W.setCell ⟨X, 10, none⟩ (.int .i64 (f : Nat))).alloc (.cells (frZ (.slice vo n c)).toArray 225)).setCell ⟨X, 11, none⟩ (.slice (some ⟨W.heap.size, 0, none⟩) 1 1) := by
 obtain ⟨W1, hW1⟩ : ∃ W1, W.setCell ⟨X, 10, none⟩ (.int .i64 (f : Nat)) = W1 := ⟨_, rfl⟩
 have q2 : W1.cell? ⟨X, 2, none⟩ = some (.slice (some ⟨gf, 0, none⟩) fn fc) := by rw [← hW1, setCell_off (by decide)]; exact x2
 have q11 : W1.cell? ⟨X, 11, none⟩ = some u11 := by rw [← hW1, setCell_off (by decide)]; exact x11
 have qz : W1.frozen? ⟨X, 11, none⟩ = false := by rw [← hW1, World.frozen?_setCell]; exact z11
 have qy : W1.cell? ⟨gf, f * 2 + 1, none⟩ = some (.slice vo n c) := by rw [← hW1, setCell_far hX]; exact y
 have hs1 : W1.heap.size = W.heap.size := by rw [← hW1]; simp [World.setCell]
 have hXl : X < W1.heap.size := lt_of_cell q11
 have hlit : (frZ (.slice vo n c)).toArray = #[.slice vo n c, .int .i64 0, .int .u8 0, .int .i64 0, .string ⟨#[]⟩, .int .u8 0, .int .i64 0, .string ⟨#[]⟩, .int .u8 0, .int .i64 0, .string ⟨#[]⟩, .int .u8 0, .int .i64 0, .string ⟨#[]⟩, .int .u8 0, .int .i64 0, .string ⟨#[]⟩, .int .u8 0, .int .i64 0, .string ⟨#[]⟩, .int .u8 0, .int .i64 0, .string ⟨#[]⟩, .int .u8 0, .int .i64 0, .string ⟨#[]⟩, .int .u8 0, .int .i64 0, .string ⟨#[]⟩, .int .u8 0, .int .i64 0, .string ⟨#[]⟩, .int .u8 0, .int .i64 0, .string ⟨#[]⟩, .int .u8 0, .int .i64 0, .string ⟨#[]⟩, .int .u8 0, .int .i64 0, .string ⟨#[]⟩, .int .u8 0, .int .i64 0, .string ⟨#[]⟩, .int .u8 0, .int .i64 0, .string ⟨#[]⟩, .int .u8 0, .int .i64 0, .string ⟨#[]⟩, .slice none 0 0] := rfl
 rw [hlit]
 have F2 : Fr [] W1 (W1.alloc (.cells #[.slice vo n c, .int .i64 0, .int .u8 0, .int .i64 0, .string ⟨#[]⟩, .int .u8 0, .int .i64 0, .string ⟨#[]⟩, .int .u8 0, .int .i64 0, .string ⟨#[]⟩, .int .u8 0, .int .i64 0, .string ⟨#[]⟩, .int .u8 0, .int .i64 0, .string ⟨#[]⟩, .int .u8 0, .int .i64 0, .string ⟨#[]⟩, .int .u8 0, .int .i64 0, .string ⟨#[]⟩, .int .u8 0, .int .i64 0, .string ⟨#[]⟩, .int .u8 0, .int .i64 0, .string ⟨#[]⟩, .int .u8 0, .int .i64 0, .string ⟨#[]⟩, .int .u8 0, .int .i64 0, .string ⟨#[]⟩, .int .u8 0, .int .i64 0, .string ⟨#[]⟩, .int .u8 0, .int .i64 0, .string ⟨#[]⟩, .int .u8 0, .int .i64 0, .string ⟨#[]⟩, .int .u8 0, .int .i64 0, .string ⟨#[]⟩, .int .u8 0, .int .i64 0, .string ⟨#[]⟩, .slice none 0 0] 225)) := (Fr.refl [] W1).alloc _
 obtain ⟨W2, hW2⟩ : ∃ W2, W1.alloc (.cells #[.slice vo n c, .int .i64 0, .int .u8 0, .int .i64 0, .string ⟨#[]⟩, .int .u8 0, .int .i64 0, .string ⟨#[]⟩, .int .u8 0, .int .i64 0, .string ⟨#[]⟩, .int .u8 0, .int .i64 0, .string ⟨#[]⟩, .int .u8 0, .int .i64 0, .string ⟨#[]⟩, .int .u8 0, .int .i64 0, .string ⟨#[]⟩, .int .u8 0, .int .i64 0, .string ⟨#[]⟩, .int .u8 0, .int .i64 0, .string ⟨#[]⟩, .int .u8 0, .int .i64 0, .string ⟨#[]⟩, .int .u8 0, .int .i64 0, .string ⟨#[]⟩, .int .u8 0, .int .i64 0, .string ⟨#[]⟩, .int .u8 0, .int .i64 0, .string ⟨#[]⟩, .int .u8 0, .int .i64 0, .string ⟨#[]⟩, .int .u8 0, .int .i64 0, .string ⟨#[]⟩, .int .u8 0, .int .i64 0, .string ⟨#[]⟩, .int .u8 0, .int .i64 0, .string ⟨#[]⟩, .slice none 0 0] 225) = W2 := ⟨_, rfl⟩
 rw [hW2] at F2
 have r11 : W2.cell? ⟨X, 11, none⟩ = some u11 := (F2.cell (p := ⟨X, 11, none⟩) hXl (by simp)).trans q11
 have rz : W2.frozen? ⟨X, 11, none⟩ = false := (F2.frozen (p := ⟨X, 11, none⟩) hXl (by simp)).trans qz
 rw [hW1, hW2, ← hs1]
 have hi : (f : Int) < fn := by omega
 clear F2 hs1 hXl x11 z11 y x2 hlit
 go_enter Tryz.func62, Tryz.ntmps62
 go_wp2_with fail
 refine bodyPost_end (results_none rfl _ _ _) rfl ?_
 exact ⟨rfl, rfl⟩
end Go.Proofs.YtmolfmgchbjnbaaGreatDoor
namespace Go.Proofs.YtmolfmgchbjnbaaGreatDoor
open Go.RowKit
open Wire Flow Mach
theorem plc_zero {m : Mo} {f : Nat} {L : List Stp} (h : Reads m f (locsOf m f) (codeOf m f) L) : PlcAt m f L 0 0 := by
 cases L with
 | nil => exact .inr ⟨rfl, h⟩
 | cons i l => exact .inl ⟨i, rfl, Chain.first h rfl⟩
section
variable {E : Env} {X : Nat} {g : Pl} {s : Ms} {W W' : World} {tag : Nat → Nat}
def onBegin (E : Env) (s : Ms) (f : Nat) : Ms := { s with low := [], fr := enter E.mo f [] }
def Pl.at_ (g : Pl) (b f : Nat) : Pl := { g with g := b, en := f }
theorem locC_nothing (n : Nat) : locC (List.replicate n nothing) = locC [] := by
 unfold locC
 refine rng_congr fun i hi => ?_
 congr 1
 rw [List.getD_eq_getElem?_getD, List.getElem?_replicate]
 split <;> rfl
theorem MM.begin_ (h : MM E X g s W tag) {f : Nat} (hf : f < E.mo.fns.length) :
  Calls Tryz.prog 62 #[ptr X, .int .i64 (f : Nat)] W fun e W' => e = .returned unit ∧ ∃ b tag', MM E X (g.at_ b f) (onBegin E s f) W' tag' ∧ Kp tag tag' W W' := by
 obtain ⟨h6, lv, R, mp, x, hx, h⟩ := h
 obtain ⟨gf, fc, e1, e2, e3, e4, e5⟩ := h.sta.fns
 have C := h.sta.code f hf
 obtain ⟨gc, cc, T, v1, v2, v3, v4, v5, v6⟩ := C.at_
 have o10 := (h.S.rows 10 h.lX).1
 have t10 := (h.S.rows 10 h.lX).2
 rw [h.rX] at o10 t10
 simp only at o10 t10
 have hXgf : X ≠ gf := by
  intro e
  have := t10 X rfl
  rw [e] at this
  omega
 have hnA := h.nA
 refine (begin_any X gf E.mo.fns.length fc f (x.code f).2.length cc (some ⟨gc, 0, none⟩) W hXgf (h.xc (by rw [← e1]; rfl)) hf e4 (by rw [← v1]; exact (e5 f hf).2) (u10 := .int .i64 (x.entry : Nat)) (u11 := x.frv) (own_cell o10 rfl) (own_cell o10 rfl) (own_thaw o10 _) (own_thaw o10 _)).mono ?_
 rintro e W' ⟨he, hW'⟩
 refine ⟨he, W.heap.size, ?_⟩
 rw [← v1] at hW'
 obtain ⟨S1, K1⟩ := h.S.put h.lX h.rX (j := 10) (by omega) (.int .i64 (f : Nat))
 have hsz : (W.setCell ⟨X, 10, none⟩ (.int .i64 (f : Nat))).heap.size = W.heap.size := by simp [World.setCell]
 generalize W.setCell ⟨X, 10, none⟩ (.int .i64 (f : Nat)) = W1 at hW' S1 K1 hsz
 have hnew := World.alloc_heap_new W1 (.cells (frZ (x.code f).1).toArray 225)
 have F2 : Fr [] W1 (W1.alloc (.cells (frZ (x.code f).1).toArray 225)) := (Fr.refl [] W1).alloc _
 generalize W1.alloc (.cells (frZ (x.code f).1).toArray 225) = W2 at hW' hnew F2
 rw [hsz] at hnew
 obtain ⟨S2, K2⟩ := S1.new (i := 11) (r := ⟨.slice (some ⟨W.heap.size, 0, none⟩) 1 1, 225, 51, 1, frZ (x.code f).1⟩) (h.S.far _ h.lF) (by omega) F2 (own_one hnew (frZ_len _)) (fun q hq => by
  have : W.heap.size = q := by simpa [Value.ownBlock] using hq
  omega)
 rw [up_true h.lF] at S2
 have l5 := (h.stk 0 (Nat.zero_le _)).1
 have S3 := S2.turn (i := 5000) (tag' := newTag tag W1.heap.size 11) (h.S.far _ l5) (by omega) (Chg.refl _ [5000] _) (fun _ _ => rfl) (r := ⟨.slice none 0 0, 306, 4, 0, []⟩) ⟨rfl, .inl ⟨rfl, rfl⟩⟩ (Tg.nil _ _)
 rw [up_true (show lv 5000 = true from l5)] at S3
 obtain ⟨S4, K4⟩ := S3.put (i := 10) h.lX (by rw [up_off _ _ (by decide), up_off _ _ (by decide), up_same]) (j := 11) (by omega) (.slice (some ⟨W.heap.size, 0, none⟩) 1 1)
 rw [← hW'] at S4 K4
 have K := (K1.trans K2).trans K4
 refine ⟨newTag tag W1.heap.size 11, ?_, K⟩
 obtain ⟨R', hS', hR10, hR11, hR5, hR⟩ : ∃ R', Sto W' (newTag tag W1.heap.size 11) lv R' mp ∧ R' 10 = ⟨.slice (some ⟨X, 0, none⟩) 1 1, 135, 16, 1, ((xC x s).set 10 (.int .i64 (f : Nat))).set 11 (.slice (some ⟨W.heap.size, 0, none⟩) 1 1)⟩ ∧ R' 11 = ⟨.slice (some ⟨W.heap.size, 0, none⟩) 1 1, 225, 51, 1, frZ (x.code f).1⟩ ∧ R' 5000 = ⟨.slice none 0 0, 306, 4, 0, []⟩ ∧ ∀ i, i ≠ 10 → i ≠ 11 → i ≠ 5000 → R' i = R i :=
  ⟨_, S4, up_same _ _ _, by rw [up_off _ _ (by decide), up_off _ _ (by decide), up_same], by rw [up_off _ _ (by decide), up_same], fun i h1 h2 h3 => by rw [up_off _ _ h1, up_off _ _ h3, up_off _ _ h2, up_off _ _ h1]⟩
 have hfA : ∀ k, k ≤ 0 → fAt (onBegin E s f) k = enter E.mo f [] := fun k hk => by
  have : k = 0 := by omega
  subst this
  rfl
 refine ⟨Nat.le_trans h6 K.size, lv, R', mp, { x with frv := .slice (some ⟨W.heap.size, 0, none⟩) 1 1, entry := f, F := fun _ => ⟨(x.code f).1, 0, .slice none 0 0, fun _ => 0⟩ }, ⟨⟨hx.1.1, rfl, hx.1.2.2⟩, hx.2⟩, ?_⟩
 refine ⟨hS', h.sta.kp K h6, h.lX, ?_, h.lF, ?_, ⟨1, rfl⟩, Nat.zero_le _, h.lG, ?_, h.lA, ?_, h.nA, fun i hi => ?_, fun i hi => ?_, fun i j c hi hj hcl => ?_, fun i hi => ?_, h.rcs.kp K, h.drw.kp K, h.fld.kp K⟩
 ·rw [hR10]
  rfl
 ·rw [hR11]
  show _ = Rw.mk _ 225 51 1 (rng 1 fun k => frC ⟨(x.code f).1, 0, .slice none 0 0, fun _ => 0⟩ (fAt (onBegin E s f) k))
  congr 1
  rw [rng_succ, rng_zero, List.nil_append, hfA 0 (Nat.le_refl _)]
  unfold frZ frC enter
  simp only [List.nil_append, List.length_nil, Nat.sub_zero, locC_nothing]
  rfl
 ·rw [hR 12 (by decide) (by decide) (by decide)]; exact h.rG
 ·rw [hR 13 (by decide) (by decide) (by decide)]; exact h.rA
 ·have hi' : i < s.w.arrs.length := hi
  obtain ⟨a, b, c⟩ := h.arr i hi
  exact ⟨a, b, by rw [hR _ (by omega) (by omega) (by omega)]; exact c⟩
 ·have hi' : i ≤ 0 := hi
  have : i = 0 := by omega
  subst this
  exact ⟨l5, hR5⟩
 ·have hi' : i ≤ 0 := hi
  rw [hfA i hi'] at hj
  simp [enter] at hj
 ·have hi' : i ≤ 0 := hi
  rw [hfA i hi']
  exact ⟨hf, rfl, plc_zero C.reads⟩
end
end Go.Proofs.YtmolfmgchbjnbaaGreatDoor
