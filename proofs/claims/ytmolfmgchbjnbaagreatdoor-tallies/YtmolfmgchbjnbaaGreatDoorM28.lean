import Derived.Test.YtmolfmgchbjnbaaGreatDoorM27
set_option linter.unusedSimpArgs false
set_option linter.unusedVariables false
namespace Go.Proofs.YtmolfmgchbjnbaaGreatDoor
open Go.RowKit
open Wire Flow Mach
section
variable {E : Env} {X : Nat} {g : Pl} {s : Ms} {W W' : World} {tag : Nat → Nat}
theorem MM.avS (h : MM E X g s W tag) {i : Nat} (hi : i < s.w.arrs.length) : ∃ ga c, g.av = .slice (some ⟨ga, 0, none⟩) s.w.arrs.length c := by
 obtain ⟨h6, lv, R, mp, x, hx, h⟩ := h
 have o := (h.S.rows 13 h.lA).1
 rw [h.rA] at o
 obtain ⟨ga, c, hv, -, -⟩ := own_some o (by show 0 < s.w.arrs.length; omega)
 exact ⟨ga, c, hx.2.symm.trans hv⟩
theorem MM.arrAt (h : MM E X g s W tag) {ga c : Nat} (hg : g.av = .slice (some ⟨ga, 0, none⟩) s.w.arrs.length c) {i : Nat} (hi : i < s.w.arrs.length) : ∃ b ov, W.cell? ⟨ga, i * 2, none⟩ = some (.map (some b)) ∧ W.cell? ⟨ga, i * 2 + 1, none⟩ = some ov ∧ MapAt W b (entL (s.w.arrs.getD i [])) ∧ W.ownsRow 0 9 1 ov (s.w.arrs.getD i []).length ((keysA (s.w.arrs.getD i [])).map .string) := by
 obtain ⟨h6, lv, R, mp, x, hx, h⟩ := h
 have o := (h.S.rows 13 h.lA).1
 rw [h.rA] at o
 simp only at o
 rw [hx.2, hg] at o
 have e := fun t (ht : t < 2) => rng_get (n := s.w.arrs.length) (z := 2) (f := fun i => [Value.map (some (x.A i).1), (x.A i).2]) (fun _ _ => rfl) hi ht
 obtain ⟨a1, a2, a3⟩ := h.arr i hi
 have o2 := (h.S.rows _ a2).1
 rw [a3] at o2
 exact ⟨(x.A i).1, (x.A i).2, own_cell o ((e 0 (by decide)).trans rfl), own_cell o ((e 1 (by decide)).trans rfl), (h.S.maps _ _ _ a1).1, o2⟩
def ArrOk (l : List (ByteArray × Val)) : Prop := (keysA l).Nodup ∧ ∀ e ∈ l, e.1.size ≤ 1048576
set_option maxRecDepth 100000 in
set_option maxHeartbeats 4000000 in
theorem MM.ain (hE : EnvOk E) (h : MM E X g s W tag) {l : List Cell} {v : Val} (hs : s.fr.stk = l ++ [cv v]) (hl : s.fr.stk.length ≤ 1024) (hv : SmV v) (hx : (textV E v).size ≤ 1048576) {a : Nat} (ha : a < s.w.arrs.length) (hk : ArrOk (s.w.arrs.getD a [])) (hn : s.w.arrs.length ≤ 1000) (pl b q : Int) :
  Calls Tryz.prog 119 #[ptr X, fp g s, inV 13 pl (a : Nat) b q] W (MP E X g (onStk s (l ++ [cv (whole (truth (hasK (s.w.arrs.getD a []) (textV E v))))])) tag W (stI 0)) := by
 have hm : Tryz.prog.follows Departure.mixedOrders = true := by kernel_rfl
 have hl1 : l.length < 1024 := by rw [hs] at hl; simp at hl; omega
 obtain ⟨W1, hW1, F1, ⟨b0, b1, b2, b3, b4⟩, l1⟩ := box5 W 13 pl (a : Nat) b q
 obtain ⟨t1, h1, k1, hb1⟩ := MM.box h F1
 obtain ⟨ga, c, hg⟩ := h.avS ha
 have HM1 : Hid _ := And.intro h1 k1
 have HB : Hid _ := fun (W2 : World) (t2 : Nat → Nat) (k : Kp t1 t2 W1 W2) => And.intro ((k.cell (p := ⟨W.heap.size, 0, none⟩) l1 (by show t1 W.heap.size < 10; rw [hb1 _ (Nat.le_refl _)]; decide)).trans b0) ((k.cell (p := ⟨W.heap.size, 2, none⟩) l1 (by show t1 W.heap.size < 10; rw [hb1 _ (Nat.le_refl _)]; decide)).trans b2)
 have x9 := h1.avc
 rw [hg] at x9
 have HP : Hid _ := fun (W1 : World) (t1 : Nat → Nat) (h1 : MM E X g s W1 t1) => MM.popText hE h1 hs hl hv
 have HA : Hid _ := fun (W1 : World) (t1 : Nat → Nat) (h1 : MM E X g (onStk s l) W1 t1) => MM.arrAt h1 hg (i := a) ha
 have HH : Hid _ := fun (W1 : World) (bm : Nat) (c0 : W1.cell? ⟨ga, a * 2, none⟩ = some (.map (some bm))) (hm : MapAt W1 bm (entL (s.w.arrs.getD a []))) => hasA_any ga (a * 2) bm (textV E v) W1 c0 hm hk.1 hk.2 hx
 have HT : Hid _ := fun (W1 : World) (t1 : Nat → Nat) (h1 : MM E X g (onStk s l) W1 t1) => MM.pushTruth h1 (show l.length < 1024 from hl1) (hasK (s.w.arrs.getD a []) (textV E v))
 generalize hasK (s.w.arrs.getD a []) (textV E v) = bb at HH HT ⊢
 generalize textV E v = tx at HP HH
 have hi' : (a : Int) < s.w.arrs.length := by omega
 clear h h1 k1 F1 l1 hb1 hx hk
 go_enter Tryz.func119, Tryz.ntmps119
 go_wp2_with fail
 refine wp_region_lex hm (by kernel_rfl) ?_
 repeat still_step
 refine wpStill_nil ?_
 have F2 : Fr [] W1 W1.drew := (Fr.refl [] W1).drew
 obtain ⟨t2, h2, k2⟩ := MM.fr HM1.out.1 F2
 have HM2 : Hid _ := And.intro h2 (HM1.out.2.trans k2)
 have HK2 : Hid _ := k2
 clear h2 k2 F2
 go_wp2_with fail
 refine (HP.out W1.drew t2 HM2.out.1).mono ?_
 rintro e W3 ⟨rfl, t3, h3, k3⟩
 have HM3 : Hid _ := And.intro h3 (HM2.out.2.trans k3)
 have HK3 : Hid _ := k3
 clear h3 k3 HP
 obtain ⟨bm, ov, c0, -, hmm, -⟩ := HA.out W3 t3 HM3.out.1
 have HH3 : Hid _ := fun (_ : Unit) => HH.out W3 bm c0 hmm
 clear c0 hmm HA HH
 go_wp2_with fail
 refine (HH3.out ()).mono ?_
 rintro e W4 ⟨rfl, F4⟩
 obtain ⟨t4, h4, k4⟩ := MM.fr HM3.out.1 F4
 have HM4 : Hid _ := And.intro h4 (HM3.out.2.trans k4)
 have HK4 : Hid _ := k4
 clear h4 k4 F4
 go_wp2_with fail
 refine (HT.out W4 t4 HM4.out.1).mono ?_
 rintro e W5 ⟨rfl, t5, h5, k5⟩
 have HM5 : Hid _ := And.intro h5 (HM4.out.2.trans k5)
 have HK5 : Hid _ := k5
 clear h5 k5 HT
 go_wp2_with fail
 go_ret
 exact ⟨rfl, t5, HM5.out.1, HM5.out.2⟩
end
end Go.Proofs.YtmolfmgchbjnbaaGreatDoor
namespace Go.Proofs.YtmolfmgchbjnbaaGreatDoor
open Go.RowKit
open Wire Flow Mach
set_option maxRecDepth 100000 in
set_option maxHeartbeats 4000000 in
theorem takes_any (A o b n c : Nat) (ad : Option Addr) {l : List (ByteArray × Val)} (key : ByteArray) (W : World) (hA : A < W.heap.size) (h0 : W.cell? ⟨A, o, none⟩ = some (.map (some b))) (h1 : W.cell? ⟨A, o + 1, none⟩ = some (.slice ad n c)) (hm : MapAt W b (entL l)) (hd : ArrOk l) (hk : key.size ≤ 1048576) (hn : n ≤ 100000) :
    Calls Tryz.prog 203 #[.pointer (some ⟨A, o, none⟩), .string key] W fun e W' => e = .returned (.bool (hasK l key || decide (n < 30))) ∧ Fr [] W W' := by
  have HH : Hid _ := fun (_ : Unit) => hasA_any A o b key W h0 hm hd.1 hd.2 hk
  have h1' : Hid _ := fun (W' : World) (F : Fr [] W W') => (F.cell (p := ⟨A, o + 1, none⟩) hA (by simp)).trans h1
  have hw64 : IntKind.i64.wrap (n : Int) = n := by rw [IntKind.wrap_i64]; omega
  generalize hasK l key = bb at HH ⊢
  clear hm hd h0 h1
  cases bb
  · by_cases hlt : n < 30
    · have g1 : (n : Int) < 30 := by omega
      rw [decide_eq_true hlt]
      go_enter Tryz.func203, Tryz.ntmps203
      go_wp2_with fail
      refine (HH.out ()).mono ?_
      rintro e W1 ⟨rfl, F1⟩
      have x1 := h1'.out W1 F1
      have HF : Hid _ := F1
      clear F1 h1' HH
      go_wp2_with fail
      go_ret
      exact ⟨rfl, HF.out⟩
    · have g1 : ¬ ((n : Int) < 30) := by omega
      rw [decide_eq_false hlt]
      go_enter Tryz.func203, Tryz.ntmps203
      go_wp2_with fail
      refine (HH.out ()).mono ?_
      rintro e W1 ⟨rfl, F1⟩
      have x1 := h1'.out W1 F1
      have HF : Hid _ := F1
      clear F1 h1' HH
      go_wp2_with fail
      go_ret
      refine ⟨?_, HF.out⟩
      show Ending.returned (Value.bool (decide ((n : Int) < 30))) = _
      rw [decide_eq_false (show ¬ ((n : Int) < 30) by omega)]
      rfl
  · generalize decide (n < 30) = dd
    rw [Bool.true_or]
    go_enter Tryz.func203, Tryz.ntmps203
    go_wp2_with fail
    refine (HH.out ()).mono ?_
    rintro e W1 ⟨rfl, F1⟩
    have HF : Hid _ := F1
    clear F1 h1' HH
    go_wp2_with fail
    go_ret
    exact ⟨rfl, HF.out⟩
end Go.Proofs.YtmolfmgchbjnbaaGreatDoor
namespace Go.Proofs.YtmolfmgchbjnbaaGreatDoor
open Go.RowKit
open Wire Flow Mach
section
variable {E : Env} {X : Nat} {g : Pl} {s : Ms} {W W' : World} {tag tag' : Nat → Nat} {lv : Nat → Bool} {R : Nat → Rw} {mp : Nat → Option (Nat × List (Value × Value))} {x : Mx}
def onArr (s : Ms) (i : Nat) (l : List (ByteArray × Val)) : Ms := { s with w := { s.w with arrs := s.w.arrs.set i l } }
def onA (x : Mx) (i : Nat) (y : Nat × Value) : Mx := { x with A := up x.A i y }
theorem arr_same (s : Ms) {i : Nat} (hi : i < s.w.arrs.length) (l : List (ByteArray × Val)) : (onArr s i l).w.arrs.getD i [] = l := by
 show (s.w.arrs.set i l).getD i [] = l
 rw [List.getD_eq_getElem?_getD, List.getElem?_set_self hi]
 rfl
theorem arr_off (s : Ms) {i j : Nat} (hj : j ≠ i) (l : List (ByteArray × Val)) : (onArr s i l).w.arrs.getD j [] = s.w.arrs.getD j [] := by
 show (s.w.arrs.set i l).getD j [] = _
 rw [List.getD_eq_getElem?_getD, List.getElem?_set_ne (fun e => hj e.symm), List.getD_eq_getElem?_getD]
theorem arr_len (s : Ms) (i : Nat) (l : List (ByteArray × Val)) : (onArr s i l).w.arrs.length = s.w.arrs.length := List.length_set
theorem MR.rearr (h : MR E X g.g s W tag lv R mp x) (h6 : 6 ≤ W.heap.size) {i : Nat} (hi : i < s.w.arrs.length) {l : List (ByteArray × Val)} {ov : Value} {R' : Nat → Rw} {mp' : Nat → Option (Nat × List (Value × Value))} (k : Kp tag tag' W W') (hS : Sto W' tag' lv R' mp')
  (h13 : R' 13 = ⟨x.av, 146, 2, s.w.arrs.length, (rng s.w.arrs.length fun j => [Value.map (some (x.A j).1), (x.A j).2]).set (i * 2 + 1) ov⟩) (ho : R' (21 + 2 * i) = ⟨ov, 9, 1, l.length, (keysA l).map .string⟩)
  (hR : ∀ q, q ≠ 13 → q ≠ 21 + 2 * i → R' q = R q) (hm : mp' (20 + 2 * i) = some ((x.A i).1, entL l)) (hM : ∀ q, q ≠ 20 + 2 * i → mp' q = mp q) : MR E X g.g (onArr s i l) W' tag' lv R' mp' (onA x i ((x.A i).1, ov)) := by
 have hn := h.nA
 refine ⟨hS, h.sta.kp k h6, h.lX, ?_, h.lF, ?_, h.vF, h.nF, h.lG, ?_, h.lA, ?_, ?_, fun j hj => ?_, fun j hj => ?_, fun a j c ha hj hc => ?_, h.fn, h.rcs.kp k, h.drw.kp k, h.fld.kp k⟩
 ·rw [hR 10 (by decide) (by omega)]; exact h.rX
 ·rw [hR 11 (by decide) (by omega)]; exact h.rF
 ·rw [hR 12 (by decide) (by omega)]; exact h.rG
 ·rw [h13, arr_len]
  show _ = Rw.mk x.av 146 2 s.w.arrs.length _
  congr 1
  rw [rng_set (n := s.w.arrs.length) (z := 2) (f := fun j => [Value.map (some (x.A j).1), (x.A j).2]) (fun _ _ => rfl) hi (by omega)]
  refine rng_congr fun j hj => ?_
  by_cases e : j = i
  ·subst e
   show _ = [Value.map (some (up x.A j _ j).1), (up x.A j _ j).2]
   rw [up_same, up_same]
   rfl
  ·show _ = [Value.map (some (up x.A i _ j).1), (up x.A i _ j).2]
   rw [up_off _ _ e, up_off _ _ e]
 ·rw [arr_len]; exact hn
 ·rw [arr_len] at hj
  obtain ⟨a1, a2, a3⟩ := h.arr j hj
  by_cases e : j = i
  ·subst e
   rw [arr_same s hi]
   show mp' _ = some ((up x.A j _ j).1, _) ∧ _ ∧ R' _ = Rw.mk (up x.A j _ j).2 9 1 _ _
   rw [up_same]
   exact ⟨hm, a2, ho⟩
  ·rw [arr_off s e]
   show mp' _ = some ((up x.A i _ j).1, _) ∧ _ ∧ R' _ = Rw.mk (up x.A i _ j).2 9 1 _ _
   rw [up_off _ _ e, hM _ (by omega), hR _ (by omega) (by omega)]
   exact ⟨a1, a2, a3⟩
 ·have hj' : j ≤ s.low.length := hj
  have := h.nF
  rw [hR _ (by omega) (by omega)]
  exact h.stk j hj
 ·obtain ⟨q1, q2, q3, ga, ca, lf, q4, q5, q6⟩ := h.wlk a j c ha hj hc
  refine ⟨q1, by rw [arr_len]; exact q2, q3, ga, ca, lf, by rw [arr_len]; exact q4, ?_, q6.kp k⟩
  rw [hR _ (by omega) (by omega)]
  exact q5
end
end Go.Proofs.YtmolfmgchbjnbaaGreatDoor
namespace Go.Proofs.YtmolfmgchbjnbaaGreatDoor
open Go.RowKit
open Wire Flow Mach
def setB (W : World) (b : Nat) (o : Obj) : World := { W with heap := W.heap.setIfInBounds b o }
theorem setB_size (W : World) (b : Nat) (o : Obj) : (setB W b o).heap.size = W.heap.size := by simp [setB]
theorem setB_off (W : World) {b k : Nat} (o : Obj) (h : k ≠ b) : (setB W b o).heap[k]? = W.heap[k]? := by
 simp [setB, Array.getElem?_setIfInBounds]
 intro e
 exact absurd e.symm h
theorem setB_same (W : World) {b : Nat} (o : Obj) (h : b < W.heap.size) : (setB W b o).heap[b]? = some o := by simp [setB, Array.getElem?_setIfInBounds, h]
theorem setB_chg {tag : Nat → Nat} (W : World) (b : Nat) (o : Obj) : Chg tag [tag b] W (setB W b o) :=
 ⟨rfl, rfl, rfl, by rw [setB_size]; exact Nat.le_refl _, fun k hk hn => setB_off W o (by rintro rfl; exact hn (by simp))⟩
set_option maxRecDepth 100000 in
set_option maxHeartbeats 4000000 in
theorem empty_any (A o b : Nat) (v : Value) (W : World) (hne : A ≠ b) (hz : W.frozen? ⟨A, o + 1, none⟩ = false) (h0 : W.cell? ⟨A, o, none⟩ = some (.map (some b))) (h1 : W.cell? ⟨A, o + 1, none⟩ = some v) {es : Array MapEntry} {clock : Nat} (hb : W.heap[b]? = some (.map es clock)) :
  Calls Tryz.prog 209 #[.pointer (some ⟨A, o, none⟩)] W fun e W' => e = .returned unit ∧ W' = (setB W b (.map #[] clock)).setCell ⟨A, o + 1, none⟩ (.slice none 0 0) := by
 have hcl : (Builtin.clear_ #[144] 0 #[.map (some b)]).run Tryz.prog W = .ok (.tuple #[]) (setB W b (.map #[] clock)) := by
  simp [Builtin.clear_, run_underlying Tryz.underlying144, MapKept.run_getObj_map hb, MapKept.run_setObj_map _ hb, Result.andThen, setB]
 have y1 : (setB W b (.map #[] clock)).cell? ⟨A, o + 1, none⟩ = some v := (World.cell?_of_block (w := W) (a := ⟨A, o + 1, none⟩) (setB_off W _ hne)).trans h1
 have z1 : (setB W b (.map #[] clock)).frozen? ⟨A, o + 1, none⟩ = false := (frozen_of_block (setB_off W _ hne)).trans hz
 generalize setB W b (.map #[] clock) = W1 at hcl y1 z1 ⊢
 clear hb hne
 go_enter Tryz.func209, Tryz.ntmps209
 go_wp2_with fail
 refine bodyPost_end (results_none rfl _ _ _) rfl ?_
 exact ⟨rfl, rfl⟩
section
variable {E : Env} {X : Nat} {g : Pl} {s : Ms} {W W' : World} {tag tag' : Nat → Nat}
theorem MM.empty (h : MM E X g s W tag) {ga c : Nat} (hg : g.av = .slice (some ⟨ga, 0, none⟩) s.w.arrs.length c) {i : Nat} (hi : i < s.w.arrs.length) :
  Calls Tryz.prog 209 #[.pointer (some ⟨ga, i * 2, none⟩)] W (MP E X g (onArr s i []) tag W unit) := by
 obtain ⟨h6, lv, R, mp, x, hx, h⟩ := h
 have r13 := h.rA
 rw [hx.2, hg] at r13
 have o := (h.S.rows 13 h.lA).1
 have tg := (h.S.rows 13 h.lA).2
 rw [r13] at o tg
 simp only at o tg
 have e := fun t (ht : t < 2) => rng_get (n := s.w.arrs.length) (z := 2) (f := fun i => [Value.map (some (x.A i).1), (x.A i).2]) (fun _ _ => rfl) hi ht
 obtain ⟨a1, a2, a3⟩ := h.arr i hi
 obtain ⟨⟨es, clock, hb, he⟩, tb⟩ := h.S.maps _ _ _ a1
 have tga : tag ga = 13 := tg ga rfl
 have hne : ga ≠ (x.A i).1 := by
  intro e
  rw [e, tb] at tga
  omega
 have hlf : lv (20 + 2 * i) = false := by
  rcases hq : lv (20 + 2 * i) with _ | _
  ·rfl
  ·have := h.S.far _ hq
   rw [a1] at this
   cases this
 refine (empty_any ga (i * 2) (x.A i).1 _ W hne (own_thaw o _) (own_cell o ((e 0 (by decide)).trans rfl)) (own_cell o ((e 1 (by decide)).trans rfl)) hb).mono fun ee W' ⟨he, hw⟩ => ⟨he, tag, ?_⟩
 have c1 : Chg tag [20 + 2 * i] W (setB W (x.A i).1 (.map #[] clock)) := by rw [← tb]; exact setB_chg W _ _
 have hbl := (Array.getElem?_eq_some_iff.1 hb).1
 have S1 := h.S.map (b := (x.A i).1) (l := entL []) hlf (by omega) c1 (fun _ _ => rfl) ⟨#[], clock, setB_same W _ hbl, rfl⟩ tb
 obtain ⟨S2, K2⟩ := S1.put h.lA r13 (j := i * 2 + 1) (by omega) (.slice none 0 0)
 have K1 : Kp tag tag W (setB W (x.A i).1 (.map #[] clock)) := Kp.chg c1 (fun _ _ => rfl) (by simp; omega)
 have hmn : up mp (20 + 2 * i) (some ((x.A i).1, entL [])) (21 + 2 * i) = none := by rw [up_off _ _ (by omega)]; exact h.S.far _ a2
 have S3 := S2.turn (i := 21 + 2 * i) (tag' := tag) hmn (by omega) (Chg.refl tag [21 + 2 * i] _) (fun _ _ => rfl) (r := ⟨.slice none 0 0, 9, 1, 0, []⟩) ⟨rfl, .inl ⟨rfl, rfl⟩⟩ (Tg.nil _ _)
 rw [up_true a2] at S3
 have K := K1.trans K2
 rw [← hw] at S3 K
 have e13 : x.av = .slice (some ⟨ga, 0, none⟩) s.w.arrs.length c := hx.2.trans hg
 refine ⟨⟨Nat.le_trans h6 K.size, lv, _, _, onA x i ((x.A i).1, .slice none 0 0), hx, h.rearr h6 hi K S3 ?_ ?_ ?_ ?_ ?_⟩, K⟩
 ·rw [up_off _ _ (by omega), up_same, e13]
 ·rw [up_same]
  rfl
 ·intro q h1 h2
  rw [up_off _ _ h2, up_off _ _ h1]
 ·exact up_same _ _ _
 ·intro q h1
  exact up_off _ _ h1
end
end Go.Proofs.YtmolfmgchbjnbaaGreatDoor
namespace Go.Proofs.YtmolfmgchbjnbaaGreatDoor
open Go.RowKit
open Wire Flow Mach
section
variable {E : Env} {X : Nat} {g : Pl} {s : Ms} {W W' : World} {tag : Nat → Nat}
set_option maxRecDepth 100000 in
set_option maxHeartbeats 4000000 in
theorem MM.aclear (h : MM E X g s W tag) {a : Nat} (ha : a < s.w.arrs.length) (hn : s.w.arrs.length ≤ 1000) (pl b q : Int) :
  Calls Tryz.prog 119 #[ptr X, fp g s, inV 15 pl (a : Nat) b q] W (MP E X g (onArr s a []) tag W (stI 0)) := by
 have hm : Tryz.prog.follows Departure.mixedOrders = true := by kernel_rfl
 obtain ⟨W1, hW1, F1, ⟨b0, b1, b2, b3, b4⟩, l1⟩ := box5 W 15 pl (a : Nat) b q
 obtain ⟨t1, h1, k1, hb1⟩ := MM.box h F1
 obtain ⟨ga, c, hg⟩ := h.avS ha
 have HM1 : Hid _ := And.intro h1 k1
 have x9 := h1.avc
 rw [hg] at x9
 have HP : Hid _ := fun (W1 : World) (t1 : Nat → Nat) (h1 : MM E X g s W1 t1) => MM.empty h1 hg ha
 have hi' : (a : Int) < s.w.arrs.length := by omega
 clear h h1 k1 F1 l1 hb1
 go_enter Tryz.func119, Tryz.ntmps119
 go_wp2_with fail
 refine wp_region_lex hm (by kernel_rfl) ?_
 repeat still_step
 refine wpStill_nil ?_
 have F2 : Fr [] W1 W1.drew := (Fr.refl [] W1).drew
 obtain ⟨t2, h2, k2⟩ := MM.fr HM1.out.1 F2
 have HM2 : Hid _ := And.intro h2 (HM1.out.2.trans k2)
 have HK2 : Hid _ := k2
 clear h2 k2 F2
 go_wp2_with fail
 refine (HP.out W1.drew t2 HM2.out.1).mono ?_
 rintro e W3 ⟨rfl, t3, h3, k3⟩
 have HM3 : Hid _ := And.intro h3 (HM2.out.2.trans k3)
 have HK3 : Hid _ := k3
 clear h3 k3 HP
 go_wp2_with fail
 go_ret
 exact ⟨rfl, t3, HM3.out.1, HM3.out.2⟩
end
end Go.Proofs.YtmolfmgchbjnbaaGreatDoor
namespace Go.Proofs.YtmolfmgchbjnbaaGreatDoor
open Go.RowKit
open Wire Flow Mach
theorem setK_off {l : List (ByteArray × Val)} {k : ByteArray} (v : Val) (h : ∀ e ∈ l, e.1 ≠ k) : setK l k v = l ++ [(k, v)] := by
 induction l with
 | nil => rfl
 | cons a l ih =>
  unfold setK
  rw [if_neg (h a (by simp)), ih fun e he => h e (by simp [he])]
  rfl
theorem setK_at {l : List (ByteArray × Val)} (hd : (keysA l).Nodup) {j : Nat} {k : ByteArray} {u : Val} (v : Val) (h : l[j]? = some (k, u)) : setK l k v = l.set j (k, v) := by
 induction l generalizing j with
 | nil => simp at h
 | cons a l ih =>
  have hd' : a.1 ∉ keysA l ∧ (keysA l).Nodup := List.nodup_cons.1 hd
  cases j with
  | zero =>
   have e : a = (k, u) := by simpa using h
   subst e
   simp [setK]
  | succ j =>
   have h' : l[j]? = some (k, u) := by simpa using h
   have hne : a.1 ≠ k := by
    rintro rfl
    exact hd'.1 (List.mem_map.2 ⟨_, List.mem_of_getElem? h', rfl⟩)
   unfold setK
   rw [if_neg hne, ih hd'.2 h']
   rfl
theorem update_run {W : World} {b : Nat} {l : List (ByteArray × Val)} (hm : MapAt W b (entL l)) (hd : (keysA l).Nodup) (hs : ∀ e ∈ l, e.1.size ≤ 1048576) {key : ByteArray} (hk : key.size ≤ 1048576) (v : Val) :
    ∃ es' clock', (Instr.mapUpdate 144 (.map (some b)) (.string key) (vV v)).run Tryz.prog W = .ok () (setB W b (.map es' clock')) ∧ es'.toList.map (fun e => (e.key, e.val)) = entL (setK l key v) := by
  obtain ⟨es, clock, hb, he⟩ := hm
  have K := WideMaps.string_law (P := Tryz.prog) (k := 9) Tryz.underlying9
  have hkey := WideMaps.keyOf_string_mk (P := Tryz.prog) (k := 9) Tryz.underlying9 (s := key) (Nat.le_trans hk (by decide))
  have hmem : ∀ e ∈ es.toList, ∃ x ∈ l, e.key = .string x.1 ∧ e.val = vV x.2 := fun e hx => by
    have : (e.key, e.val) ∈ entL l := by rw [← he]; exact List.mem_map.2 ⟨e, hx, rfl⟩
    obtain ⟨x, hx, h⟩ := List.mem_map.1 this
    injection h with h1 h2
    exact ⟨x, hx, h1.symm, h2.symm⟩
  rcases K.find W hkey es.toList (fun e hx => by
    obtain ⟨x, hx, h1, -⟩ := hmem e hx
    rw [h1]
    exact ⟨_, WideMaps.keyOf_string_mk (P := Tryz.prog) (k := 9) Tryz.underlying9 (Nat.le_trans (hs x hx) (by decide))⟩) with ⟨h1, h2⟩ | ⟨j, e0, h1, h2, h3⟩
  · refine ⟨es.push ⟨.string key, vV v, clock⟩, clock + 1, ?_, ?_⟩
    · simp [Instr.mapUpdate, run_underlying Tryz.underlying144, MapKept.run_getObj_map hb, K.check W _ hkey, h1, MapKept.run_setObj_map _ hb, Result.andThen, setB]
    · rw [setK_off v (fun x hx hxk => by
        have : ((.string x.1 : Value), vV x.2) ∈ entL l := List.mem_map.2 ⟨x, hx, rfl⟩
        rw [← he] at this
        obtain ⟨e, hx', h⟩ := List.mem_map.1 this
        injection h with q1 q2
        exact h2 e hx' (by rw [q1, hxk])), Array.toList_push, List.map_append, he]
      unfold entL
      rw [List.map_append]
      rfl
  · have : (entL l)[j]? = some (e0.key, e0.val) := by rw [← he, List.getElem?_map, h2]; rfl
    rw [entL, List.getElem?_map] at this
    obtain ⟨x, hx, h⟩ := Option.map_eq_some_iff.1 this
    obtain ⟨q1, q2⟩ := Prod.mk.inj h
    have hxk : x.1 = key := Value.string.inj (q1.trans h3)
    have h2' : es[j]? = some e0 := by rw [← Array.getElem?_toList]; exact h2
    refine ⟨es.modify j fun e => { e with key := .string key, val := vV v }, clock, ?_, ?_⟩
    · simp [Instr.mapUpdate, run_underlying Tryz.underlying144, MapKept.run_getObj_map hb, K.check W _ hkey, h1, h2', h3, K.stays W hkey, MapKept.run_setObj_map _ hb, Result.andThen, setB]
    · rw [setK_at hd (j := j) (u := x.2) v (by rw [hx, ← hxk])]
      unfold entL
      rw [List.map_set]
      show _ = (entL l).set j _
      rw [← he]
      apply List.ext_getElem?
      intro q
      rw [List.getElem?_map, Array.getElem?_toList, Array.getElem?_modify, List.getElem?_set]
      have hjl := (List.getElem?_eq_some_iff.1 h2).1
      by_cases e : j = q
      · subst e
        rw [if_pos rfl, if_pos rfl, if_pos (by rw [List.length_map]; exact hjl), h2']
        rfl
      · rw [if_neg e, if_neg e, List.getElem?_map, Array.getElem?_toList]
end Go.Proofs.YtmolfmgchbjnbaaGreatDoor
namespace Go.Proofs.YtmolfmgchbjnbaaGreatDoor
open Go.RowKit
open Wire Flow Mach
set_option maxRecDepth 100000 in
set_option maxHeartbeats 4000000 in
theorem set_in (A o b : Nat) {l : List (ByteArray × Val)} (key : ByteArray) (v : Val) (W : World) (hA : A < W.heap.size) (hne : A ≠ b) (h0 : W.cell? ⟨A, o, none⟩ = some (.map (some b))) (hm : MapAt W b (entL l)) (hd : ArrOk l) (hk : key.size ≤ 1048576) (hh : hasK l key = true) :
  Calls Tryz.prog 205 #[.pointer (some ⟨A, o, none⟩), .string key, vV v] W fun e W' => e = .returned unit ∧ ∃ V es' clock', Fr [] W V ∧ es'.toList.map (fun e => (e.key, e.val)) = entL (setK l key v) ∧ W' = setB V b (.map es' clock') := by
 have hmx : Tryz.prog.follows Departure.mixedOrders = true := by kernel_rfl
 have HU : Hid _ := fun (W1 : World) (F : Fr [] W W1) => update_run (hm.of_block (F.block b hm.lt (by simp))) hd.1 hd.2 hk v
 have HH : Hid _ := fun (W1 : World) (F : Fr [] W W1) => hasA_any A o b key W1 ((F.cell (p := ⟨A, o, none⟩) hA (by simp)).trans h0) (hm.of_block (F.block b hm.lt (by simp))) hd.1 hd.2 hk
 have HC : Hid _ := fun (W1 : World) (F : Fr [] W W1) => (F.cell (p := ⟨A, o, none⟩) hA (by simp)).trans h0
 unfold vV at HU ⊢
 rw [hh] at HH
 generalize entL (setK l key v) = le at HU ⊢
 generalize (v.kind : Int) = kk at HU ⊢
 generalize vN v = mm at HU ⊢
 generalize vS v = tt at HU ⊢
 obtain ⟨W1, hW1, F1, c0, c1, c2, l1⟩ := box_cells W kk mm tt
 have HF1 : Hid _ := F1
 have HX : Hid _ := fun (W2 : World) (F : Fr [] W1 W2) => And.intro ((F.cell (p := ⟨W.heap.size, 0, none⟩) l1 (by simp)).trans c0) (And.intro ((F.cell (p := ⟨W.heap.size, 1, none⟩) l1 (by simp)).trans c1) ((F.cell (p := ⟨W.heap.size, 2, none⟩) l1 (by simp)).trans c2))
 have hbn : W.heap.size ≠ b := by have := hm.lt; omega
 clear hm hd hh F1 c0 c1 c2 l1 h0
 go_enter Tryz.func205, Tryz.ntmps205
 go_wp2_with fail
 refine (HH.out W1 HF1.out).mono ?_
 rintro e W2 ⟨rfl, F2⟩
 have HF2 : Hid _ := F2
 clear F2 HH
 go_wp2_with fail
 refine wp_region_heldD (fun V => V.cell? ⟨A, o, none⟩ = some (.map (some b)) ∧ V.cell? ⟨W.heap.size, 0, none⟩ = some (.int .u8 kk) ∧ V.cell? ⟨W.heap.size, 1, none⟩ = some (.int .i64 mm) ∧ V.cell? ⟨W.heap.size, 2, none⟩ = some (.string tt)) hmx ?_
 obtain ⟨WD, hWD⟩ : ∃ WD, W2.drew = WD := ⟨_, rfl⟩
 rw [hWD]
 have F3 : Fr [] W1 WD := by rw [← hWD]; exact HF2.out.drew
 have hS : WD.cell? ⟨A, o, none⟩ = some (.map (some b)) ∧ WD.cell? ⟨W.heap.size, 0, none⟩ = some (.int .u8 kk) ∧ WD.cell? ⟨W.heap.size, 1, none⟩ = some (.int .i64 mm) ∧ WD.cell? ⟨W.heap.size, 2, none⟩ = some (.string tt) := ⟨HC.out WD (HF1.out.trans F3), HX.out WD F3⟩
 obtain ⟨es', clock', hup, hel⟩ := HU.out WD (HF1.out.trans F3)
 have HE : Hid _ := And.intro (HF1.out.trans F3) hel
 clear F3 hel HU HC HX HF2 HF1 hWD
 refine wpAnyH_takes (fun _ _ _ _ _ h => h) hS [0, 1, 2, 3, 4, 5] (by kernel_rfl) ?_
 iterate 6
  refine Yls.cons (v := ?_) rfl (.inl ⟨rfl, fun w1 hS1 => ?_⟩) ?_
  rotate_left
  ·obtain ⟨p0, p1, p2, p3⟩ := hS1
   go_simp
   first | rfl | (refine (if_neg (by omega)).trans ?_; rfl)
  simp only [Act.put, List.setIfInBounds_toArray, List.set_cons_zero, List.set_cons_succ, List.getElem_toArray, List.getElem_cons_succ, List.getElem_cons_zero]
 refine Yls.nil ?_
 refine wpAnyH_ready (rs := [6]) (by kernel_rfl) (by simp) ?_
 refine AllReadyH.cons rfl (fun K hK => ?_) AllReadyH.nil
 have hS2 : (setB WD b (.map es' clock')).cell? ⟨A, o, none⟩ = some (.map (some b)) ∧ (setB WD b (.map es' clock')).cell? ⟨W.heap.size, 0, none⟩ = some (.int .u8 kk) ∧ (setB WD b (.map es' clock')).cell? ⟨W.heap.size, 1, none⟩ = some (.int .i64 mm) ∧ (setB WD b (.map es' clock')).cell? ⟨W.heap.size, 2, none⟩ = some (.string tt) :=
  have e1 := fun j => World.cell?_of_block (w := WD) (a := ⟨A, j, none⟩) (setB_off WD (.map es' clock') hne)
  have e2 := fun j => World.cell?_of_block (w := WD) (a := ⟨W.heap.size, j, none⟩) (setB_off WD (.map es' clock') hbn)
  ⟨(e1 _).trans hS.1, (e2 _).trans hS.2.1, (e2 _).trans hS.2.2.1, (e2 _).trans hS.2.2.2⟩
 have HS2 : Hid _ := hS2
 clear hS2 hS
 obtain ⟨W4, hW4⟩ : ∃ W4, setB WD b (.map es' clock') = W4 := ⟨_, rfl⟩
 rw [hW4] at hup HS2
 go_simp
 refine hK _ _ HS2.out ?_
 clear hK K
 intro _
 try simp only [Act.put, List.setIfInBounds_toArray, List.set_cons_zero, List.set_cons_succ, List.getElem_toArray, List.getElem_cons_succ, List.getElem_cons_zero]
 refine wpAnyH_done (by kernel_rfl) ?_ _
 go_wp2_with fail
 refine bodyPost_end (results_none rfl _ _ _) rfl ?_
 exact ⟨rfl, WD, es', clock', HE.out.1, HE.out.2, hW4.symm⟩
end Go.Proofs.YtmolfmgchbjnbaaGreatDoor
namespace Go.Proofs.YtmolfmgchbjnbaaGreatDoor
open Go.RowKit
open Wire Flow Mach
theorem keys_setK {l : List (ByteArray × Val)} {k : ByteArray} (v : Val) (h : hasK l k = true) : keysA (setK l k v) = keysA l := by
 induction l with
 | nil => cases h
 | cons a l ih =>
  unfold setK
  by_cases e : a.1 = k
  ·rw [if_pos e]
   show k :: keysA l = a.1 :: keysA l
   rw [e]
  ·rw [if_neg e]
   show a.1 :: keysA (setK l k v) = a.1 :: keysA l
   rw [ih (by
    unfold hasK at h ⊢
    rw [List.any_cons] at h
    simpa [e] using h)]
section
variable {E : Env} {X : Nat} {g : Pl} {s : Ms} {W W' : World} {tag tag' : Nat → Nat}
theorem MM.setIn (h : MM E X g s W tag) {ga c : Nat} (hg : g.av = .slice (some ⟨ga, 0, none⟩) s.w.arrs.length c) {i : Nat} (hi : i < s.w.arrs.length) {key : ByteArray} (hk : key.size ≤ 1048576) (ho : ArrOk (s.w.arrs.getD i [])) (hh : hasK (s.w.arrs.getD i []) key = true) (v : Val) :
  Calls Tryz.prog 205 #[.pointer (some ⟨ga, i * 2, none⟩), .string key, vV v] W (MP E X g (onArr s i (setK (s.w.arrs.getD i []) key v)) tag W unit) := by
 obtain ⟨h6, lv, R, mp, x, hx, h⟩ := h
 have r13 := h.rA
 rw [hx.2, hg] at r13
 have o := (h.S.rows 13 h.lA).1
 have tg := (h.S.rows 13 h.lA).2
 rw [r13] at o tg
 simp only at o tg
 have e := fun t (ht : t < 2) => rng_get (n := s.w.arrs.length) (z := 2) (f := fun i => [Value.map (some (x.A i).1), (x.A i).2]) (fun _ _ => rfl) hi ht
 obtain ⟨a1, a2, a3⟩ := h.arr i hi
 obtain ⟨hmap, tb⟩ := h.S.maps _ _ _ a1
 have tga : tag ga = 13 := tg ga rfl
 have hne : ga ≠ (x.A i).1 := by
  intro e
  rw [e, tb] at tga
  omega
 have hlf : lv (20 + 2 * i) = false := by
  rcases hq : lv (20 + 2 * i) with _ | _
  ·rfl
  ·have := h.S.far _ hq
   rw [a1] at this
   cases this
 refine (set_in ga (i * 2) (x.A i).1 key v W (o.lt ga rfl).2 hne (own_cell o ((e 0 (by decide)).trans rfl)) hmap ho hk hh).mono fun ee W' ⟨he, V, es', clock', F, hel, hw⟩ => ⟨he, newTag tag W.heap.size 6, ?_⟩
 obtain ⟨hV, kV⟩ := h.fr h6 F
 obtain ⟨mV, tV⟩ := hV.S.maps _ _ _ a1
 have c1 : Chg (newTag tag W.heap.size 6) [20 + 2 * i] V (setB V (x.A i).1 (.map es' clock')) := by rw [← tV]; exact setB_chg V _ _
 have S1 := hV.S.map (b := (x.A i).1) (l := entL (setK (s.w.arrs.getD i []) key v)) hlf (by omega) c1 (fun _ _ => rfl) ⟨es', clock', setB_same V _ mV.lt, hel⟩ tV
 have K1 : Kp (newTag tag W.heap.size 6) (newTag tag W.heap.size 6) V (setB V (x.A i).1 (.map es' clock')) := Kp.chg c1 (fun _ _ => rfl) (by simp; omega)
 rw [← hw] at S1 K1
 refine ⟨⟨Nat.le_trans h6 (kV.trans K1).size, lv, _, _, onA x i ((x.A i).1, (x.A i).2), hx, hV.rearr (Nat.le_trans h6 kV.size) hi K1 S1 ?_ ?_ (fun _ _ _ => rfl) (up_same _ _ _) (fun q hq => up_off _ _ hq)⟩, kV.trans K1⟩
 ·rw [h.rA, rng_set (n := s.w.arrs.length) (z := 2) (f := fun j => [Value.map (some (x.A j).1), (x.A j).2]) (fun _ _ => rfl) hi (by omega)]
  congr 1
  refine rng_congr fun j hj => ?_
  by_cases e : j = i
  ·subst e
   rw [up_same]
   rfl
  ·rw [up_off _ _ e]
 ·rw [a3, keys_setK v hh]
  congr 1
  have := congrArg List.length (keys_setK v hh)
  simpa [keysA] using this.symm
end
end Go.Proofs.YtmolfmgchbjnbaaGreatDoor
namespace Go.Proofs.YtmolfmgchbjnbaaGreatDoor
open Go.RowKit
open Wire Flow Mach
theorem lookup1_run {W : World} {b : Nat} {l : List (ByteArray × Val)} (hm : MapAt W b (entL l)) (hd : (keysA l).Nodup) (hs : ∀ e ∈ l, e.1.size ≤ 1048576) {key : ByteArray} (hk : key.size ≤ 1048576) :
    (Instr.lookup 144 (.map (some b)) (.string key) false).run Tryz.prog W = .ok (vV (getK l key)) W := by
  obtain ⟨es, clock, hb, he⟩ := hm
  have K := WideMaps.string_law (P := Tryz.prog) (k := 9) Tryz.underlying9
  have hkey := WideMaps.keyOf_string_mk (P := Tryz.prog) (k := 9) Tryz.underlying9 (s := key) (Nat.le_trans hk (by decide))
  have hmem : ∀ e ∈ es.toList, ∃ x ∈ l, e.key = .string x.1 ∧ e.val = vV x.2 := fun e hx => by
    have : (e.key, e.val) ∈ entL l := by rw [← he]; exact List.mem_map.2 ⟨e, hx, rfl⟩
    obtain ⟨x, hx, h⟩ := List.mem_map.1 this
    injection h with h1 h2
    exact ⟨x, hx, h1.symm, h2.symm⟩
  rcases K.find W hkey es.toList (fun e hx => by
    obtain ⟨x, hx, h1, -⟩ := hmem e hx
    rw [h1]
    exact ⟨_, WideMaps.keyOf_string_mk (P := Tryz.prog) (k := 9) Tryz.underlying9 (Nat.le_trans (hs x hx) (by decide))⟩) with ⟨h1, h2⟩ | ⟨j, e0, h1, h2, h3⟩
  · obtain ⟨g1, g2⟩ := getK_off (l := l) (k := key) fun x hx hxk => by
      have : ((.string x.1 : Value), vV x.2) ∈ entL l := List.mem_map.2 ⟨x, hx, rfl⟩
      rw [← he] at this
      obtain ⟨e, hx', h⟩ := List.mem_map.1 this
      injection h with q1 q2
      exact h2 e hx' (by rw [q1, hxk])
    rw [g1]
    have hz : (zeroValue 221).run Tryz.prog W = .ok (vV nothing) W := by kernel_rfl
    simp [Instr.lookup, run_underlying Tryz.underlying144, MapKept.run_getObj_map hb, K.check W _ hkey, h1, hz, Result.andThen]
  · have : (entL l)[j]? = some (e0.key, e0.val) := by rw [← he, List.getElem?_map, h2]; rfl
    rw [entL, List.getElem?_map] at this
    obtain ⟨x, hx, h⟩ := Option.map_eq_some_iff.1 this
    obtain ⟨q1, q2⟩ := Prod.mk.inj h
    have hxk : x.1 = key := Value.string.inj (q1.trans h3)
    obtain ⟨g1, g2⟩ := getK_at hd (j := j) (k := key) (v := x.2) (by rw [hx, ← hxk])
    have q2' : vV x.2 = e0.val := q2
    rw [g1, q2']
    simp [Instr.lookup, run_underlying Tryz.underlying144, MapKept.run_getObj_map hb, K.check W _ hkey, h1, Result.andThen]
set_option maxRecDepth 100000 in
set_option maxHeartbeats 4000000 in
theorem lookUp_in (A o b : Nat) {l : List (ByteArray × Val)} (key : ByteArray) (W : World) (hA : A < W.heap.size) (h0 : W.cell? ⟨A, o, none⟩ = some (.map (some b))) (hm : MapAt W b (entL l)) (hd : ArrOk l) (hk : key.size ≤ 1048576) (hh : hasK l key = true) :
  Calls Tryz.prog 204 #[.pointer (some ⟨A, o, none⟩), .string key] W fun e W' => e = .returned (vV (getK l key)) ∧ Fr [] W W' := by
 have HU : Hid _ := fun (W1 : World) (F : Fr [] W W1) => lookup1_run (hm.of_block (F.block b hm.lt (by simp))) hd.1 hd.2 hk
 have HH : Hid _ := fun (W1 : World) (F : Fr [] W W1) => hasA_any A o b key W1 ((F.cell (p := ⟨A, o, none⟩) hA (by simp)).trans h0) (hm.of_block (F.block b hm.lt (by simp))) hd.1 hd.2 hk
 have HC : Hid _ := fun (W1 : World) (F : Fr [] W W1) => (F.cell (p := ⟨A, o, none⟩) hA (by simp)).trans h0
 unfold vV at HU ⊢
 rw [hh] at HH
 generalize ((getK l key).kind : Int) = kk at HU ⊢
 generalize vN (getK l key) = mm at HU ⊢
 generalize vS (getK l key) = tt at HU ⊢
 obtain ⟨W1, hW1⟩ : ∃ W1, W.alloc (.cells #[.int .u8 0, .int .i64 0, .string ⟨#[]⟩] 221) = W1 := ⟨_, rfl⟩
 have F1 : Fr [] W W1 := by rw [← hW1]; exact (Fr.refl [] W).alloc _
 have k1 := World.alloc_heap_new W (.cells #[.int .u8 0, .int .i64 0, .string ⟨#[]⟩] 221)
 rw [hW1] at k1
 have l1 := (Array.getElem?_eq_some_iff.1 k1).1
 have HF1 : Hid _ := And.intro F1 (And.intro k1 l1)
 clear hm hd hh F1 k1 l1 h0
 go_enter Tryz.func204, Tryz.ntmps204
 go_wp2_with fail
 refine (HH.out W1 HF1.out.1).mono ?_
 rintro e W2 ⟨rfl, F2⟩
 obtain ⟨F1, k1, l1⟩ := HF1.out
 obtain ⟨hy, z0, z1, z2⟩ := cells3 ((F2.block _ l1 (by simp)).trans k1)
 obtain ⟨W7, hW7, r0, r1, r2, F7⟩ := set3 (x' := .int .u8 kk) (y' := .int .i64 mm) (z' := .string tt) hy
 obtain ⟨y0, y1, y2⟩ := hy
 have hlk := HU.out W2 (F1.trans F2)
 have c0 := HC.out W2 (F1.trans F2)
 have FF : Hid _ := (F1.trans F2).trans' F7 (by simp)
 clear F7 F2 F1 k1 l1 HF1 HU HH HC
 go_wp2_with fail
 refine bodyPost_ret (v := vlV kk mm tt) (by simp [results, Tryz.results204, go_sem, r0, r1, r2]) rfl ?_
 exact ⟨rfl, FF.out⟩
end Go.Proofs.YtmolfmgchbjnbaaGreatDoor
namespace Go.Proofs.YtmolfmgchbjnbaaGreatDoor
open Go.RowKit
open Wire Flow Mach
section
variable {E : Env} {X : Nat} {g : Pl} {s : Ms} {W W' : World} {tag : Nat → Nat}
theorem MM.takes (h : MM E X g s W tag) {ga c : Nat} (hg : g.av = .slice (some ⟨ga, 0, none⟩) s.w.arrs.length c) {i : Nat} (hi : i < s.w.arrs.length) {key : ByteArray} (hk : key.size ≤ 1048576) (ho : ArrOk (s.w.arrs.getD i [])) (hn : (s.w.arrs.getD i []).length ≤ 100000) :
  Calls Tryz.prog 203 #[.pointer (some ⟨ga, i * 2, none⟩), .string key] W fun e W' => e = .returned (.bool (hasK (s.w.arrs.getD i []) key || decide ((s.w.arrs.getD i []).length < 30))) ∧ Fr [] W W' := by
 obtain ⟨b, ov, c0, c1, hm, ow⟩ := h.arrAt hg hi
 obtain ⟨so, sc, rfl⟩ := own_form ow
 exact takes_any ga (i * 2) b _ sc so key W (lt_of_cell c0) c0 c1 hm ho hk hn
set_option maxRecDepth 100000 in
set_option maxHeartbeats 4000000 in
theorem MM.agetIn (hE : EnvOk E) (h : MM E X g s W tag) {l : List Cell} {v : Val} (hs : s.fr.stk = l ++ [cv v]) (hl : s.fr.stk.length ≤ 1024) (hv : SmV v) (hx : (textV E v).size ≤ 1048576) {a : Nat} (ha : a < s.w.arrs.length) (hk : ArrOk (s.w.arrs.getD a [])) (hn : s.w.arrs.length ≤ 1000) (hn2 : (s.w.arrs.getD a []).length ≤ 100000) (hh : hasK (s.w.arrs.getD a []) (textV E v) = true) (pl b q : Int) :
  Calls Tryz.prog 119 #[ptr X, fp g s, inV 11 pl (a : Nat) b q] W (MP E X g (onStk s (l ++ [cv (getK (s.w.arrs.getD a []) (textV E v))])) tag W (stI 0)) := by
 have hm : Tryz.prog.follows Departure.mixedOrders = true := by kernel_rfl
 have hl1 : l.length < 1024 := by rw [hs] at hl; simp at hl; omega
 obtain ⟨W1, hW1, F1, ⟨b0, b1, b2, b3, b4⟩, l1⟩ := box5 W 11 pl (a : Nat) b q
 obtain ⟨t1, h1, k1, hb1⟩ := MM.box h F1
 obtain ⟨ga, c, hg⟩ := h.avS ha
 have HM1 : Hid _ := And.intro h1 k1
 have x9 := h1.avc
 rw [hg] at x9
 have HP : Hid _ := fun (W1 : World) (t1 : Nat → Nat) (h1 : MM E X g s W1 t1) => MM.popText hE h1 hs hl hv
 have HK : Hid _ := fun (W1 : World) (t1 : Nat → Nat) (h1 : MM E X g (onStk s l) W1 t1) => MM.takes h1 hg (i := a) ha hx hk hn2
 have HA : Hid _ := fun (W1 : World) (t1 : Nat → Nat) (h1 : MM E X g (onStk s l) W1 t1) => MM.arrAt h1 hg (i := a) ha
 have HH : Hid _ := fun (W1 : World) (bm : Nat) (c0 : W1.cell? ⟨ga, a * 2, none⟩ = some (.map (some bm))) (hm : MapAt W1 bm (entL (s.w.arrs.getD a []))) => lookUp_in ga (a * 2) bm (textV E v) W1 (lt_of_cell c0) c0 hm hk hx hh
 have HT : Hid _ := fun (W1 : World) (t1 : Nat → Nat) (h1 : MM E X g (onStk s l) W1 t1) => MM.push h1 (show l.length < 1024 from hl1) (getK (s.w.arrs.getD a []) (textV E v))
 replace HK : Hid (∀ (W1 : World) (t1 : Nat → Nat), MM E X g (onStk s l) W1 t1 → Calls Tryz.prog 203 #[.pointer (some ⟨ga, a * 2, none⟩), .string (textV E v)] W1 fun e W' => e = .returned (.bool true) ∧ Fr [] W1 W') := by
  intro W1 t1 h1
  have := HK.out W1 t1 h1
  have e : (hasK ((onStk s l).w.arrs.getD a []) (textV E v) || decide (((onStk s l).w.arrs.getD a []).length < 30)) = true := by
   rw [show hasK ((onStk s l).w.arrs.getD a []) (textV E v) = true from hh]
   rfl
  rw [e] at this
  exact this
 unfold vV at HH HT
 generalize getK (s.w.arrs.getD a []) (textV E v) = gv at HH HT ⊢
 generalize (gv.kind : Int) = kk at HH HT
 generalize vN gv = mm at HH HT
 generalize vS gv = tt at HH HT
 generalize textV E v = tx at HP HH HK
 have hi' : (a : Int) < s.w.arrs.length := by omega
 clear h h1 k1 F1 l1 hb1 hx hk hh
 go_enter Tryz.func119, Tryz.ntmps119
 go_wp2_with fail
 refine wp_region_lex hm (by kernel_rfl) ?_
 repeat still_step
 refine wpStill_nil ?_
 have F2 : Fr [] W1 W1.drew := (Fr.refl [] W1).drew
 obtain ⟨t2, h2, k2⟩ := MM.fr HM1.out.1 F2
 have HM2 : Hid _ := And.intro h2 (HM1.out.2.trans k2)
 have HK2 : Hid _ := k2
 clear h2 k2 F2
 go_wp2_with fail
 refine (HP.out W1.drew t2 HM2.out.1).mono ?_
 rintro e W3 ⟨rfl, t3, h3, k3⟩
 have HM3 : Hid _ := And.intro h3 (HM2.out.2.trans k3)
 have HK3 : Hid _ := k3
 clear h3 k3 HP
 have HK3 : Hid _ := fun (_ : Unit) => HK.out W3 t3 HM3.out.1
 go_wp2_with fail
 refine (HK3.out ()).mono ?_
 rintro e W4 ⟨rfl, F4⟩
 obtain ⟨t4, h4, k4⟩ := MM.fr HM3.out.1 F4
 have HM4 : Hid _ := And.intro h4 (HM3.out.2.trans k4)
 have HK4 : Hid _ := k4
 clear h4 k4 F4
 obtain ⟨bm, ov, c0, -, hmm, -⟩ := HA.out W4 t4 HM4.out.1
 have HH4 : Hid _ := fun (_ : Unit) => HH.out W4 bm c0 hmm
 clear c0 hmm HA HH HK HK3
 go_wp2_with fail
 refine (HH4.out ()).mono ?_
 rintro e W5 ⟨rfl, F5⟩
 obtain ⟨t5, h5, k5⟩ := MM.fr HM4.out.1 F5
 have HM5 : Hid _ := And.intro h5 (HM4.out.2.trans k5)
 have HK5 : Hid _ := k5
 clear h5 k5 F5
 go_wp2_with fail
 refine (HT.out W5 t5 HM5.out.1).mono ?_
 rintro e W6 ⟨rfl, t6, h6, k6⟩
 have HM6 : Hid _ := And.intro h6 (HM5.out.2.trans k6)
 have HK6 : Hid _ := k6
 clear h6 k6 HT
 go_wp2_with fail
 go_ret
 exact ⟨rfl, t6, HM6.out.1, HM6.out.2⟩
end
end Go.Proofs.YtmolfmgchbjnbaaGreatDoor
