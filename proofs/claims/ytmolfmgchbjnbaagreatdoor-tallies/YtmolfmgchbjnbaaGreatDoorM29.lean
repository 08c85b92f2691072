import Derived.Test.YtmolfmgchbjnbaaGreatDoorM28
set_option linter.unusedSimpArgs false
set_option linter.unusedVariables false
namespace Go.Proofs.YtmolfmgchbjnbaaGreatDoor
open Go.RowKit
open Wire Flow Mach
theorem infoA9 : (Tryz.prog.info? 9).map (fun i => (i.zero, i.size, i.bytes)) = some (some (.string ⟨#[]⟩), 1, 16) := by kernel_rfl
section
variable {W : World} {tag : Nat → Nat} {lv : Nat → Bool} {R : Nat → Rw} {mp : Nat → Option (Nat × List (Value × Value))}
def SetNewP (W : World) (tag : Nat → Nat) (lv : Nat → Bool) (R : Nat → Rw) (mp : Nat → Option (Nat × List (Value × Value))) (i ga n cap b h : Nat) (xs ys : List Value) (l : List (ByteArray × Val)) (key : ByteArray) (v : Val) (e : Ending) (W' : World) : Prop :=
 e = .returned unit ∧ ∃ tag' sv', Sto W' tag' lv (up (up R (21 + 2 * i) ⟨sv', 9, 1, h + 1, ys ++ [.string key]⟩) 13 ⟨.slice (some ⟨ga, 0, none⟩) n cap, 146, 2, n, xs.set (i * 2 + 1) sv'⟩) (up mp (20 + 2 * i) (some (b, entL (setK l key v)))) ∧ Kp tag tag' W W'
set_option maxRecDepth 100000 in
set_option maxHeartbeats 4000000 in
theorem set_new (hS : Sto W tag lv R mp) {i ga n cap b h : Nat} {xs ys : List Value} {sv : Value} {l : List (ByteArray × Val)} (l13 : lv 13 = true) (r13 : R 13 = ⟨.slice (some ⟨ga, 0, none⟩) n cap, 146, 2, n, xs⟩) (hin : i < n) (hn : n ≤ 1000) (lm : lv (21 + 2 * i) = true) (rm : R (21 + 2 * i) = ⟨sv, 9, 1, h, ys⟩) (hx0 : xs[i * 2]? = some (.map (some b))) (hx1 : xs[i * 2 + 1]? = some sv) (hmp : mp (20 + 2 * i) = some (b, entL l)) (hh : h < 100000) (hd : ArrOk l) {key : ByteArray} (hk : key.size ≤ 1048576) (hno : hasK l key = false) (v : Val) :
  Calls Tryz.prog 205 #[.pointer (some ⟨ga, i * 2, none⟩), .string key, vV v] W (SetNewP W tag lv R mp i ga n cap b h xs ys l key v) := by
 have hmx : Tryz.prog.follows Departure.mixedOrders = true := by kernel_rfl
 obtain ⟨i0, hi, hz0, hz1, hz2⟩ := info_parts infoA9
 have o13 : W.ownsRow 0 146 2 (.slice (some ⟨ga, 0, none⟩) n cap) n xs := by have := (hS.rows 13 l13).1; rw [r13] at this; exact this
 have om : W.ownsRow 0 9 1 sv h ys := by have := (hS.rows _ lm).1; rw [rm] at this; exact this
 obtain ⟨so, sc, rfl⟩ := own_form om
 have hgl : ga < W.heap.size := (o13.lt ga rfl).2
 obtain ⟨hm, tb⟩ := hS.maps _ _ _ hmp
 have tga : tag ga = 13 := by have := (hS.rows 13 l13).2; rw [r13] at this; exact this ga rfl
 have hne : ga ≠ b := by
  intro e
  rw [e, tb] at tga
  omega
 have hlf : lv (20 + 2 * i) = false := by
  rcases hq : lv (20 + 2 * i) with _ | _
  ·rfl
  ·have := hS.far _ hq
   rw [hmp] at this
   cases this
 have HH : Hid _ := fun (W1 : World) (F : Fr [] W W1) => hasA_any ga (i * 2) b key W1 ((F.cell (p := ⟨ga, i * 2, none⟩) hgl (by simp)).trans (own_cell o13 hx0)) (hm.of_block (F.block b hm.lt (by simp))) hd.1 hd.2 hk
 rw [hno] at HH
 have HG : Hid _ := fun (W2 : World) (F : Fr [] W W2) => by
  have F3 : Fr [] W (W2.alloc (.cells #[.string key] 9)) := F.alloc _
  have S3 := hS.frm F3 6
  have om3 : (W2.alloc (.cells #[.string key] 9)).ownsRow 0 9 1 (.slice so h sc) h ys := by have := (S3.rows _ lm).1; rw [rm] at this; exact this
  obtain ⟨v', W4, hr4, hown', hgrow, -, hwh⟩ := run_append_own_at (P := Tryz.prog) (w := W2.alloc (.cells #[.string key] 9)) 0 22 22 9 i0 _ 1 16 Tryz.underlying22 hi hz0 hz1 hz2 rfl (by decide) _ _ _ om3 ⟨W2.heap.size, 0, none⟩ 1 1 [.string key] rfl (cells_new W2 #[.string key] 9) (by intro u hu; simp at hu; subst hu; rfl) (by unfold maxLen; omega) (by omega) (Nat.zero_le _)
  obtain ⟨vo, vc, rfl⟩ := own_form hown'
  obtain ⟨S4, K4⟩ := S3.grow (i := 21 + 2 * i) lm hown' (by rw [rm]; exact hgrow) (by rw [rm]; exact hwh)
  have r13' : up R (21 + 2 * i) ⟨.slice vo (h + 1) vc, 9, 1, h + 1, ys ++ [.string key]⟩ 13 = ⟨.slice (some ⟨ga, 0, none⟩) n cap, 146, 2, n, xs⟩ := by rw [up_off _ _ (by omega)]; exact r13
  obtain ⟨S5, K5⟩ := S4.put l13 r13' (j := i * 2 + 1) (by omega) (.slice vo (h + 1) vc)
  have o4 : W4.ownsRow 0 146 2 (.slice (some ⟨ga, 0, none⟩) n cap) n xs := by have := (S4.rows 13 l13).1; rw [r13'] at this; exact this
  exact (⟨vo, vc, W4, _, hr4, (F.cell (p := ⟨ga, i * 2 + 1, none⟩) hgl (by simp)).trans (own_cell o13 hx1), own_cell o4 hx1, own_thaw o4 (i * 2 + 1), (setCell_off (by omega)).trans (own_cell o4 hx0), S5, ((Kp.of_fr F3 (fun k hk => newTag_old hk)).trans K4).trans K5, fun k hk hk2 => ((K4.trans K5).blk k (by simp; omega) (by rw [newTag_new hk]; decide)).trans (Below.heap_alloc _ _ _ hk2)⟩ :
   ∃ vo vc W4 t4, (Builtin.append_ #[22, 22] 22 #[.slice so h sc, .slice (some ⟨W2.heap.size, 0, none⟩) 1 1]).run Tryz.prog (W2.alloc (.cells #[.string key] 9)) = .ok (.slice vo (h + 1 : Nat) vc) W4 ∧ W2.cell? ⟨ga, i * 2 + 1, none⟩ = some (.slice so h sc) ∧ W4.cell? ⟨ga, i * 2 + 1, none⟩ = some (.slice so h sc) ∧ W4.frozen? ⟨ga, i * 2 + 1, none⟩ = false ∧ (W4.setCell ⟨ga, i * 2 + 1, none⟩ (.slice vo (h + 1 : Nat) vc)).cell? ⟨ga, i * 2, none⟩ = some (.map (some b)) ∧
    Sto (W4.setCell ⟨ga, i * 2 + 1, none⟩ (.slice vo (h + 1 : Nat) vc)) t4 lv (up (up R (21 + 2 * i) ⟨.slice vo (h + 1 : Nat) vc, 9, 1, h + 1, ys ++ [.string key]⟩) 13 ⟨.slice (some ⟨ga, 0, none⟩) n cap, 146, 2, n, xs.set (i * 2 + 1) (.slice vo (h + 1 : Nat) vc)⟩) mp ∧ Kp tag t4 W (W4.setCell ⟨ga, i * 2 + 1, none⟩ (.slice vo (h + 1 : Nat) vc)) ∧ ∀ k, W.heap.size ≤ k → k < W2.heap.size → (W4.setCell ⟨ga, i * 2 + 1, none⟩ (.slice vo (h + 1 : Nat) vc)).heap[k]? = W2.heap[k]?)
 have hbn : W.heap.size ≠ b := by have := hm.lt; omega
 have HU : Hid _ := fun (W6 : World) (hm6 : MapAt W6 b (entL l)) => update_run hm6 hd.1 hd.2 hk v
 unfold SetNewP
 generalize entL (setK l key v) = le at HU ⊢
 unfold vV at HU ⊢
 generalize (v.kind : Int) = kk at HU ⊢
 generalize vN v = mm at HU ⊢
 generalize vS v = tt at HU ⊢
 obtain ⟨W1, hW1, F1, c0, c1, c2, l1⟩ := box_cells W kk mm tt
 have HF1 : Hid _ := And.intro F1 l1
 have HX : Hid _ := And.intro c0 (And.intro c1 c2)
 have HL : Hid _ := And.intro hlf hmp
 clear hm hd hno F1 c0 c1 c2 hx0 hx1 o13 om hS r13 rm lm l13 hi hz0 hz1 hz2 l1 hlf hmp tb tga hgl
 go_enter Tryz.func205, Tryz.ntmps205
 go_wp2_with fail
 refine (HH.out W1 HF1.out.1).mono ?_
 rintro e W2 ⟨rfl, F2⟩
 obtain ⟨vo, vc, W4, t4, hr4, q0, q1, q2, q3, S5, K5, hb5⟩ := HG.out W2 (HF1.out.1.trans F2)
 have hX2 : ∀ j u, W1.cell? ⟨W.heap.size, j, none⟩ = some u → (W4.setCell ⟨ga, i * 2 + 1, none⟩ (.slice vo (h + 1 : Nat) vc)).cell? ⟨W.heap.size, j, none⟩ = some u := fun j u hu => (World.cell?_of_block (w := W2) (a := ⟨W.heap.size, j, none⟩) (hb5 _ (Nat.le_refl _) (Nat.lt_of_lt_of_le HF1.out.2 F2.size))).trans ((F2.cell (p := ⟨W.heap.size, j, none⟩) HF1.out.2 (by simp)).trans hu)
 have HP : Hid _ := And.intro q3 (And.intro (hX2 0 _ HX.out.1) (And.intro (hX2 1 _ HX.out.2.1) (hX2 2 _ HX.out.2.2)))
 have HS5 : Hid _ := And.intro S5 K5
 have Hr4 : Hid _ := hr4
 clear S5 K5 hb5 hX2 q3 hr4 HG HH F2
 go_wp2_with (at_builtin; refine wpList_appendB rfl (.tmp 14) (.tmp 16) 22 rfl _ _ _ rfl rfl Hr4.out ?_)
 refine wp_region_heldD (fun V => V.cell? ⟨ga, i * 2, none⟩ = some (.map (some b)) ∧ V.cell? ⟨W.heap.size, 0, none⟩ = some (.int .u8 kk) ∧ V.cell? ⟨W.heap.size, 1, none⟩ = some (.int .i64 mm) ∧ V.cell? ⟨W.heap.size, 2, none⟩ = some (.string tt)) hmx ?_
 generalize hW5 : W4.setCell ⟨ga, i * 2 + 1, none⟩ (.slice vo (h + 1 : Nat) vc) = W5 at HP HS5 ⊢
 obtain ⟨WD, hWD⟩ : ∃ WD, W5.drew = WD := ⟨_, rfl⟩
 rw [hWD]
 have F3 : Fr [] W5 WD := by rw [← hWD]; exact (Fr.refl [] W5).drew
 have hcw : ∀ a, WD.cell? a = W5.cell? a := fun a => by rw [← hWD]; rfl
 have hS : WD.cell? ⟨ga, i * 2, none⟩ = some (.map (some b)) ∧ WD.cell? ⟨W.heap.size, 0, none⟩ = some (.int .u8 kk) ∧ WD.cell? ⟨W.heap.size, 1, none⟩ = some (.int .i64 mm) ∧ WD.cell? ⟨W.heap.size, 2, none⟩ = some (.string tt) := ⟨(hcw _).trans HP.out.1, (hcw _).trans HP.out.2.1, (hcw _).trans HP.out.2.2.1, (hcw _).trans HP.out.2.2.2⟩
 have S6 := HS5.out.1.kp (tag' := t4) F3 (fun _ _ => rfl)
 have K6 := HS5.out.2.trans (Kp.of_fr (tag' := t4) F3 fun _ _ => rfl)
 obtain ⟨hm6, tb6⟩ := S6.maps _ _ _ HL.out.2
 obtain ⟨es', clock', hup, hel⟩ := HU.out WD hm6
 have HE : Hid _ := And.intro (And.intro S6 K6) (And.intro hel (And.intro hm6.lt tb6))
 clear S6 K6 hm6 tb6 hel HU HP HS5 F3 hcw hWD hW5 HX HF1
 refine wpAnyH_takes (fun _ _ _ _ _ h => h) hS [0, 1, 2, 3, 4, 5] (by kernel_rfl) ?_
 iterate 6
  refine Yls.cons (v := ?_) rfl (.inl ⟨rfl, fun w1 hS1 => ?_⟩) ?_
  rotate_left
  ·obtain ⟨p0, p1, p2, p3⟩ := hS1
   go_simp
   first | rfl | (refine (if_neg (by omega)).trans ?_; rfl)
  simp only [Act.put, List.setIfInBounds_toArray, List.set_cons_zero, List.set_cons_succ, List.getElem_toArray, List.getElem_cons_succ, List.getElem_cons_zero]
 refine Yls.nil ?_
 refine wpAnyH_ready (rs := [6]) (by kernel_rfl) (by simp) ?_
 refine AllReadyH.cons rfl (fun K hK => ?_) AllReadyH.nil
 have hS2 : (setB WD b (.map es' clock')).cell? ⟨ga, i * 2, none⟩ = some (.map (some b)) ∧ (setB WD b (.map es' clock')).cell? ⟨W.heap.size, 0, none⟩ = some (.int .u8 kk) ∧ (setB WD b (.map es' clock')).cell? ⟨W.heap.size, 1, none⟩ = some (.int .i64 mm) ∧ (setB WD b (.map es' clock')).cell? ⟨W.heap.size, 2, none⟩ = some (.string tt) :=
  have e1 := fun j => World.cell?_of_block (w := WD) (a := ⟨ga, j, none⟩) (setB_off WD (.map es' clock') hne)
  have e2 := fun j => World.cell?_of_block (w := WD) (a := ⟨W.heap.size, j, none⟩) (setB_off WD (.map es' clock') hbn)
  ⟨(e1 _).trans hS.1, (e2 _).trans hS.2.1, (e2 _).trans hS.2.2.1, (e2 _).trans hS.2.2.2⟩
 have HS2 : Hid _ := hS2
 clear hS2 hS
 obtain ⟨W6, hW6⟩ : ∃ W6, setB WD b (.map es' clock') = W6 := ⟨_, rfl⟩
 rw [hW6] at hup HS2
 go_simp
 refine hK _ _ HS2.out ?_
 clear hK K
 intro _
 try simp only [Act.put, List.setIfInBounds_toArray, List.set_cons_zero, List.set_cons_succ, List.getElem_toArray, List.getElem_cons_succ, List.getElem_cons_zero]
 refine wpAnyH_done (by kernel_rfl) ?_ _
 go_wp2_with fail
 refine bodyPost_end (results_none rfl _ _ _) rfl ?_
 obtain ⟨⟨S6, K6⟩, hel, hbl, tb6⟩ := HE.out
 have c1 : Chg t4 [20 + 2 * i] WD (setB WD b (.map es' clock')) := by rw [← tb6]; exact setB_chg WD _ _
 have S7 := S6.map (b := b) (l := le) HL.out.1 (by omega) c1 (fun _ _ => rfl) ⟨es', clock', setB_same WD _ hbl, hel⟩ tb6
 have K7 := K6.trans (Kp.chg c1 (fun _ _ => rfl) (by simp; omega))
 rw [hW6] at S7 K7
 exact ⟨rfl, _, _, S7, K7⟩
end
end Go.Proofs.YtmolfmgchbjnbaaGreatDoor
namespace Go.Proofs.YtmolfmgchbjnbaaGreatDoor
open Go.RowKit
open Wire Flow Mach
section
variable {E : Env} {X : Nat} {g : Pl} {s : Ms} {W W' : World} {tag tag' : Nat → Nat}
theorem MM.setNew (h : MM E X g s W tag) {ga c : Nat} (hg : g.av = .slice (some ⟨ga, 0, none⟩) s.w.arrs.length c) {i : Nat} (hi : i < s.w.arrs.length) {key : ByteArray} (hk : key.size ≤ 1048576) (ho : ArrOk (s.w.arrs.getD i [])) (hh : hasK (s.w.arrs.getD i []) key = false) (hf : (s.w.arrs.getD i []).length < 100000) (v : Val) :
  Calls Tryz.prog 205 #[.pointer (some ⟨ga, i * 2, none⟩), .string key, vV v] W (MP E X g (onArr s i (setK (s.w.arrs.getD i []) key v)) tag W unit) := by
 obtain ⟨h6, lv, R, mp, x, hx, h⟩ := h
 have r13 := h.rA
 rw [hx.2, hg] at r13
 have e := fun t (ht : t < 2) => rng_get (n := s.w.arrs.length) (z := 2) (f := fun i => [Value.map (some (x.A i).1), (x.A i).2]) (fun _ _ => rfl) hi ht
 obtain ⟨a1, a2, a3⟩ := h.arr i hi
 refine (set_new h.S h.lA r13 hi h.nA a2 a3 ((e 0 (by decide)).trans rfl) ((e 1 (by decide)).trans rfl) a1 hf ho hk hh v).mono fun ee W' ⟨he, t', sv', S, K⟩ => ⟨he, t', ⟨Nat.le_trans h6 K.size, lv, _, _, onA x i ((x.A i).1, sv'), hx, h.rearr h6 hi (l := setK (s.w.arrs.getD i []) key v) K S ?_ ?_ ?_ ?_ ?_⟩, K⟩
 ·rw [up_same, hx.2, hg]
 ·rw [up_off _ _ (by omega), up_same, setK_new hh]
  simp [keysA]
 ·intro q h1 h2
  rw [up_off _ _ h1, up_off _ _ h2]
 ·exact up_same _ _ _
 ·intro q h1
  exact up_off _ _ h1
theorem MM.set (h : MM E X g s W tag) {ga c : Nat} (hg : g.av = .slice (some ⟨ga, 0, none⟩) s.w.arrs.length c) {i : Nat} (hi : i < s.w.arrs.length) {key : ByteArray} (hk : key.size ≤ 1048576) (ho : ArrOk (s.w.arrs.getD i [])) (hf : hasK (s.w.arrs.getD i []) key = true ∨ (s.w.arrs.getD i []).length < 100000) (v : Val) :
  Calls Tryz.prog 205 #[.pointer (some ⟨ga, i * 2, none⟩), .string key, vV v] W (MP E X g (onArr s i (setK (s.w.arrs.getD i []) key v)) tag W unit) := by
 rcases hh : hasK (s.w.arrs.getD i []) key with _ | _
 ·exact h.setNew hg hi hk ho hh (by rcases hf with c | c; (rw [hh] at c; cases c); exact c) v
 ·exact h.setIn hg hi hk ho hh v
theorem MM.hasA (h : MM E X g s W tag) {ga c : Nat} (hg : g.av = .slice (some ⟨ga, 0, none⟩) s.w.arrs.length c) {i : Nat} (hi : i < s.w.arrs.length) {key : ByteArray} (hk : key.size ≤ 1048576) (ho : ArrOk (s.w.arrs.getD i [])) :
  Calls Tryz.prog 207 #[.pointer (some ⟨ga, i * 2, none⟩), .string key] W fun e W' => e = .returned (.bool (hasK (s.w.arrs.getD i []) key)) ∧ Fr [] W W' := by
 obtain ⟨b, ov, c0, c1, hm, ow⟩ := h.arrAt hg hi
 exact hasA_any ga (i * 2) b key W c0 hm ho.1 ho.2 hk
theorem ArrOk.set {l : List (ByteArray × Val)} (h : ArrOk l) {k : ByteArray} (hk : k.size ≤ 1048576) (v : Val) : ArrOk (setK l k v) := by
 refine ⟨?_, fun e he => ?_⟩
 ·rcases hh : hasK l k with _ | _
  ·rw [setK_new hh]
   unfold keysA
   rw [List.map_append]
   refine List.nodup_append.2 ⟨h.1, by simp, ?_⟩
   intro a ha b hb e
   subst e
   have : a = k := by simpa using hb
   subst this
   rw [hasK_iff.2 ha] at hh
   cases hh
  ·rw [keys_setK v hh]
   exact h.1
 ·rcases setK_mem he with he | rfl
  ·exact h.2 e he
  ·exact hk
theorem getK_setK (l : List (ByteArray × Val)) (k : ByteArray) (v : Val) : getK (setK l k v) k = v := by
 induction l with
 | nil => simp [setK, getK]
 | cons a l ih =>
  unfold setK
  by_cases e : a.1 = k
  ·rw [if_pos e]; simp [getK]
  ·rw [if_neg e]; simp [getK, e, ih]
set_option maxRecDepth 100000 in
set_option maxHeartbeats 4000000 in
theorem MM.lookNew (h : MM E X g s W tag) {ga c : Nat} (hg : g.av = .slice (some ⟨ga, 0, none⟩) s.w.arrs.length c) {i : Nat} (hi : i < s.w.arrs.length) {key : ByteArray} (hk : key.size ≤ 1048576) (ho : ArrOk (s.w.arrs.getD i [])) (hh : hasK (s.w.arrs.getD i []) key = false) (hf : (s.w.arrs.getD i []).length < 100000) :
  Calls Tryz.prog 204 #[.pointer (some ⟨ga, i * 2, none⟩), .string key] W (MP E X g (onArr s i (setK (s.w.arrs.getD i []) key nothing)) tag W (vV nothing)) := by
 have HH : Hid _ := fun (W1 : World) (t1 : Nat → Nat) (h1 : MM E X g s W1 t1) => h1.hasA hg hi hk ho
 rw [hh] at HH
 have HN : Hid _ := fun (W1 : World) (t1 : Nat → Nat) (h1 : MM E X g s W1 t1) => h1.setNew hg hi hk ho hh hf nothing
 have HA : Hid _ := fun (W1 : World) (t1 : Nat → Nat) (h1 : MM E X g (onArr s i (setK (s.w.arrs.getD i []) key nothing)) W1 t1) => by
  have hl : (onArr s i (setK (s.w.arrs.getD i []) key nothing)).w.arrs.length = s.w.arrs.length := arr_len s i _
  obtain ⟨b, ov, c0, c1, hm, ow⟩ := h1.arrAt (c := c) (by rw [hl]; exact hg) (i := i) (by rw [hl]; exact hi)
  rw [arr_same s hi] at hm
  have := lookup1_run hm (ho.set hk nothing).1 (ho.set hk nothing).2 hk
  rw [getK_setK] at this
  exact (⟨b, c0, this⟩ : ∃ b, W1.cell? ⟨ga, i * 2, none⟩ = some (.map (some b)) ∧ (Instr.lookup 144 (.map (some b)) (.string key) false).run Tryz.prog W1 = .ok (vV nothing) W1)
 obtain ⟨W1, hW1⟩ : ∃ W1, W.alloc (.cells #[.int .u8 0, .int .i64 0, .string ⟨#[]⟩] 221) = W1 := ⟨_, rfl⟩
 have F1 : Fr [] W W1 := by rw [← hW1]; exact (Fr.refl [] W).alloc _
 have k1 := World.alloc_heap_new W (.cells #[.int .u8 0, .int .i64 0, .string ⟨#[]⟩] 221)
 rw [hW1] at k1
 have l1 := (Array.getElem?_eq_some_iff.1 k1).1
 obtain ⟨t1, h1, kk1, hb1⟩ := MM.box h F1
 have HM1 : Hid _ := And.intro h1 kk1
 have HB : Hid _ := And.intro k1 (And.intro l1 (And.intro (hb1 W.heap.size (Nat.le_refl _)) h.six))
 generalize onArr s i (setK (s.w.arrs.getD i []) key nothing) = s2 at HN HA ⊢
 clear h h1 kk1 F1 l1 hb1 k1 ho hh hf
 go_enter Tryz.func204, Tryz.ntmps204
 go_wp2_with fail
 refine (HH.out W1 t1 HM1.out.1).mono ?_
 rintro e W2 ⟨rfl, F2⟩
 obtain ⟨t2, h2, k2, -⟩ := MM.box HM1.out.1 F2
 have HM2 : Hid _ := And.intro h2 k2
 clear h2 k2 F2 HH
 go_wp2_with fail
 refine (HN.out W2 t2 HM2.out.1).mono ?_
 rintro e W3 ⟨rfl, t3, h3, k3⟩
 have kk := HM2.out.2.trans k3
 obtain ⟨k1, l1, b1, h6⟩ := HB.out
 have k1' : W3.heap[W.heap.size]? = some (.cells #[.int .u8 0, .int .i64 0, .string ⟨#[]⟩] 221) := (kk.blk _ l1 (by omega)).trans k1
 have b3 : t3 W.heap.size = 6 := (kk.ret _ l1).trans b1
 obtain ⟨bm, c0, hlk⟩ := HA.out W3 t3 h3
 obtain ⟨hy, z0, z1, z2⟩ := cells3 k1'
 obtain ⟨W7, hW7, r0, r1, r2, F7⟩ := set3 (x' := .int .u8 0) (y' := .int .i64 0) (z' := .string ⟨#[]⟩) hy
 obtain ⟨y0, y1, y2⟩ := hy
 have hM7 : MM E X g s2 W7 t3 := by
  rw [← hW7]
  exact ((h3.poke b3 h6 0 _).poke b3 h6 1 _).poke b3 h6 2 _
 have hK7 : Kp tag t3 W W7 := by
  rw [← hW7]
  exact (((HM1.out.2.trans kk).poke (Nat.le_refl _) 0 _).poke (Nat.le_refl _) 1 _).poke (Nat.le_refl _) 2 _
 have HM7 : Hid _ := And.intro hM7 hK7
 have e0 : vV nothing = .agg #[.int .u8 0, .int .i64 0, .string ⟨#[]⟩] := rfl
 rw [e0] at hlk ⊢
 clear hM7 hK7 F7 kk k1 l1 h3 k3 HN HA HM1 HM2 k1' HB b1 b3 h6 e0
 go_wp2_with fail
 refine bodyPost_ret (v := vlV 0 0 ⟨#[]⟩) (by simp [results, Tryz.results204, go_sem, r0, r1, r2]) rfl ?_
 exact ⟨rfl, t3, HM7.out.1, HM7.out.2⟩
end
end Go.Proofs.YtmolfmgchbjnbaaGreatDoor
namespace Go.Proofs.YtmolfmgchbjnbaaGreatDoor
open Go.RowKit
open Wire Flow Mach
section
variable {E : Env} {X : Nat} {g : Pl} {s : Ms} {W W' : World} {tag : Nat → Nat}
set_option maxRecDepth 100000 in
set_option maxHeartbeats 4000000 in
theorem MM.agetNew (hE : EnvOk E) (h : MM E X g s W tag) {l : List Cell} {v : Val} (hs : s.fr.stk = l ++ [cv v]) (hl : s.fr.stk.length ≤ 1024) (hv : SmV v) (hx : (textV E v).size ≤ 1048576) {a : Nat} (ha : a < s.w.arrs.length) (hk : ArrOk (s.w.arrs.getD a [])) (hn : s.w.arrs.length ≤ 1000) (hh : hasK (s.w.arrs.getD a []) (textV E v) = false) (hf : (s.w.arrs.getD a []).length < 30) (pl b q : Int) :
  Calls Tryz.prog 119 #[ptr X, fp g s, inV 11 pl (a : Nat) b q] W (MP E X g (onStk (onArr s a (setK (s.w.arrs.getD a []) (textV E v) nothing)) (l ++ [cv nothing])) tag W (stI 0)) := by
 have hl1 : l.length < 1024 := by rw [hs] at hl; simp at hl; omega
 have hm : Tryz.prog.follows Departure.mixedOrders = true := by kernel_rfl
 obtain ⟨W1, hW1, F1, ⟨b0, b1, b2, b3, b4⟩, l1⟩ := box5 W 11 pl (a : Nat) b q
 obtain ⟨t1, h1, k1, hb1⟩ := MM.box h F1
 obtain ⟨ga, c, hg⟩ := h.avS ha
 have HM1 : Hid _ := And.intro h1 k1
 have x9 := h1.avc
 rw [hg] at x9
 have HP : Hid _ := fun (W1 : World) (t1 : Nat → Nat) (h1 : MM E X g s W1 t1) => MM.popText hE h1 hs hl hv
 have HK : Hid _ := fun (W1 : World) (t1 : Nat → Nat) (h1 : MM E X g (onStk s l) W1 t1) => MM.takes h1 hg (i := a) ha hx hk (Nat.le_trans (Nat.le_of_lt hf) (by decide))
 have HH : Hid _ := fun (W1 : World) (t1 : Nat → Nat) (h1 : MM E X g (onStk s l) W1 t1) => MM.lookNew h1 hg (i := a) ha hx hk hh (Nat.lt_trans hf (by decide))
 have HT : Hid _ := fun (W1 : World) (t1 : Nat → Nat) (h1 : MM E X g (onArr (onStk s l) a (setK (s.w.arrs.getD a []) (textV E v) nothing)) W1 t1) => MM.push h1 (show l.length < 1024 from hl1) nothing
 replace HK : Hid (∀ (W1 : World) (t1 : Nat → Nat), MM E X g (onStk s l) W1 t1 → Calls Tryz.prog 203 #[.pointer (some ⟨ga, a * 2, none⟩), .string (textV E v)] W1 fun e W' => e = .returned (.bool true) ∧ Fr [] W1 W') := by
  intro W1 t1 h1
  have := HK.out W1 t1 h1
  have e : (hasK ((onStk s l).w.arrs.getD a []) (textV E v) || decide (((onStk s l).w.arrs.getD a []).length < 30)) = true := by
   rw [show hasK ((onStk s l).w.arrs.getD a []) (textV E v) = false from hh, show decide (((onStk s l).w.arrs.getD a []).length < 30) = true from decide_eq_true hf]
   rfl
  rw [e] at this
  exact this
 have e0 : vV nothing = .agg #[.int .u8 0, .int .i64 0, .string ⟨#[]⟩] := rfl
 rw [e0] at HH HT
 replace HH : Hid (∀ (W1 : World) (t1 : Nat → Nat), MM E X g (onStk s l) W1 t1 → Calls Tryz.prog 204 #[.pointer (some ⟨ga, a * 2, none⟩), .string (textV E v)] W1 (MP E X g (onArr (onStk s l) a (setK (s.w.arrs.getD a []) (textV E v) nothing)) t1 W1 (.agg #[.int .u8 0, .int .i64 0, .string ⟨#[]⟩]))) := HH
 show Calls _ _ _ _ (MP E X g (onStk (onArr (onStk s l) a (setK (s.w.arrs.getD a []) (textV E v) nothing)) (l ++ [cv nothing])) tag W (stI 0))
 have hfp : fp g (onArr (onStk s l) a (setK (s.w.arrs.getD a []) (textV E v) nothing)) = fp g s := rfl
 have hst : (onArr (onStk s l) a (setK (s.w.arrs.getD a []) (textV E v) nothing)).fr.stk = l := rfl
 rw [hfp, hst] at HT
 generalize onArr (onStk s l) a (setK (s.w.arrs.getD a []) (textV E v) nothing) = s2 at HH HT ⊢
 generalize textV E v = tx at HP HH HK
 clear h h1 k1 F1 l1 hb1 hx hk hh hf hfp hst e0
 have hi' : (a : Int) < s.w.arrs.length := by omega
 go_enter Tryz.func119, Tryz.ntmps119
 go_wp2_with fail
 refine wp_region_lex hm (by kernel_rfl) ?_
 repeat still_step
 refine wpStill_nil ?_
 have F2 : Fr [] W1 W1.drew := (Fr.refl [] W1).drew
 obtain ⟨t2, h2, k2⟩ := MM.fr HM1.out.1 F2
 have HM2 : Hid _ := And.intro h2 (HM1.out.2.trans k2)
 have HK2 : Hid _ := k2
 clear h2 k2 F2
 go_wp2_with fail
 refine (HP.out W1.drew t2 HM2.out.1).mono ?_
 rintro e W3 ⟨rfl, t3, h3, k3⟩
 have HM3 : Hid _ := And.intro h3 (HM2.out.2.trans k3)
 have HK3 : Hid _ := k3
 clear h3 k3 HP
 have HK3 : Hid _ := fun (_ : Unit) => HK.out W3 t3 HM3.out.1
 go_wp2_with fail
 refine (HK3.out ()).mono ?_
 rintro e W4 ⟨rfl, F4⟩
 obtain ⟨t4, h4, k4⟩ := MM.fr HM3.out.1 F4
 have HM4 : Hid _ := And.intro h4 (HM3.out.2.trans k4)
 have HK4 : Hid _ := k4
 clear h4 k4 F4
 clear HK HK3
 go_wp2_with fail
 refine (HH.out W4 t4 HM4.out.1).mono ?_
 rintro e W5 ⟨rfl, t5, h5, k5⟩
 have HM5 : Hid _ := And.intro h5 (HM4.out.2.trans k5)
 have HK5 : Hid _ := k5
 clear h5 k5 HH
 go_wp2_with fail
 refine (HT.out W5 t5 HM5.out.1).mono ?_
 rintro e W6 ⟨rfl, t6, h6, k6⟩
 have HM6 : Hid _ := And.intro h6 (HM5.out.2.trans k6)
 have HK6 : Hid _ := k6
 clear h6 k6 HT
 go_wp2_with fail
 go_ret
 exact ⟨rfl, t6, HM6.out.1, HM6.out.2⟩
set_option maxRecDepth 100000 in
set_option maxHeartbeats 4000000 in
theorem MM.agetFull (hE : EnvOk E) (h : MM E X g s W tag) {l : List Cell} {v : Val} (hs : s.fr.stk = l ++ [cv v]) (hl : s.fr.stk.length ≤ 1024) (hv : SmV v) (hx : (textV E v).size ≤ 1048576) {a : Nat} (ha : a < s.w.arrs.length) (hk : ArrOk (s.w.arrs.getD a [])) (hn : s.w.arrs.length ≤ 1000) (hh : hasK (s.w.arrs.getD a []) (textV E v) = false) (hf : 30 ≤ (s.w.arrs.getD a []).length) (hn2 : (s.w.arrs.getD a []).length ≤ 100000) (pl b q : Int) :
  Calls Tryz.prog 119 #[ptr X, fp g s, inV 11 pl (a : Nat) b q] W (MP E X g (onStk s l) tag W (stI 7)) := by
 have hm : Tryz.prog.follows Departure.mixedOrders = true := by kernel_rfl
 obtain ⟨W1, hW1, F1, ⟨b0, b1, b2, b3, b4⟩, l1⟩ := box5 W 11 pl (a : Nat) b q
 obtain ⟨t1, h1, k1, hb1⟩ := MM.box h F1
 obtain ⟨ga, c, hg⟩ := h.avS ha
 have HM1 : Hid _ := And.intro h1 k1
 have x9 := h1.avc
 rw [hg] at x9
 have HP : Hid _ := fun (W1 : World) (t1 : Nat → Nat) (h1 : MM E X g s W1 t1) => MM.popText hE h1 hs hl hv
 have HK : Hid _ := fun (W1 : World) (t1 : Nat → Nat) (h1 : MM E X g (onStk s l) W1 t1) => MM.takes h1 hg (i := a) ha hx hk hn2
 replace HK : Hid (∀ (W1 : World) (t1 : Nat → Nat), MM E X g (onStk s l) W1 t1 → Calls Tryz.prog 203 #[.pointer (some ⟨ga, a * 2, none⟩), .string (textV E v)] W1 fun e W' => e = .returned (.bool false) ∧ Fr [] W1 W') := by
  intro W1 t1 h1
  have := HK.out W1 t1 h1
  have e : (hasK ((onStk s l).w.arrs.getD a []) (textV E v) || decide (((onStk s l).w.arrs.getD a []).length < 30)) = false := by
   rw [show hasK ((onStk s l).w.arrs.getD a []) (textV E v) = false from hh, show decide (((onStk s l).w.arrs.getD a []).length < 30) = false from decide_eq_false (by show ¬ (s.w.arrs.getD a []).length < 30; omega)]
   rfl
  rw [e] at this
  exact this
 generalize textV E v = tx at HP HK
 clear h h1 k1 F1 l1 hb1 hx hk hh hf hn2
 have hi' : (a : Int) < s.w.arrs.length := by omega
 go_enter Tryz.func119, Tryz.ntmps119
 go_wp2_with fail
 refine wp_region_lex hm (by kernel_rfl) ?_
 repeat still_step
 refine wpStill_nil ?_
 have F2 : Fr [] W1 W1.drew := (Fr.refl [] W1).drew
 obtain ⟨t2, h2, k2⟩ := MM.fr HM1.out.1 F2
 have HM2 : Hid _ := And.intro h2 (HM1.out.2.trans k2)
 have HK2 : Hid _ := k2
 clear h2 k2 F2
 go_wp2_with fail
 refine (HP.out W1.drew t2 HM2.out.1).mono ?_
 rintro e W3 ⟨rfl, t3, h3, k3⟩
 have HM3 : Hid _ := And.intro h3 (HM2.out.2.trans k3)
 have HK3 : Hid _ := k3
 clear h3 k3 HP
 have HK3 : Hid _ := fun (_ : Unit) => HK.out W3 t3 HM3.out.1
 go_wp2_with fail
 refine (HK3.out ()).mono ?_
 rintro e W4 ⟨rfl, F4⟩
 obtain ⟨t4, h4, k4⟩ := MM.fr HM3.out.1 F4
 have HM4 : Hid _ := And.intro h4 (HM3.out.2.trans k4)
 have HK4 : Hid _ := k4
 clear h4 k4 F4
 clear HK HK3
 go_wp2_with fail
 go_ret
 exact ⟨rfl, t4, HM4.out.1, HM4.out.2⟩
set_option maxRecDepth 100000 in
set_option maxHeartbeats 4000000 in
theorem MM.aset (hE : EnvOk E) (h : MM E X g s W tag) {l : List Cell} {u v : Val} (hs : s.fr.stk = l ++ [cv u, cv v]) (hl : s.fr.stk.length ≤ 1024) (hu : SmV u) (hx : (textV E u).size ≤ 1048576) {a : Nat} (ha : a < s.w.arrs.length) (hk : ArrOk (s.w.arrs.getD a [])) (hn : s.w.arrs.length ≤ 1000) (hf : hasK (s.w.arrs.getD a []) (textV E u) = true ∨ (s.w.arrs.getD a []).length < 30) (hn2 : (s.w.arrs.getD a []).length ≤ 100000) (pl b q : Int) :
  Calls Tryz.prog 119 #[ptr X, fp g s, inV 12 pl (a : Nat) b q] W (MP E X g (onArr (onStk s l) a (setK (s.w.arrs.getD a []) (textV E u) v)) tag W (stI 0)) := by
 have hs1 : s.fr.stk = (l ++ [cv u]) ++ [cv v] := by rw [hs]; simp
 have hlu : (l ++ [cv u]).length ≤ 1024 := by rw [hs] at hl; simp at hl ⊢; omega
 have hm : Tryz.prog.follows Departure.mixedOrders = true := by kernel_rfl
 obtain ⟨W1, hW1, F1, ⟨b0, b1, b2, b3, b4⟩, l1⟩ := box5 W 12 pl (a : Nat) b q
 obtain ⟨t1, h1, k1, hb1⟩ := MM.box h F1
 obtain ⟨ga, c, hg⟩ := h.avS ha
 have HM1 : Hid _ := And.intro h1 k1
 have x9 := h1.avc
 rw [hg] at x9
 have HQ : Hid _ := fun (W1 : World) (t1 : Nat → Nat) (h1 : MM E X g s W1 t1) => MM.popV h1 hs1 hl
 have HP : Hid _ := fun (W1 : World) (t1 : Nat → Nat) (h1 : MM E X g (onStk s (l ++ [cv u])) W1 t1) => MM.popText hE h1 (l := l) (v := u) rfl hlu hu
 have HK : Hid _ := fun (W1 : World) (t1 : Nat → Nat) (h1 : MM E X g (onStk s l) W1 t1) => MM.takes h1 hg (i := a) ha hx hk hn2
 replace HK : Hid (∀ (W1 : World) (t1 : Nat → Nat), MM E X g (onStk s l) W1 t1 → Calls Tryz.prog 203 #[.pointer (some ⟨ga, a * 2, none⟩), .string (textV E u)] W1 fun e W' => e = .returned (.bool true) ∧ Fr [] W1 W') := by
  intro W1 t1 h1
  have := HK.out W1 t1 h1
  have e : (hasK ((onStk s l).w.arrs.getD a []) (textV E u) || decide (((onStk s l).w.arrs.getD a []).length < 30)) = true := by
   rcases hf with c | c
   ·rw [show hasK ((onStk s l).w.arrs.getD a []) (textV E u) = true from c]; rfl
   ·rw [show decide (((onStk s l).w.arrs.getD a []).length < 30) = true from decide_eq_true c, Bool.or_true]
  rw [e] at this
  exact this
 have HS : Hid _ := fun (W1 : World) (t1 : Nat → Nat) (h1 : MM E X g (onStk s l) W1 t1) => MM.set h1 hg (i := a) ha hx hk (hf.imp id (fun c => Nat.lt_trans c (by decide))) v
 replace HS : Hid (∀ (W1 : World) (t1 : Nat → Nat), MM E X g (onStk s l) W1 t1 → Calls Tryz.prog 205 #[.pointer (some ⟨ga, a * 2, none⟩), .string (textV E u), vV v] W1 (MP E X g (onArr (onStk s l) a (setK (s.w.arrs.getD a []) (textV E u) v)) t1 W1 unit)) := HS
 generalize onArr (onStk s l) a (setK (s.w.arrs.getD a []) (textV E u) v) = s2 at HS ⊢
 generalize textV E u = tx at HP HK HS
 unfold vV at HS HQ
 generalize (v.kind : Int) = kk at HQ HS
 generalize vN v = mm at HQ HS
 generalize vS v = tt at HQ HS
 clear h h1 k1 F1 l1 hb1 hx hk hf hn2 hs1
 have hi' : (a : Int) < s.w.arrs.length := by omega
 go_enter Tryz.func119, Tryz.ntmps119
 go_wp2_with fail
 refine wp_region_lex hm (by kernel_rfl) ?_
 repeat still_step
 refine wpStill_nil ?_
 have F2 : Fr [] W1 W1.drew := (Fr.refl [] W1).drew
 obtain ⟨t2, h2, k2⟩ := MM.fr HM1.out.1 F2
 have HM2 : Hid _ := And.intro h2 (HM1.out.2.trans k2)
 have HK2 : Hid _ := k2
 clear h2 k2 F2
 go_wp2_with fail
 refine (HQ.out W1.drew t2 HM2.out.1).mono ?_
 rintro e W3 ⟨rfl, t3, h3, k3⟩
 have HM3 : Hid _ := And.intro h3 (HM2.out.2.trans k3)
 have HK3 : Hid _ := k3
 clear h3 k3 HQ
 obtain ⟨W4, hW4, F4, c0, c1, c2, l4⟩ := box_cells W3 kk mm tt
 obtain ⟨t4, h4, k4, hb4⟩ := MM.box HM3.out.1 F4
 have HX4 : Hid _ := BoxAt.mk l4 (hb4 _ (Nat.le_refl _)) c0 c1 c2
 have HM4 : Hid _ := And.intro h4 (HM3.out.2.trans k4)
 have HK4 : Hid _ := k4
 clear h4 k4 F4 hb4 l4
 go_wp2_with fail
 refine (HP.out W4 t4 HM4.out.1).mono ?_
 rintro e W5 ⟨rfl, t5, h5, k5⟩
 have HM5 : Hid _ := And.intro h5 (HM4.out.2.trans k5)
 have HK5 : Hid _ := k5
 clear h5 k5 HP
 have HK5' : Hid _ := fun (_ : Unit) => HK.out W5 t5 HM5.out.1
 have HX5 : Hid _ := HX4.out.kp HK5.out
 clear HX4 HK
 go_wp2_with fail
 refine (HK5'.out ()).mono ?_
 rintro e W6 ⟨rfl, F6⟩
 obtain ⟨t6, h6, k6⟩ := MM.fr HM5.out.1 F6
 have HM6 : Hid _ := And.intro h6 (HM5.out.2.trans k6)
 have HK6 : Hid _ := k6
 clear h6 k6 F6
 have HX6 := HX5.out.kp HK6.out
 obtain ⟨-, -, c0, c1, c2⟩ := HX6
 clear HX5 HK5'
 go_wp2_with fail
 refine (HS.out W6 t6 HM6.out.1).mono ?_
 rintro e W7 ⟨rfl, t7, h7, k7⟩
 have HM7 : Hid _ := And.intro h7 (HM6.out.2.trans k7)
 have HK7 : Hid _ := k7
 clear h7 k7 HS
 go_wp2_with fail
 go_ret
 exact ⟨rfl, t7, HM7.out.1, HM7.out.2⟩
set_option maxRecDepth 100000 in
set_option maxHeartbeats 4000000 in
theorem MM.asetFull (hE : EnvOk E) (h : MM E X g s W tag) {l : List Cell} {u v : Val} (hs : s.fr.stk = l ++ [cv u, cv v]) (hl : s.fr.stk.length ≤ 1024) (hu : SmV u) (hx : (textV E u).size ≤ 1048576) {a : Nat} (ha : a < s.w.arrs.length) (hk : ArrOk (s.w.arrs.getD a [])) (hn : s.w.arrs.length ≤ 1000) (hh : hasK (s.w.arrs.getD a []) (textV E u) = false) (hf : 30 ≤ (s.w.arrs.getD a []).length) (hn2 : (s.w.arrs.getD a []).length ≤ 100000) (pl b q : Int) :
  Calls Tryz.prog 119 #[ptr X, fp g s, inV 12 pl (a : Nat) b q] W (MP E X g (onStk s l) tag W (stI 7)) := by
 have hs1 : s.fr.stk = (l ++ [cv u]) ++ [cv v] := by rw [hs]; simp
 have hlu : (l ++ [cv u]).length ≤ 1024 := by rw [hs] at hl; simp at hl ⊢; omega
 have hm : Tryz.prog.follows Departure.mixedOrders = true := by kernel_rfl
 obtain ⟨W1, hW1, F1, ⟨b0, b1, b2, b3, b4⟩, l1⟩ := box5 W 12 pl (a : Nat) b q
 obtain ⟨t1, h1, k1, hb1⟩ := MM.box h F1
 obtain ⟨ga, c, hg⟩ := h.avS ha
 have HM1 : Hid _ := And.intro h1 k1
 have x9 := h1.avc
 rw [hg] at x9
 have HQ : Hid _ := fun (W1 : World) (t1 : Nat → Nat) (h1 : MM E X g s W1 t1) => MM.popV h1 hs1 hl
 have HP : Hid _ := fun (W1 : World) (t1 : Nat → Nat) (h1 : MM E X g (onStk s (l ++ [cv u])) W1 t1) => MM.popText hE h1 (l := l) (v := u) rfl hlu hu
 have HK : Hid _ := fun (W1 : World) (t1 : Nat → Nat) (h1 : MM E X g (onStk s l) W1 t1) => MM.takes h1 hg (i := a) ha hx hk hn2
 replace HK : Hid (∀ (W1 : World) (t1 : Nat → Nat), MM E X g (onStk s l) W1 t1 → Calls Tryz.prog 203 #[.pointer (some ⟨ga, a * 2, none⟩), .string (textV E u)] W1 fun e W' => e = .returned (.bool false) ∧ Fr [] W1 W') := by
  intro W1 t1 h1
  have := HK.out W1 t1 h1
  have e : (hasK ((onStk s l).w.arrs.getD a []) (textV E u) || decide (((onStk s l).w.arrs.getD a []).length < 30)) = false := by
   rw [show hasK ((onStk s l).w.arrs.getD a []) (textV E u) = false from hh, show decide (((onStk s l).w.arrs.getD a []).length < 30) = false from decide_eq_false (by show ¬ (s.w.arrs.getD a []).length < 30; omega)]
   rfl
  rw [e] at this
  exact this
 generalize textV E u = tx at HP HK
 unfold vV at  HQ
 generalize (v.kind : Int) = kk at HQ
 generalize vN v = mm at HQ
 generalize vS v = tt at HQ
 clear h h1 k1 F1 l1 hb1 hx hk hf hn2 hs1 hh
 have hi' : (a : Int) < s.w.arrs.length := by omega
 go_enter Tryz.func119, Tryz.ntmps119
 go_wp2_with fail
 refine wp_region_lex hm (by kernel_rfl) ?_
 repeat still_step
 refine wpStill_nil ?_
 have F2 : Fr [] W1 W1.drew := (Fr.refl [] W1).drew
 obtain ⟨t2, h2, k2⟩ := MM.fr HM1.out.1 F2
 have HM2 : Hid _ := And.intro h2 (HM1.out.2.trans k2)
 have HK2 : Hid _ := k2
 clear h2 k2 F2
 go_wp2_with fail
 refine (HQ.out W1.drew t2 HM2.out.1).mono ?_
 rintro e W3 ⟨rfl, t3, h3, k3⟩
 have HM3 : Hid _ := And.intro h3 (HM2.out.2.trans k3)
 have HK3 : Hid _ := k3
 clear h3 k3 HQ
 obtain ⟨W4, hW4, F4, c0, c1, c2, l4⟩ := box_cells W3 kk mm tt
 obtain ⟨t4, h4, k4, hb4⟩ := MM.box HM3.out.1 F4
 have HX4 : Hid _ := BoxAt.mk l4 (hb4 _ (Nat.le_refl _)) c0 c1 c2
 have HM4 : Hid _ := And.intro h4 (HM3.out.2.trans k4)
 have HK4 : Hid _ := k4
 clear h4 k4 F4 hb4 l4
 go_wp2_with fail
 refine (HP.out W4 t4 HM4.out.1).mono ?_
 rintro e W5 ⟨rfl, t5, h5, k5⟩
 have HM5 : Hid _ := And.intro h5 (HM4.out.2.trans k5)
 have HK5 : Hid _ := k5
 clear h5 k5 HP
 have HK5' : Hid _ := fun (_ : Unit) => HK.out W5 t5 HM5.out.1
 have HX5 : Hid _ := HX4.out.kp HK5.out
 clear HX4 HK
 go_wp2_with fail
 refine (HK5'.out ()).mono ?_
 rintro e W6 ⟨rfl, F6⟩
 obtain ⟨t6, h6, k6⟩ := MM.fr HM5.out.1 F6
 have HM6 : Hid _ := And.intro h6 (HM5.out.2.trans k6)
 have HK6 : Hid _ := k6
 clear h6 k6 F6
 go_wp2_with fail
 go_ret
 exact ⟨rfl, t6, HM6.out.1, HM6.out.2⟩
end
end Go.Proofs.YtmolfmgchbjnbaaGreatDoor
