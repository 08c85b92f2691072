import Derived.Test.YtmolfmgchbjnbaaGreatDoorM40
import Derived.Test.YtmolfmgchbjnbaaGreatDoorM20
import Derived.Test.YtmolfmgchbjnbaaGreatDoorM16
set_option linter.unusedSimpArgs false
set_option linter.unusedVariables false
namespace Go.Proofs.YtmolfmgchbjnbaaGreatDoor
open Go.RowKit
open Wire Flow
theorem oper_makeB {o : Oper} {a : Act} {w w' : World} {K : Act → World → Prop} {Q : Exit → Act → World → Prop} (t : TypeId) (x y : Operand) (ho : o.op = .makeSlice t x y) (u v r : Value) (hx : a.eval x = u) (hy : a.eval y = v) (hrun : (Instr.makeSlice t u v).run Tryz.prog w = .ok r w')
  (h : K (a.put o.dst r) w') : o.wp Tryz.prog a w K Q := by
 unfold Oper.wp execOp
 simp only [ho, Sem.run_bind, Sem.run_pure, Result.andThen_ok, hx, hy, hrun]
 exact h
theorem alloc_has {W W1 : World} {o : Obj} (h : W.alloc o = W1) : W1.heap[W.heap.size]? = some o ∧ Fr [] W W1 ∧ W.heap.size < W1.heap.size := by
 subst h
 exact ⟨World.alloc_heap_new W o, (Fr.refl [] W).alloc _, by simp⟩
theorem own_low {W : World} {B B' : Nat} {e : TypeId} {k : Nat} {v : Value} {n : Nat} {xs : List Value} (h : W.ownsRow B e k v n xs) (hb : B' ≤ B) : W.ownsRow B' e k v n xs := by
 refine ⟨h.1, ?_⟩
 rcases h.2 with h' | ⟨g, cap, cur, hv, hg, r⟩
 ·exact .inl h'
 ·exact .inr ⟨g, cap, cur, hv, Nat.le_trans hb hg, r⟩
theorem build79 (o1 o2 o3 o4 : Option Addr) (l1 k1 l2 k2 l3 k3 l4 k4 : Nat) (w : World) : (Instr.build 135 #[(0, .slice o1 l1 k1), (4, .slice o2 l2 k2), (7, .slice o3 l3 k3), (8, .slice o4 l4 k4)]).run Tryz.prog w = .ok (.agg (nwC ⟨.slice o1 l1 k1, .slice none 0 0, .slice none 0 0, .slice none 0 0, .slice o2 l2 k2, .slice o3 l3 k3, .slice o4 l4 k4⟩).toArray) w := by
 kernel_rfl
theorem build87 (p : Int) (o : Option Addr) (n c : Nat) (w : World) : (Instr.build 143 #[(0, .int .i64 p), (1, .slice o n c)]).run Tryz.prog w = .ok (.agg #[.int .i64 p, .slice o n c]) w := by
 kernel_rfl
theorem buildS22 (s : ByteArray) (w : World) : (Instr.buildSlice 22 1 #[(0, .string s)]).run Tryz.prog w = .ok (.slice (some ⟨w.heap.size, 0, none⟩) 1 1) (w.alloc (.cells #[.string s] 9)) := by
 kernel_rfl
theorem buildS74 (p : Int) (o : Option Addr) (n c : Nat) (w : World) : (Instr.buildSlice 130 1 #[(0, .agg #[.int .i64 p, .slice o n c])]).run Tryz.prog w = .ok (.slice (some ⟨w.heap.size, 0, none⟩) 1 1) (w.alloc (.cells #[.int .i64 p, .slice o n c] 143)) := by
 kernel_rfl
section
variable {m : Mo} {t0 : Nat → Nat} {W : World} {recs : List ByteArray} {draws : List Int}
def M5 (b : Nat) (v0 v1 v2 v3 v4 : Value) (V : World) : Prop := V.cell? ⟨b, 0, none⟩ = some v0 ∧ V.cell? ⟨b, 1, none⟩ = some v1 ∧ V.cell? ⟨b, 2, none⟩ = some v2 ∧ V.cell? ⟨b, 3, none⟩ = some v3 ∧ V.cell? ⟨b, 4, none⟩ = some v4
set_option maxRecDepth 100000 in
set_option maxHeartbeats 4000000 in
theorem new_any {gn an : Nat} (hb : Base W) (ht0 : ∀ k, k < W.heap.size → t0 k < 10) {a0 a1 a4 : Option Addr} {n0 c0 c1 c4 : Nat} (eg : m.globs = (gn : Nat)) (ea : m.arrs = (an : Nat)) (hg1 : gn ≤ 1000) (ha1 : an ≤ 1000) (hp0 : m.pats.length = 0) (hf1 : m.fns.length ≤ 1000) (hf3 : 3 ≤ m.fns.length)
    (hFn : ∀ V k x, Fr [] W V → m.fns[k]? = some x → ∃ g off, a4 = some ⟨g, off, none⟩ ∧ V.cell? ⟨g, off + k * 3, none⟩ = some (.int .i64 (Mach.parOf m k : Nat)) ∧ V.cell? ⟨g, off + k * 3 + 1, none⟩ = some (.int .i64 x.locs) ∧ V.cell? ⟨g, off + k * 3 + 2, none⟩ = some (.string x.code))
    (hCo : ∀ V k, Fr [] W V → k < m.fns.length → Calls Tryz.prog 60 #[.agg #[.slice a0 n0 c0, .slice a1 m.pats.length c1, .int .i64 gn, .int .i64 an, .slice a4 m.fns.length c4], .int .i64 (k : Nat)] V fun e w' => ∃ g cap l, e = .returned (.tuple #[.slice (some ⟨g, 0, none⟩) (l : List Stp).length cap, .int .i64 0, .int .i64 0]) ∧ Fr [] V w' ∧ V.heap.size ≤ g ∧ ∀ tag : Nat → Nat, tag g = 9 → CodeM m w' tag k (.slice (some ⟨g, 0, none⟩) l.length cap) l)
    (htv : RoL W t0 (.slice a0 n0 c0) (m.texts.map .string)) {ro do_ : Option Addr} {rc dc nr nd : Nat} (hr : ArgL W (.slice ro nr rc) (recs.map .string)) (hd : ArgL W (.slice do_ nd dc) (draws.map (.int .i64))) (hs : Scr recs draws) :
    Calls Tryz.prog 33 #[.agg #[.slice a0 n0 c0, .slice a1 m.pats.length c1, .int .i64 gn, .int .i64 an, .slice a4 m.fns.length c4], .slice ro nr rc, .slice do_ nd dc] W fun e w => ∃ X g tag, e = .returned (ptr X) ∧ MM (envP m) X g (ms0 m recs draws) w tag ∧ g.en = 0 ∧ Kp t0 tag W w := by
  have hm : Tryz.prog.follows Departure.mixedOrders = true := by kernel_rfl
  obtain ⟨W1, hW1⟩ : ∃ W1, W.alloc (.cells #[.slice a0 n0 c0, .slice a1 m.pats.length c1, .int .i64 gn, .int .i64 an, .slice a4 m.fns.length c4] 70) = W1 := ⟨_, rfl⟩
  have F1 : Fr [] W W1 := by rw [← hW1]; exact (Fr.refl [] W).alloc _
  have k1 : W1.heap[W.heap.size]? = some (.cells #[.slice a0 n0 c0, .slice a1 m.pats.length c1, .int .i64 gn, .int .i64 an, .slice a4 m.fns.length c4] 70) := by rw [← hW1]; exact World.alloc_heap_new W _
  have l1 := (Array.getElem?_eq_some_iff.1 k1).1
  have HT : Hid (∀ k, k < W1.heap.size → newTag t0 W.heap.size 9 k < 10) := fun k hk => by
    rcases Nat.lt_or_ge k W.heap.size with c | c
    · rw [newTag_old c]; exact ht0 k c
    · rw [newTag_new c]; decide
  have K1 : Kp t0 (newTag t0 W.heap.size 9) W W1 := Kp.of_fr F1 fun k hk => newTag_old hk
  have HO : Hid (∀ V, Fr [] W1 V → M5 W.heap.size (.slice a0 n0 c0) (.slice a1 m.pats.length c1) (.int .i64 gn) (.int .i64 an) (.slice a4 m.fns.length c4) V) := fun V F => (cells5F ((F.block _ l1 (by simp)).trans k1)).1
  obtain ⟨hrl, hdl, hrs, hds⟩ := hs
  have HD : Hid (∀ V, Fr [] W1 V → Calls Tryz.prog 57 #[.slice do_ nd dc] V fun e w => ∃ v', e = .returned v' ∧ w.ownsRow V.heap.size 3 1 v' draws.length (draws.map (.int .i64)) ∧ Fr [] V w) := fun V F => cloneI_any V hdl (hd.fr (F1.trans F))
  have HR : Hid (∀ V k s, Fr [] W1 V → recs[k]? = some s → s.size ≤ 100 ∧ ∃ g off, ro = some ⟨g, off, none⟩ ∧ V.cell? ⟨g, off + k, none⟩ = some (.string s)) := fun V k s F hk => by
    refine ⟨by
      by_cases c : s.size ≤ 100
      · exact c
      · exact absurd ⟨s, List.mem_of_getElem? hk, show 100 < s.size by omega⟩ hrs, ?_⟩
    have hkl := (List.getElem?_eq_some_iff.1 hk).1
    obtain ⟨o, c, e1, e2, e3, e4⟩ := hr.fr (F1.trans F)
    obtain ⟨g, off, e5, e6, e7⟩ := e4 (by rw [List.length_map]; omega)
    cases e1
    exact ⟨g, off, e5, e7 k _ (by rw [List.getElem?_map, hk]; rfl)⟩
  have hnr : nr = recs.length := by
    obtain ⟨o, c, e1, -⟩ := hr
    cases e1
    simp
  subst hnr
  have egn : (envP m).mo.globs.toNat = gn := by show m.globs.toNat = gn; omega
  have ean : (envP m).mo.arrs.toNat = an := by show m.arrs.toNat = an; omega
  have HP0 : Hid (m.pats.length = 0) := hp0
  have HF : Hid (∀ V k x, Fr [] W1 V → m.fns[k]? = some x → ∃ g off, a4 = some ⟨g, off, none⟩ ∧ V.cell? ⟨g, off + k * 3, none⟩ = some (.int .i64 (Mach.parOf m k : Nat)) ∧ V.cell? ⟨g, off + k * 3 + 1, none⟩ = some (.int .i64 x.locs) ∧ V.cell? ⟨g, off + k * 3 + 2, none⟩ = some (.string x.code)) := fun V k x F hk => hFn V k x (F1.trans F) hk
  have HG : Hid (∀ V k, Fr [] W1 V → k < m.fns.length → Calls Tryz.prog 60 #[.agg #[.slice a0 n0 c0, .slice a1 m.pats.length c1, .int .i64 gn, .int .i64 an, .slice a4 m.fns.length c4], .int .i64 (k : Nat)] V fun e w' => ∃ g cap l, e = .returned (.tuple #[.slice (some ⟨g, 0, none⟩) (l : List Stp).length cap, .int .i64 0, .int .i64 0]) ∧ Fr [] V w' ∧ V.heap.size ≤ g ∧ ∀ tag : Nat → Nat, tag g = 9 → CodeM m w' tag k (.slice (some ⟨g, 0, none⟩) l.length cap) l) := fun V k F hk => hCo V k (F1.trans F) hk
  have HE : Hid (∀ V X av, NwP (envP m) W1 (newTag t0 W.heap.size 9) X recs draws (.slice a0 n0 c0) av recs.length m.pats.length m.fns.length an V → Calls Tryz.prog 62 #[ptr X, .int .i64 (0 : Nat)] V fun e w' => e = .returned unit ∧ ∃ g tag', MM (envP m) X g (ms0 m recs draws) w' tag' ∧ g.en = 0 ∧ Kp t0 tag' W w') := fun V X av h => by
    obtain ⟨x, pb, A, code, tag, e1, e2, h⟩ := h
    rw [← ean] at h
    refine (h.begin_ (hb.fr F1) HT.out (by rw [e1]; exact htv.kp K1) hf3 hf1 (by show m.pats.length ≤ 1000; omega) (by rw [ean]; exact ha1)).mono ?_
    rintro e w' ⟨he, g, tag', h1, h2, h3⟩
    exact ⟨he, g, tag', h1, h2, K1.trans h3⟩
  have h25 := HO.out W1 (Fr.refl [] W1)
  have HL1 : Hid _ := And.intro F1 l1
  clear hb ht0 hFn hCo htv hr hd hrs hds k1 K1 F1 l1 eg ea hdl hp0
  go_enter Tryz.func33, Tryz.ntmps33
  go_upto_region 1 with fail
  go_cut [7] from 21 to 32 (fun q wx => ∃ X av, q = ptr X ∧ Hid (NwP (envP m) W1 (newTag t0 W.heap.size 9) X recs draws (.slice a0 n0 c0) av 0 0 0 0 wx))
  case first =>
    refine wp_region_heldD (M5 W.heap.size (.slice a0 n0 c0) (.slice a1 m.pats.length c1) (.int .i64 gn) (.int .i64 an) (.slice a4 m.fns.length c4)) hm ?_
    have hS := HO.out W1.drew (Fr.refl [] W1).drew
    refine wpAnyH_takes (fun _ _ _ _ _ h => h) hS [0, 1, 2, 4, 5, 7, 8] (by kernel_rfl) ?_
    iterate 7
      refine Yls.cons (v := ?_) rfl (.inl ⟨rfl, fun w1 hS1 => ?_⟩) ?_
      rotate_left
      · obtain ⟨p0, p1, p2, p3, p4⟩ := hS1
        go_simp
        first | rfl | (refine (if_neg (by omega)).trans ?_; rfl)
      simp only [Act.put, List.setIfInBounds_toArray, List.set_cons_zero, List.set_cons_succ, List.getElem_toArray, List.getElem_cons_succ, List.getElem_cons_zero]
    refine Yls.nil ?_
    obtain ⟨WD, hWD⟩ : ∃ WD, W1.drew = WD := ⟨_, rfl⟩
    have FD : Fr [] W1 WD := by rw [← hWD]; exact (Fr.refl [] W1).drew
    rw [hWD]
    have hDs := FD.size
    have hbd := @build79
    clear hW1 hWD hS h25 HR HF HG HE
    iterate 3
      all_goals
        first
          | (refine wpAnyH_ready (rs := [3, 6, 9]) (by decide +kernel) (by simp) ?_
             refine AllReadyH.cons rfl (fun K hK => ?_) (AllReadyH.cons rfl (fun K hK => ?_) (AllReadyH.cons rfl (fun K hK => ?_) AllReadyH.nil)))
          | (first | refine wpAnyH_ready (rs := [6, 9]) (by decide +kernel) (by simp) ?_ | refine wpAnyH_ready (rs := [3, 9]) (by decide +kernel) (by simp) ?_ | refine wpAnyH_ready (rs := [3, 6]) (by decide +kernel) (by simp) ?_
             refine AllReadyH.cons rfl (fun K hK => ?_) (AllReadyH.cons rfl (fun K hK => ?_) AllReadyH.nil))
          | (first | refine wpAnyH_ready (rs := [9]) (by decide +kernel) (by simp) ?_ | refine wpAnyH_ready (rs := [6]) (by decide +kernel) (by simp) ?_ | refine wpAnyH_ready (rs := [3]) (by decide +kernel) (by simp) ?_
             refine AllReadyH.cons rfl (fun K hK => ?_) AllReadyH.nil)
      all_goals
        first
          | (refine oper_makeB 127 (.tmp 26) (.tmp 26) rfl _ _ _ rfl rfl (mkGlobs gn (by omega) _) ?_
             generalize hV : World.alloc _ _ = V
             obtain ⟨kk, G, s1⟩ := alloc_has hV
             (try replace ka := (G.block _ (by omega) (by simp)).trans ka)
             (try replace od := own_of_block od fun g hg => G.block g (od.lt g hg).2 (by simp))
             have kg := kk)
          | (refine oper_makeB 128 (.tmp 29) (.tmp 29) rfl _ _ _ rfl rfl (mkArrs an (by omega) _) ?_
             generalize hV : World.alloc _ _ = V
             obtain ⟨kk, G, s1⟩ := alloc_has hV
             (try replace kg := (G.block _ (by omega) (by simp)).trans kg)
             (try replace od := own_of_block od fun g hg => G.block g (od.lt g hg).2 (by simp))
             have ka := kk)
          | (go_simp
             refine Calls.mono (HD.out _ FD) ?_
             rintro e V ⟨v', rfl, ow, G⟩
             obtain ⟨vo, vc, rfl⟩ := own_form ow
             have nd := ow.lt
             have od := own_low ow FD.size
             have s1 := G.size
             have kk := True.intro
             have hV := True.intro
             (try replace kg := (G.block _ (by omega) (by simp)).trans kg)
             (try replace ka := (G.block _ (by omega) (by simp)).trans ka)
             clear ow)
        replace FD := FD.trans G
        refine hK _ _ (HO.out _ FD) ?_
        clear hK K hV kk G
        intro _
        try simp only [Act.put, List.setIfInBounds_toArray, List.set_cons_zero, List.set_cons_succ, List.getElem_toArray, List.getElem_cons_succ, List.getElem_cons_zero]
    all_goals
      refine wpAnyH_ready (rs := [10]) (by kernel_rfl) (by simp) ?_
      refine AllReadyH.cons rfl (fun K hK => ?_) AllReadyH.nil
      go_simp
      refine hK _ _ (HO.out _ FD) ?_
      clear hK K
      intro _
      try simp only [Act.put, List.setIfInBounds_toArray, List.set_cons_zero, List.set_cons_succ, List.getElem_toArray, List.getElem_cons_succ, List.getElem_cons_zero]
      refine wpAnyH_ready (rs := [11]) (by kernel_rfl) (by simp) ?_
      refine AllReadyH.cons rfl (fun K hK => ?_) AllReadyH.nil
      go_simp
      generalize hV : World.alloc _ _ = V
      obtain ⟨kX, G, s2⟩ := alloc_has hV
      replace ka := (G.block _ (by omega) (by simp)).trans ka
      replace kg := (G.block _ (by omega) (by simp)).trans kg
      replace od := own_of_block od fun g hg => G.block g (od.lt g hg).2 (by simp)
      replace FD := FD.trans G
      refine hK _ _ (HO.out _ FD) ?_
      clear hK K hV G
      intro _
      try simp only [Act.put, List.setIfInBounds_toArray, List.set_cons_zero, List.set_cons_succ, List.getElem_toArray, List.getElem_cons_succ, List.getElem_cons_zero]
      refine wpAnyH_ready (rs := [12]) (by kernel_rfl) (by simp) ?_
      refine AllReadyH.cons rfl (fun K hK => ?_) AllReadyH.nil
      go_simp
      refine hK _ _ (HO.out _ FD) ?_
      clear hK K
      intro _
      try simp only [Act.put, List.setIfInBounds_toArray, List.set_cons_zero, List.set_cons_succ, List.getElem_toArray, List.getElem_cons_succ, List.getElem_cons_zero]
      refine wpAnyH_done (by kernel_rfl) ?_ _
      have HFin : Hid _ := nw_start (E := envP m) (t0 := newTag t0 W.heap.size 9) (recs := recs) egn ean FD hg1 ha1 kX kg ka od (by omega) (by omega) (by omega) (by omega) (by omega) (by omega) (fun g hg => by have := nd g hg; omega)
      clear kX kg ka od nd s1 s2 hDs hbd FD
      go_wp2_with fail
      go_meet
      exact ⟨_, _, rfl, _, _, _, _, _, rfl, rfl, HFin.out⟩
  case rest =>
    obtain ⟨X, av, rfl, HN⟩ := hcut
    clear h25 hW1
    go_wp2_with fail
    go_loopw [35] (fun q wr => ∃ k : Nat, k ≤ recs.length ∧ q = .int .i64 k ∧ Hid (NwP (envP m) W1 (newTag t0 W.heap.size 9) X recs draws (.slice a0 n0 c0) av k 0 0 0 wr)) (fun q _ => recs.length - (intOf q).toNat)
    case atStart => exact ⟨0, by omega, rfl, HN⟩
    case round =>
      clear HN
      obtain ⟨k, hk, rfl, J⟩ := hrel
      by_cases hlt : k < recs.length
      · have g1 : (k : Int) < (recs.length : Int) := by omega
        have g2 : IntKind.i64.wrap ((k : Int) + 1) = ((k + 1 : Nat) : Int) := by rw [IntKind.wrap_i64]; omega
        obtain ⟨s, hs⟩ : ∃ s, recs[k]? = some s := ⟨_, List.getElem?_eq_getElem hlt⟩
        obtain ⟨hs1, g, off, rfl, e1⟩ := HR.out wr k s (J.out.old HT.out) hs
        obtain ⟨so, sc, e3, hXl, HA⟩ := J.out.rec_ hs (by omega)
        obtain ⟨WD, hWD⟩ : ∃ WD, wr.drew = WD := ⟨_, rfl⟩
        have FD : Fr [] wr WD := by rw [← hWD]; exact (Fr.refl [] wr).drew
        have HQ : Hid (∀ V, Fr [] WD V → V.cell? ⟨X, 3, none⟩ = some (.slice so k sc)) := fun V F => ((FD.trans F).cell (p := ⟨X, 3, none⟩) hXl (by simp)).trans e3
        have HA1 : Hid (∀ V, Fr [] WD V → AppQ X 3 22 9 k [.string s] so sc V (NwP (envP m) W1 (newTag t0 W.heap.size 9) X recs draws (.slice a0 n0 c0) av (k + 1) 0 0 0)) := fun V F => HA V (FD.trans F)
        have HC : Hid (∀ V, Calls Tryz.prog 58 #[.string s] V fun e w' => e = .returned (.string s) ∧ Fr [] V w') := fun V => clone_any s V (by omega)
        have hbs := buildS22 s
        clear HA FD J HR HF HG HE HD HO hs hs1 e3 hXl
        generalize recs.length = nr at *
        go_wp2_with fail
        refine wp_region_L (fun V => Fr [] WD V) 8 hm ?_
        rw [hWD]
        have hS : Fr [] WD WD := Fr.refl _ _
        refine wpAnyL_takesU (fuel := 8) [0, 1, 2, 3] (by kernel_rfl) (fun _ _ _ _ _ h => h) (.inr hS) ?_
        iterate 4
          refine Yls.cons (v := ?_) rfl (.inl ⟨rfl, fun w1 hS1 => ?_⟩) ?_
          rotate_left
          · skip
            go_simp
            first | rfl | (refine (if_neg (by omega)).trans ?_; rfl)
          simp only [Act.put, List.setIfInBounds_toArray, List.set_cons_zero, List.set_cons_succ, List.getElem_toArray, List.getElem_cons_succ, List.getElem_cons_zero]
        refine Yls.nil ?_
        refine wpAnyL_takes (fuel := 6) [4, 5] (by kernel_rfl) (fun _ _ _ _ _ h => h) hS ?_
        iterate 2
          refine Yls.cons (v := ?_) rfl (.inl ⟨rfl, fun w1 hS1 => ?_⟩) ?_
          rotate_left
          · have s0 := HQ.out _ hS1
            go_simp
            first | rfl | (refine (if_neg (by omega)).trans ?_; rfl)
          simp only [Act.put, List.setIfInBounds_toArray, List.set_cons_zero, List.set_cons_succ, List.getElem_toArray, List.getElem_cons_succ, List.getElem_cons_zero]
        refine Yls.nil ?_
        refine wpAnyL_ready (rs := [6]) (by kernel_rfl) (by simp) ?_
        refine AllReadyL.cons rfl (fun K hK => ?_) AllReadyL.nil
        go_simp
        refine Calls.mono (HC.out WD) ?_
        rintro e V ⟨rfl, FV⟩
        refine hK _ _ (.inr FV) ?_
        clear hK K
        try simp only [Act.put, List.setIfInBounds_toArray, List.set_cons_zero, List.set_cons_succ, List.getElem_toArray, List.getElem_cons_succ, List.getElem_cons_zero]
        refine wpAnyL_ready (rs := [7]) (by kernel_rfl) (by simp) ?_
        refine AllReadyL.cons rfl (fun K hK => ?_) AllReadyL.nil
        obtain ⟨vo, vc, W4, hr4, q1, q2, hN⟩ := HA1.out V FV
        have Hr4 : Hid _ := hr4
        have HN : Hid _ := hN
        have HFA : Hid (Fr [] WD (V.alloc (.cells #[.string s] 9))) := FV.alloc _
        clear hr4 hN HA1 HC FV
        go_simp
        refine hK _ _ (.inr HFA.out) ?_
        clear hK K
        try simp only [Act.put, List.setIfInBounds_toArray, List.set_cons_zero, List.set_cons_succ, List.getElem_toArray, List.getElem_cons_succ, List.getElem_cons_zero]
        refine wpAnyL_ready (rs := [8]) (by kernel_rfl) (by simp) ?_
        refine AllReadyL.cons rfl (fun K hK => ?_) AllReadyL.nil
        refine oper_appendB (.tmp 43) (.tmp 46) 22 rfl _ _ _ rfl rfl Hr4.out ?_
        refine hK _ _ (.inl rfl) ?_
        clear hK K
        try simp only [Act.put, List.setIfInBounds_toArray, List.set_cons_zero, List.set_cons_succ, List.getElem_toArray, List.getElem_cons_succ, List.getElem_cons_zero]
        refine wpAnyL_takesU (fuel := 1) [9, 10] (by kernel_rfl) (fun _ _ _ _ _ h => h) (.inl rfl) ?_
        iterate 2
          refine Yls.cons (v := ?_) rfl (.inl ⟨rfl, fun w1 hS1 => ?_⟩) ?_
          rotate_left
          · skip
            go_simp
            first | rfl | (refine (if_neg (by omega)).trans ?_; rfl)
          simp only [Act.put, List.setIfInBounds_toArray, List.set_cons_zero, List.set_cons_succ, List.getElem_toArray, List.getElem_cons_succ, List.getElem_cons_zero]
        refine Yls.nil ?_
        refine wpAnyL_ready (rs := [11]) (by kernel_rfl) (by simp) ?_
        refine AllReadyL.cons rfl (fun K hK => ?_) AllReadyL.nil
        go_simp
        refine hK _ _ (.inl rfl) ?_
        clear hK K
        try simp only [Act.put, List.setIfInBounds_toArray, List.set_cons_zero, List.set_cons_succ, List.getElem_toArray, List.getElem_cons_succ, List.getElem_cons_zero]
        refine wpAnyL_done (by kernel_rfl) ?_ _
        refine NoPanic.normal ?_
        go_wp2
        exact ⟨⟨k + 1, by omega, by go_num, HN⟩, by simp [intOf]; omega⟩
      · have e0 : k = recs.length := by omega
        have g1 : ¬ (k : Int) < (recs.length : Int) := by omega
        subst e0
        obtain ⟨p0, p1, p2, p3, p4⟩ := HO.out wr (J.out.old HT.out)
        have HN : Hid _ := J
        clear J HR HD
        go_wp2_with fail
        go_loopw [54] (fun q wr => ∃ k : Nat, k ≤ m.pats.length ∧ q = .int .i64 k ∧ Hid (NwP (envP m) W1 (newTag t0 W.heap.size 9) X recs draws (.slice a0 n0 c0) av recs.length k 0 0 wr)) (fun q _ => m.pats.length - (intOf q).toNat)
        case atStart => exact ⟨0, by omega, rfl, HN.out⟩
        case round =>
          clear HN p0 p1 p2 p3 p4
          obtain ⟨k, hk, rfl, J⟩ := hrel
          by_cases hlt : k < m.pats.length
          · have h0 := HP0.out
            exfalso
            omega
          · have e0 : k = m.pats.length := by omega
            have g1 : ¬ (k : Int) < (m.pats.length : Int) := by omega
            subst e0
            obtain ⟨p0, p1, p2, p3, p4⟩ := HO.out wr (J.out.old HT.out)
            have HN : Hid _ := J
            clear J
            go_wp2_with fail
            go_loopw [78] (fun q wr => ∃ k : Nat, k ≤ m.fns.length ∧ q = .int .i64 k ∧ Hid (NwP (envP m) W1 (newTag t0 W.heap.size 9) X recs draws (.slice a0 n0 c0) av recs.length m.pats.length k 0 wr)) (fun q _ => m.fns.length - (intOf q).toNat)
            case atStart => exact ⟨0, by omega, rfl, HN.out⟩
            case round =>
              clear HN p0 p1 p2 p3 p4
              obtain ⟨k, hk, rfl, J⟩ := hrel
              by_cases hlt : k < m.fns.length
              · have g1 : (k : Int) < (m.fns.length : Int) := by omega
                have g2 : IntKind.i64.wrap ((k : Int) + 1) = ((k + 1 : Nat) : Int) := by rw [IntKind.wrap_i64]; omega
                obtain ⟨x, hx⟩ : ∃ x, m.fns[k]? = some x := ⟨_, List.getElem?_eq_getElem hlt⟩
                obtain ⟨g, off, rfl, e0, e1, e2⟩ := HF.out wr k x (J.out.old HT.out) hx
                obtain ⟨so, sc, e3, hXl, HA⟩ := J.out.cod_ (by omega)
                obtain ⟨V1, hV1⟩ : ∃ V1, wr.alloc (.cells #[.int .i64 (Mach.parOf m k : Nat), .int .i64 x.locs, .string x.code] 112) = V1 := ⟨_, rfl⟩
                obtain ⟨kf, F1, s1⟩ := alloc_has hV1
                have HM : Hid _ := And.intro kf s1
                obtain ⟨p0, p1, p2, p3, p4⟩ := HO.out V1 ((J.out.old HT.out).trans F1)
                have HC : Hid _ := HG.out V1 k ((J.out.old HT.out).trans F1) hlt
                have HA1 : Hid _ := And.intro HA (And.intro e3 (And.intro hXl F1))
                clear HA J HF HG HE HO hx e3 hXl F1 kf s1
                generalize hnf : m.fns.length = nf at *
                go_wp2_with fail
                refine Calls.mono HC.out ?_
                rintro e V ⟨cg, cc, l, rfl, FV, hcg, hCM⟩
                obtain ⟨HA, e3, hXl, F1⟩ := HA1.out
                obtain ⟨kf, s1⟩ := HM.out
                have FV1 := F1.trans FV
                have e4 : V.cell? ⟨X, 2, none⟩ = some (.slice so k sc) := (FV1.cell (p := ⟨X, 2, none⟩) hXl (by simp)).trans e3
                have e5 : V.cell? ⟨wr.heap.size, 0, none⟩ = some (.int .i64 (Mach.parOf m k : Nat)) := (FV.cell (p := ⟨wr.heap.size, 0, none⟩) s1 (by simp)).trans (by unfold World.cell?; rw [kf]; rfl)
                have l5 : wr.heap.size < V.heap.size := Nat.lt_of_lt_of_le s1 FV.size
                have l6 : X < V.heap.size := Nat.lt_of_lt_of_le hXl FV1.size
                obtain ⟨WD, hWD⟩ : ∃ WD, V.drew = WD := ⟨_, rfl⟩
                have FD : Fr [] V WD := by rw [← hWD]; exact (Fr.refl [] V).drew
                have HQ : Hid (∀ U, Fr [] WD U → U.cell? ⟨X, 2, none⟩ = some (.slice so k sc) ∧ U.cell? ⟨wr.heap.size, 0, none⟩ = some (.int .i64 (Mach.parOf m k : Nat))) := fun U F => ⟨((FD.trans F).cell (p := ⟨X, 2, none⟩) l6 (by simp)).trans e4, ((FD.trans F).cell (p := ⟨wr.heap.size, 0, none⟩) l5 (by simp)).trans e5⟩
                have hCM2 : ∀ tag : Nat → Nat, tag cg = 9 → CodeM (envP m).mo WD tag k (.slice (some ⟨cg, 0, none⟩) l.length cc) l := fun tag ht => (hCM tag ht).kp (tag' := tag) (Kp.of_fr FD fun _ _ => rfl)
                obtain ⟨vo, vc, W4, hr4, q1, q2, hN⟩ := HA WD l cg cc (FV1.trans FD) (Nat.le_trans F1.size hcg) hCM2
                have Hr4 : Hid _ := hr4
                have HN : Hid _ := hN
                have HFA : Hid (Fr [] WD (WD.alloc (.cells #[.int .i64 (Mach.parOf m k : Nat), .slice (some ⟨cg, 0, none⟩) l.length cc] 143))) := (Fr.refl [] WD).alloc _
                have hbd := build87 (Mach.parOf m k : Nat) (some ⟨cg, 0, none⟩) l.length cc
                have hbs := buildS74 (Mach.parOf m k : Nat) (some ⟨cg, 0, none⟩) l.length cc
                clear hCM hCM2 HA e3 hXl F1 kf s1 FV FV1 FD e4 e5 l5 l6 hr4 hN HA1 HM HC p0 p1 p2 p3 p4 hcg e0 e1 e2 hV1 HT hlt
                go_wp2_with fail
                refine wp_region_L (fun V => Fr [] WD V) 10 hm ?_
                rw [hWD]
                have hS : Fr [] WD WD := Fr.refl _ _
                refine wpAnyL_takesU (fuel := 8) [0, 1, 2, 3, 5, 7] (by kernel_rfl) (fun _ _ _ _ _ h => h) (.inr hS) ?_
                iterate 6
                  refine Yls.cons (v := ?_) rfl (.inl ⟨rfl, fun w1 hS1 => ?_⟩) ?_
                  rotate_left
                  · skip
                    go_simp
                    first | rfl | (refine (if_neg (by omega)).trans ?_; rfl)
                  simp only [Act.put, List.setIfInBounds_toArray, List.set_cons_zero, List.set_cons_succ, List.getElem_toArray, List.getElem_cons_succ, List.getElem_cons_zero]
                refine Yls.nil ?_
                refine wpAnyL_takes (fuel := 5) [4, 6, 8] (by kernel_rfl) (fun _ _ _ _ _ h => h) hS ?_
                iterate 3
                  refine Yls.cons (v := ?_) rfl (.inl ⟨rfl, fun w1 hS1 => ?_⟩) ?_
                  rotate_left
                  · obtain ⟨s0, s1⟩ := HQ.out _ hS1
                    go_simp
                    first | rfl | (refine (if_neg (by omega)).trans ?_; rfl)
                  simp only [Act.put, List.setIfInBounds_toArray, List.set_cons_zero, List.set_cons_succ, List.getElem_toArray, List.getElem_cons_succ, List.getElem_cons_zero]
                refine Yls.nil ?_
                refine wpAnyL_ready (rs := [9]) (by kernel_rfl) (by simp) ?_
                refine AllReadyL.cons rfl (fun K hK => ?_) AllReadyL.nil
                go_simp
                refine hK _ _ (.inr HFA.out) ?_
                clear hK K
                try simp only [Act.put, List.setIfInBounds_toArray, List.set_cons_zero, List.set_cons_succ, List.getElem_toArray, List.getElem_cons_succ, List.getElem_cons_zero]
                refine wpAnyL_ready (rs := [10]) (by kernel_rfl) (by simp) ?_
                refine AllReadyL.cons rfl (fun K hK => ?_) AllReadyL.nil
                refine oper_appendB (.tmp 94) (.tmp 99) 130 rfl _ _ _ rfl rfl Hr4.out ?_
                refine hK _ _ (.inl rfl) ?_
                clear hK K
                try simp only [Act.put, List.setIfInBounds_toArray, List.set_cons_zero, List.set_cons_succ, List.getElem_toArray, List.getElem_cons_succ, List.getElem_cons_zero]
                refine wpAnyL_takesU (fuel := 1) [11, 12] (by kernel_rfl) (fun _ _ _ _ _ h => h) (.inl rfl) ?_
                iterate 2
                  refine Yls.cons (v := ?_) rfl (.inl ⟨rfl, fun w1 hS1 => ?_⟩) ?_
                  rotate_left
                  · skip
                    go_simp
                    first | rfl | (refine (if_neg (by omega)).trans ?_; rfl)
                  simp only [Act.put, List.setIfInBounds_toArray, List.set_cons_zero, List.set_cons_succ, List.getElem_toArray, List.getElem_cons_succ, List.getElem_cons_zero]
                refine Yls.nil ?_
                refine wpAnyL_ready (rs := [13]) (by kernel_rfl) (by simp) ?_
                refine AllReadyL.cons rfl (fun K hK => ?_) AllReadyL.nil
                go_simp
                refine hK _ _ (.inl rfl) ?_
                clear hK K
                try simp only [Act.put, List.setIfInBounds_toArray, List.set_cons_zero, List.set_cons_succ, List.getElem_toArray, List.getElem_cons_succ, List.getElem_cons_zero]
                refine wpAnyL_done (by kernel_rfl) ?_ _
                refine NoPanic.normal ?_
                go_wp2
                exact ⟨⟨k + 1, by omega, by go_num, HN⟩, by simp [intOf]; omega⟩
              · have e0 : k = m.fns.length := by omega
                have g1 : ¬ (k : Int) < (m.fns.length : Int) := by omega
                subst e0
                obtain ⟨ao, ac, hav, e9, hXl, -⟩ := J.out.av9
                rw [ean] at hav
                subst hav
                have HN : Hid _ := J
                clear J HF HG HO hXl
                go_wp2_with fail
                go_loopw [109] (fun q wr => ∃ k : Nat, k ≤ an ∧ q = .int .i64 k ∧ Hid (NwP (envP m) W1 (newTag t0 W.heap.size 9) X recs draws (.slice a0 n0 c0) (.slice ao an ac) recs.length m.pats.length m.fns.length k wr)) (fun q _ => an - (intOf q).toNat)
                case atStart => exact ⟨0, by omega, rfl, HN.out⟩
                case round =>
                  clear HN e9
                  obtain ⟨k, hk, rfl, J⟩ := hrel
                  by_cases hlt : k < an
                  · have g1 : (k : Int) < (an : Int) := by omega
                    have g2 : IntKind.i64.wrap ((k : Int) + 1) = ((k + 1 : Nat) : Int) := by rw [IntKind.wrap_i64]; omega
                    obtain ⟨ao', ac', hav, e9, hXl, hx⟩ := J.out.av9
                    rw [ean] at hav hx
                    cases hav
                    obtain ⟨ga, rfl, hXg, hgl, hcl⟩ := hx (by omega)
                    obtain ⟨⟨u0, hu0⟩, z0⟩ := hcl (k * 2) (by omega)
                    obtain ⟨⟨u1, hu1⟩, z1⟩ := hcl (k * 2 + 1) (by omega)
                    obtain ⟨WD, hWD⟩ : ∃ WD, wr.drew = WD := ⟨_, rfl⟩
                    have FD : Fr [] wr WD := by rw [← hWD]; exact (Fr.refl [] wr).drew
                    have HQ : Hid (∀ V, Fr [] WD V → V.cell? ⟨ga, k * 2, none⟩ = some u0 ∧ V.cell? ⟨ga, k * 2 + 1, none⟩ = some u1 ∧ V.frozen? ⟨ga, k * 2, none⟩ = false ∧ V.frozen? ⟨ga, k * 2 + 1, none⟩ = false) := fun V F => ⟨((FD.trans F).cell (p := ⟨ga, k * 2, none⟩) hgl (by simp)).trans hu0, ((FD.trans F).cell (p := ⟨ga, k * 2 + 1, none⟩) hgl (by simp)).trans hu1, ((FD.trans F).frozen (p := ⟨ga, k * 2, none⟩) hgl (by simp)).trans z0, ((FD.trans F).frozen (p := ⟨ga, k * 2 + 1, none⟩) hgl (by simp)).trans z1⟩
                    have HX : Hid (∀ V, Fr [] WD V → V.cell? ⟨X, 9, none⟩ = some (.slice (some ⟨ga, 0, none⟩) an ac)) := fun V F => ((FD.trans F).cell (p := ⟨X, 9, none⟩) hXl (by simp)).trans e9
                    have HC : Hid (∀ V b, Fr [] WD V → WD.heap.size ≤ b → MapAt V b [] → NwP (envP m) W1 (newTag t0 W.heap.size 9) X recs draws (.slice a0 n0 c0) (.slice (some ⟨ga, 0, none⟩) an ac) recs.length m.pats.length m.fns.length (k + 1) ((V.setCell ⟨ga, k * 2, none⟩ (.map (some b))).setCell ⟨ga, k * 2 + 1, none⟩ (.slice none 0 0))) := fun V b F hb hM => J.out.arr_ (FD.trans F) (Nat.le_trans FD.size hb) hM (by rw [ean]) (by rw [ean]; exact hlt)
                    have HXg : Hid _ := hXg
                    clear FD J HE HT hgl hcl hu0 hu1 z0 z1 hXl e9 hXg hx
                    go_wp2_with fail
                    refine wp_region_heldD (fun V => V.cell? ⟨X, 9, none⟩ = some (.slice (some ⟨ga, 0, none⟩) an ac)) hm ?_
                    rw [hWD]
                    have hS : WD.cell? ⟨X, 9, none⟩ = some (.slice (some ⟨ga, 0, none⟩) an ac) := HX.out WD (Fr.refl _ _)
                    refine wpAnyH_takes (fun _ _ _ _ _ h => h) hS [0, 1, 2, 3, 4] (by kernel_rfl) ?_
                    iterate 5
                      refine Yls.cons (v := ?_) rfl (.inl ⟨rfl, fun w1 hS1 => ?_⟩) ?_
                      rotate_left
                      · skip
                        go_simp
                        first | rfl | (refine (if_neg (by omega)).trans ?_; rfl)
                      simp only [Act.put, List.setIfInBounds_toArray, List.set_cons_zero, List.set_cons_succ, List.getElem_toArray, List.getElem_cons_succ, List.getElem_cons_zero]
                    refine Yls.nil ?_
                    refine wpAnyH_ready (rs := [5]) (by kernel_rfl) (by simp) ?_
                    refine AllReadyH.cons rfl (fun K hK => ?_) AllReadyH.nil
                    go_simp
                    refine Calls.mono (newArray_any WD) ?_
                    rintro e V ⟨b, rfl, hb, hM, FV⟩
                    obtain ⟨y0, y1, y2, y3⟩ := HQ.out V FV
                    have hN := HC.out V b FV hb hM
                    have HN : Hid _ := hN
                    refine hK _ _ (HX.out V FV) ?_
                    have hS5 : ((V.setCell ⟨ga, k * 2, none⟩ (.map (some b))).setCell ⟨ga, k * 2 + 1, none⟩ (.slice none 0 0)).cell? ⟨X, 9, none⟩ = some (.slice (some ⟨ga, 0, none⟩) an ac) := by
                      rw [setCell_far (Ne.symm HXg.out), setCell_far (Ne.symm HXg.out)]
                      exact HX.out V FV
                    have hS2 := HX.out V FV
                    clear hK K HC HQ hb hM FV hN
                    intro _
                    try simp only [Act.put, List.setIfInBounds_toArray, List.set_cons_zero, List.set_cons_succ, List.getElem_toArray, List.getElem_cons_succ, List.getElem_cons_zero]
                    refine wpAnyH_takes (fun _ _ _ _ _ h => h) hS2 [6] (by kernel_rfl) ?_
                    iterate 1
                      refine Yls.cons (v := ?_) rfl (.inl ⟨rfl, fun w1 hS1 => ?_⟩) ?_
                      rotate_left
                      · skip
                        go_simp
                        first | rfl | (refine (if_neg (by omega)).trans ?_; rfl)
                      simp only [Act.put, List.setIfInBounds_toArray, List.set_cons_zero, List.set_cons_succ, List.getElem_toArray, List.getElem_cons_succ, List.getElem_cons_zero]
                    refine Yls.nil ?_
                    refine wpAnyH_ready (rs := [7]) (by kernel_rfl) (by simp) ?_
                    refine AllReadyH.cons rfl (fun K hK => ?_) AllReadyH.nil
                    go_simp
                    refine hK _ _ hS5 ?_
                    clear hK K
                    intro _
                    try simp only [Act.put, List.setIfInBounds_toArray, List.set_cons_zero, List.set_cons_succ, List.getElem_toArray, List.getElem_cons_succ, List.getElem_cons_zero]
                    refine wpAnyH_done (by kernel_rfl) ?_ _
                    go_wp2_with fail
                    exact ⟨⟨k + 1, by omega, by go_num, HN⟩, by simp [intOf]; omega⟩
                  · have e0 : k = an := by omega
                    have g1 : ¬ (k : Int) < (an : Int) := by omega
                    subst e0
                    have HC : Hid _ := HE.out wr X _ J.out
                    clear J HE HT
                    go_wp2_with fail
                    refine Calls.mono HC.out ?_
                    rintro e V ⟨rfl, g, tag, h1, h2, h3⟩
                    have HZ : Hid _ := And.intro h1 (And.intro h2 h3)
                    clear h1 h2 h3 HC
                    go_wp2_with fail
                    go_ret
                    exact ⟨X, g, tag, rfl, HZ.out.1, HZ.out.2.1, HZ.out.2.2⟩
end
end Go.Proofs.YtmolfmgchbjnbaaGreatDoor
namespace Go.Proofs.YtmolfmgchbjnbaaGreatDoor
open Go.RowKit
open Wire Flow
theorem Ev.Kept.fr {w w' : World} (h : Ev.Kept w w') : Fr [] w w' := ⟨h.os, h.tape, h.output, h.size, fun k hk _ => h.blk k hk⟩
theorem Fr.kept {w w' : World} (h : Fr [] w w') : Ev.Kept w w' := ⟨h.os, h.tape, h.output, h.size, fun k hk => h.block k hk (by simp)⟩
theorem flat_get {α β : Type} {f : α → List β} {z : Nat} (hf : ∀ x, (f x).length = z) : ∀ {l : List α} {i : Nat} {x : α} {j : Nat}, l[i]? = some x → j < z → (l.flatMap f)[i * z + j]? = (f x)[j]?
  | [], i, x, j, h, _ => by simp at h
  | a :: l, 0, x, j, h, hj => by
    simp only [List.getElem?_cons_zero, Option.some.injEq] at h
    subst h
    rw [List.flatMap_cons, List.getElem?_append_left (by rw [hf]; omega), Nat.zero_mul, Nat.zero_add]
  | a :: l, i + 1, x, j, h, hj => by
    rw [List.getElem?_cons_succ] at h
    rw [List.flatMap_cons, List.getElem?_append_right (by rw [hf, Nat.succ_mul]; omega), hf, show (i + 1) * z + j - z = i * z + j by rw [Nat.succ_mul]; omega]
    exact flat_get hf h hj
def fnC (x : Wire.Fn) : List Value := [.int .i64 x.params, .int .i64 x.locs, .string x.code]
def fnsV (m : Mo) : List Value := m.fns.flatMap fnC
def insC (p : Stp × Nat) : List Value := [.int .u8 (p.1.op : Nat), .int .i64 (p.1.pl : Nat), .int .i64 (min p.1.a 2000000000 : Nat), .int .i64 (min p.1.b 2000000000 : Nat), .int .i64 (p.2 : Nat)]
def insL (l : List Stp) : List Value := (l.zip (tosL l)).flatMap insC
theorem tosL_length (l : List Stp) : (tosL l).length = l.length := by simp [tosL]
theorem code_of {m : Mo} {k : Nat} (hf : FnFacts m k) {w : World} {gb cap : Nat} (hcap : (codeL m k).length ≤ cap) (hgb : gb < w.heap.size) (hc : ∀ i u, (insL (codeL m k))[i]? = some u → w.cell? ⟨gb, i, none⟩ = some u) {tag : Nat → Nat} (ht : tag gb = 9) : CodeM m w tag k (.slice (some ⟨gb, 0, none⟩) (codeL m k).length cap) (codeL m k) where
 at_ := by
  refine ⟨gb, cap, tosL (codeL m k), rfl, hcap, hgb, ht, ⟨tosL_length _, fun i s t hs ht => ?_⟩, fun i s _ hs hfar => tos_ok hf.jump hs hfar⟩
  have hz : ((codeL m k).zip (tosL (codeL m k)))[i]? = some (s, t) := by
   rw [List.getElem?_zip_eq_some]
   exact ⟨hs, ht⟩
  have key : ∀ j, j < 5 → (insL (codeL m k))[i * 5 + j]? = (insC (s, t))[j]? := fun j hj => flat_get (f := insC) (z := 5) (fun _ => rfl) hz hj
  exact ⟨hc _ _ ((key 0 (by omega)).trans rfl), hc _ _ ((key 1 (by omega)).trans rfl), hc _ _ ((key 2 (by omega)).trans rfl), hc _ _ ((key 3 (by omega)).trans rfl), hc _ _ ((key 4 (by omega)).trans rfl)⟩
 reads := hf.reads
 jump := hf.jump
 len := hf.len
def ReadsB (m : Mo) (g a k : Nat) : Prop := Ev.codeR (codeL m k).length (insL (codeL m k)) (Ev.evF Tryz.prog 0 2000 Ev.noX 100 60 [.agg #[.slice none 0 0, .slice none 0 0, .int .i64 (g : Nat), .int .i64 (a : Nat), .slice (some ⟨0, 0, none⟩) m.fns.length m.fns.length], .int .i64 (k : Nat)] (Ev.hf0 (fnsV m))) = true
structure Closed (m : Mo) (gn an : Nat) : Prop where
 tx : m.texts = []
 pt : m.pats = []
 gl : m.globs = (gn : Nat)
 ar : m.arrs = (an : Nat)
 g1 : gn ≤ 1000
 a1 : an ≤ 1000
 three : 3 ≤ m.fns.length
 many : m.fns.length ≤ 1000
 facts : ∀ f, f < m.fns.length → FnFacts m f
 par : ∀ x ∈ m.fns, 0 ≤ x.params
 rd : ∀ k, k < m.fns.length → ReadsB m gn an k
theorem fnsV_plain (m : Mo) : (fnsV m).all Ev.plainV = true := by
 unfold fnsV
 rw [List.all_eq_true]
 intro v hv
 obtain ⟨x, -, hx⟩ := List.mem_flatMap.1 hv
 simp only [fnC, List.mem_cons, List.not_mem_nil, or_false] at hx
 rcases hx with rfl | rfl | rfl <;> rfl
theorem Closed.ok {m : Mo} {gn an : Nat} (h : Closed m gn an) : Mach.ModOk m := Flow.modOk_of h.three h.facts
theorem Closed.reads {m : Mo} {gn an : Nat} (h : Closed m gn an) (hmix : Tryz.prog.follows .mixedOrders = true) {w : World} {b o c : Nat} (hb : b < w.heap.size) (hF : ∀ i u, (fnsV m)[i]? = some u → w.cell? ⟨b, i + o, none⟩ = some u) (hc : m.fns.length ≤ c) {k : Nat} (hk : k < m.fns.length) :
  Calls Tryz.prog 60 #[.agg #[.slice none 0 0, .slice none m.pats.length 0, .int .i64 (gn : Nat), .int .i64 (an : Nat), .slice (some ⟨b, o, none⟩) m.fns.length c], .int .i64 (k : Nat)] w fun e w' => ∃ g cap l, e = .returned (.tuple #[.slice (some ⟨g, 0, none⟩) (l : List Stp).length cap, .int .i64 0, .int .i64 0]) ∧ Fr [] w w' ∧ w.heap.size ≤ g ∧ ∀ tag : Nat → Nat, tag g = 9 → CodeM m w' tag k (.slice (some ⟨g, 0, none⟩) l.length cap) l := by
 rw [h.pt]
 refine (Ev.closedCode hmix (fnsV_plain m) hb hF (by have := h.three; omega) hc (h.rd k hk)).mono ?_
 rintro e w' ⟨gb, cap, rfl, hcap, K, h1, h2, h3⟩
 exact ⟨gb, cap, codeL m k, rfl, K.fr, h1, fun tag ht => code_of (h.facts k hk) hcap h2 h3 ht⟩
theorem Closed.fns {m : Mo} {gn an : Nat} (h : Closed m gn an) {w : World} {b o : Nat} (hF : ∀ i u, (fnsV m)[i]? = some u → w.cell? ⟨b, i + o, none⟩ = some u) {k : Nat} {x : Wire.Fn} (hk : m.fns[k]? = some x) : w.cell? ⟨b, o + k * 3, none⟩ = some (.int .i64 (Mach.parOf m k : Nat)) ∧ w.cell? ⟨b, o + k * 3 + 1, none⟩ = some (.int .i64 x.locs) ∧ w.cell? ⟨b, o + k * 3 + 2, none⟩ = some (.string x.code) := by
 have hp : x.params = (Mach.parOf m k : Nat) := by
  have := h.par x (List.mem_of_getElem? hk)
  have e : Mach.parOf m k = x.params.toNat := by
   unfold Mach.parOf Mach.fnOf
   rw [List.getD_eq_getElem?_getD, hk]
   rfl
  rw [e]
  omega
 have key : ∀ j, j < 3 → (fnsV m)[k * 3 + j]? = (fnC x)[j]? := fun j hj => flat_get (f := fnC) (z := 3) (fun _ => rfl) hk hj
 refine ⟨?_, ?_, ?_⟩
 ·rw [← hp, show o + k * 3 = k * 3 + 0 + o by omega]
  exact hF _ _ ((key 0 (by omega)).trans rfl)
 ·rw [show o + k * 3 + 1 = k * 3 + 1 + o by omega]
  exact hF _ _ ((key 1 (by omega)).trans rfl)
 ·rw [show o + k * 3 + 2 = k * 3 + 2 + o by omega]
  exact hF _ _ ((key 2 (by omega)).trans rfl)
end Go.Proofs.YtmolfmgchbjnbaaGreatDoor
