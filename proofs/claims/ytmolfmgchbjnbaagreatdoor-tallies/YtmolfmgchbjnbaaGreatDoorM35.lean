import Derived.Laws.Rows
import Derived.Laws.Tables
import Derived.Test.YtmolfmgchbjnbaaGreatDoorM34
set_option linter.unusedSimpArgs false
set_option linter.unusedVariables false
namespace Go.Proofs.YtmolfmgchbjnbaaGreatDoor
open Go.RowKit
open Wire Flow Mach
theorem infoFr : (Tryz.prog.info? 225).map (fun i => (i.zero, i.size, i.bytes)) = some (some (.agg (frZ (.slice none 0 0)).toArray), 51, 568) := by kernel_rfl
section
variable {E : Env} {X : Nat} {g : Pl} {s : Ms} {W W' : World} {tag : Nat → Nat}
def onCall (s : Ms) (f : Frm) : Ms := { s with low := s.low ++ [s.fr], fr := f }
theorem fAt_call (s : Ms) (f : Frm) {k : Nat} (hk : k ≤ s.low.length) : fAt (onCall s f) k = fAt s k := by
  unfold fAt onCall
  simp only [List.length_append, List.length_cons, List.length_nil]
  rw [if_pos (show k < s.low.length + (0 + 1) by omega)]
  rcases Nat.lt_or_ge k s.low.length with c | c
  · rw [if_pos c, List.getD_eq_getElem?_getD, List.getD_eq_getElem?_getD, List.getElem?_append_left c]
  · have : k = s.low.length := by omega
    subst this
    rw [if_neg (Nat.lt_irrefl _), List.getD_eq_getElem?_getD, List.getElem?_append_right (Nat.le_refl _), Nat.sub_self]
    rfl
theorem fAt_call_top (s : Ms) (f : Frm) : fAt (onCall s f) (s.low.length + 1) = f := by
 have := fAt_top (onCall s f)
 rwa [show (onCall s f).low.length = s.low.length + 1 by simp [onCall]] at this
abbrev FrX.new (cv : Value) : FrX := ⟨cv, 0, .slice none 0 0, fun _ => 0⟩
theorem frC_one (x : FrX) (hx : ∃ o n c, x.cv = .slice o n c) (hs : ∃ o n c, x.sv = .slice o n c) (f : Frm) : ∀ u ∈ frC x f, u.oneCell' = true := by
 intro u hu
 obtain ⟨o, n, c, hx⟩ := hx
 obtain ⟨o', n', c', hs⟩ := hs
 unfold frC at hu
 rcases List.mem_append.1 hu with hu | hu
 ·rcases List.mem_append.1 hu with hu | hu
  ·simp only [List.mem_cons, List.not_mem_nil, or_false] at hu
   rcases hu with rfl | rfl
   ·rw [hx]; rfl
   ·rfl
  ·unfold locC rng at hu
   obtain ⟨i, -, hu⟩ := List.mem_flatMap.1 hu
   unfold vC at hu
   simp only [List.mem_cons, List.not_mem_nil, or_false] at hu
   rcases hu with rfl | rfl | rfl <;> rfl
 ·simp only [List.mem_cons, List.not_mem_nil, or_false] at hu
  rw [hu, hs]
  rfl
theorem MM.pushF (h : MM E X g s W tag) (hd : s.low.length < 20) {f : Nat} (hf : f < E.mo.fns.length) {fr : Frm} (hff : fr.f = f ∧ fr.at_ = 0 ∧ fr.stk = []) {fz : List Value} (hfz : fz = frC (FrX.new (g.code f).1) fr) :
    ∃ cap, W.cell? ⟨X, 11, none⟩ = some (.slice (some ⟨g.g, 0, none⟩) (s.low.length + 1) cap) ∧ ∃ vb vc W2 t', (Builtin.append_ #[133, 133] 133 #[.slice (some ⟨g.g, 0, none⟩) (s.low.length + 1) cap, .slice (some ⟨W.heap.size, 0, none⟩) 1 1]).run Tryz.prog (W.alloc (.cells fz.toArray 225)) = .ok (.slice (some ⟨vb, 0, none⟩) (s.low.length + 2 : Nat) vc) W2 ∧ (∃ u, W2.cell? ⟨X, 11, none⟩ = some u) ∧ W2.frozen? ⟨X, 11, none⟩ = false ∧
      MM E X { g with g := vb } (onCall s fr) (W2.setCell ⟨X, 11, none⟩ (.slice (some ⟨vb, 0, none⟩) (s.low.length + 2 : Nat) vc)) t' ∧ Kp tag t' W (W2.setCell ⟨X, 11, none⟩ (.slice (some ⟨vb, 0, none⟩) (s.low.length + 2 : Nat) vc)) := by
  obtain ⟨h6, lv, R, mp, x, hx, h⟩ := h
  replace h := h.norm
  generalize hmp : (fun q => if q < 5000 then mp q else none) = mp' at h
  have hnone : mp' (5000 + (s.low.length + 1)) = none := by
    rw [← hmp]
    show (if _ < 5000 then _ else _) = _
    rw [if_neg (by omega)]
  have hcode : x.code = g.code := hx.1.2.2.2
  obtain ⟨cap, hc⟩ := h.vF
  have hnA := h.nA
  have C := h.sta.code f hf
  obtain ⟨gc, cc, T, v1, v2, v3, v4, v5, v6⟩ := C.at_
  have o10 := (h.S.rows 10 h.lX).1
  rw [h.rX] at o10
  refine ⟨cap, own_cell o10 (by show some x.frv = _; rw [hc]), ?_⟩
  obtain ⟨i0, hi, hz0, hz1, hz2⟩ := info_parts infoFr
  have hfl : fz.length = 51 := by rw [hfz]; exact frC_len _ _
  have F1 : Fr [] W (W.alloc (.cells fz.toArray 225)) := (Fr.refl [] W).alloc _
  have hnews := cells_new W fz.toArray 225
  have S1 := h.S.frm F1 6
  have K1 : Kp tag (newTag tag W.heap.size 6) W (W.alloc (.cells fz.toArray 225)) := Kp.new F1 6
  generalize W.alloc (.cells fz.toArray 225) = W1 at hnews S1 K1 F1 ⊢
  have o11 : W1.ownsRow 0 225 51 (.slice (some ⟨g.g, 0, none⟩) (s.low.length + 1) cap) (s.low.length + 1) (rng (s.low.length + 1) fun k => frC (x.F k) (fAt s k)) := by have := (S1.rows 11 h.lF).1; rw [h.rF, hc] at this; exact this
  obtain ⟨v', W2, hr2, hown', hgrow, -, hwh⟩ := run_append_own_at (P := Tryz.prog) (w := W1) 0 133 133 225 i0 _ 51 568 Tryz.underlying133 hi hz0 hz1 hz2 (by show (frZ (.slice none 0 0)).toArray.size = 51; simp [frZ_len]) (by decide) _ _ _ o11 ⟨W.heap.size, 0, none⟩ 1 1 fz (by omega) (fun j u hj => hnews j u hj) (by rw [hfz]; exact frC_one _ ⟨_, _, _, by rw [← hcode, v1]⟩ ⟨_, _, _, rfl⟩ _) (by unfold maxLen; omega) (by omega) (Nat.zero_le _)
  obtain ⟨vb, vc, rfl, hvc, hvb⟩ := own_some hown' (by omega)
  obtain ⟨S2, K2⟩ := S1.grow (i := 11) h.lF hown' (by rw [h.rF, hc]; exact hgrow) (by rw [h.rF, hc]; exact hwh)
  have S3 := S2.turn (i := 5000 + (s.low.length + 1)) (tag' := newTag (newTag tag W.heap.size 6) W1.heap.size 11) hnone (by omega) (Chg.refl _ [5000 + (s.low.length + 1)] _) (fun _ _ => rfl) (r := ⟨.slice none 0 0, 306, 4, 0, []⟩) ⟨rfl, .inl ⟨rfl, rfl⟩⟩ (Tg.nil _ _)
  have l10 : up lv (5000 + (s.low.length + 1)) true 10 = true := by rw [up_off _ _ (by omega)]; exact h.lX
  have r10 : up (up R 11 ⟨.slice (some ⟨vb, 0, none⟩) (s.low.length + 1 + 1) vc, 225, 51, s.low.length + 1 + 1, (rng (s.low.length + 1) fun k => frC (x.F k) (fAt s k)) ++ fz⟩) (5000 + (s.low.length + 1)) ⟨.slice none 0 0, 306, 4, 0, []⟩ 10 = ⟨.slice (some ⟨X, 0, none⟩) 1 1, 135, 16, 1, xC x s⟩ := by rw [up_off _ _ (by omega), up_off _ _ (by decide)]; exact h.rX
  have o102 := (S3.rows 10 l10).1
  rw [r10] at o102
  simp only at o102
  obtain ⟨S4, K4⟩ := S3.put (i := 10) l10 r10 (j := 11) (by omega) (.slice (some ⟨vb, 0, none⟩) (s.low.length + 2 : Nat) vc)
  have K := (K1.trans K2).trans K4
  refine ⟨vb, vc, W2, newTag (newTag tag W.heap.size 6) W1.heap.size 11, hr2, ⟨x.frv, own_cell o102 rfl⟩, own_thaw o102 _, ?_, K⟩
  obtain ⟨R', hS', hR10, hR11, hR5, hR⟩ : ∃ R', Sto (W2.setCell ⟨X, 11, none⟩ (.slice (some ⟨vb, 0, none⟩) (s.low.length + 2 : Nat) vc)) (newTag (newTag tag W.heap.size 6) W1.heap.size 11) (up lv (5000 + (s.low.length + 1)) true) R' mp' ∧ R' 10 = ⟨.slice (some ⟨X, 0, none⟩) 1 1, 135, 16, 1, (xC x s).set 11 (.slice (some ⟨vb, 0, none⟩) (s.low.length + 2 : Nat) vc)⟩ ∧ R' 11 = ⟨.slice (some ⟨vb, 0, none⟩) (s.low.length + 1 + 1) vc, 225, 51, s.low.length + 1 + 1, (rng (s.low.length + 1) fun k => frC (x.F k) (fAt s k)) ++ fz⟩ ∧ R' (5000 + (s.low.length + 1)) = ⟨.slice none 0 0, 306, 4, 0, []⟩ ∧ ∀ i, i ≠ 10 → i ≠ 11 → i ≠ 5000 + (s.low.length + 1) → R' i = R i :=
    ⟨_, S4, up_same _ _ _, by rw [up_off _ _ (by decide), up_off _ _ (by omega), up_same], by rw [up_off _ _ (by omega), up_same], fun i h1 h2 h3 => by rw [up_off _ _ h1, up_off _ _ h3, up_off _ _ h2]⟩
  have hlv : ∀ i, lv i = true → up lv (5000 + (s.low.length + 1)) true i = true := fun i hi => by
    by_cases e : i = 5000 + (s.low.length + 1)
    · rw [e, up_same]
    · rw [up_off _ _ e]; exact hi
  have hlow : (onCall s fr).low.length = s.low.length + 1 := by simp [onCall]
  refine ⟨Nat.le_trans h6 K.size, up lv (5000 + (s.low.length + 1)) true, R', mp', { x with frv := .slice (some ⟨vb, 0, none⟩) (s.low.length + 2 : Nat) vc, F := up x.F (s.low.length + 1) (FrX.new (g.code f).1) }, hx, ?_⟩
  refine ⟨hS', h.sta.kp K h6, hlv _ h.lX, ?_, hlv _ h.lF, ?_, ⟨vc, by rw [hlow]⟩, by rw [hlow]; omega, hlv _ h.lG, ?_, hlv _ h.lA, ?_, h.nA, fun i hi => ?_, fun i hi => ?_, fun i j c hi hj hcl => ?_, fun i hi => ?_, h.rcs.kp K, h.drw.kp K, h.fld.kp K⟩
  · rw [hR10]
    rfl
  · rw [hR11, hlow]
    have e : (rng (s.low.length + 1) fun k => frC (x.F k) (fAt s k)) ++ fz = rng (s.low.length + 1 + 1) fun k => frC (up x.F (s.low.length + 1) (FrX.new (g.code f).1) k) (fAt (onCall s fr) k) := by
      rw [rng_succ (s.low.length + 1), up_same, fAt_call_top, hfz]
      exact congrArg (· ++ _) (rng_congr fun j hj => by rw [up_off _ _ (by omega), fAt_call s fr (by omega)])
    rw [e]
  · rw [hR 12 (by decide) (by decide) (by omega)]; exact h.rG
  · rw [hR 13 (by decide) (by decide) (by omega)]; exact h.rA
  · have hi' : i < s.w.arrs.length := hi
    obtain ⟨a, b, c⟩ := h.arr i hi
    exact ⟨a, hlv _ b, by rw [hR _ (by omega) (by omega) (by omega)]; exact c⟩
  · rw [hlow] at hi
    show _ ∧ R' (5000 + i) = Rw.mk (up x.F (s.low.length + 1) (FrX.new (g.code f).1) i).sv 306 4 (fAt (onCall s fr) i).stk.length (stkC (up x.F (s.low.length + 1) (FrX.new (g.code f).1) i).pw (fAt (onCall s fr) i).stk)
    rcases Nat.lt_or_ge s.low.length i with c | c
    · have : i = s.low.length + 1 := by omega
      subst this
      refine ⟨up_same _ _ _, ?_⟩
      rw [fAt_call_top, up_same, hff.2.2]
      exact hR5
    · obtain ⟨a, b⟩ := h.stk i c
      refine ⟨hlv _ a, ?_⟩
      rw [fAt_call s fr c, up_off _ _ (by omega), hR _ (by omega) (by omega) (by omega)]
      exact b
  · rw [hlow] at hi
    rcases Nat.lt_or_ge s.low.length i with c' | c'
    · have : i = s.low.length + 1 := by omega
      subst this
      rw [fAt_call_top, hff.2.2] at hj
      simp at hj
    · rw [fAt_call s fr c'] at hj
      obtain ⟨q1, q2, q3, ga, ca, lf, q4, q5, q6⟩ := h.wlk i j c c' hj hcl
      refine ⟨q1, q2, hlv _ q3, ga, ca, lf, q4, ?_, q6.kp K⟩
      rw [hR _ (by omega) (by omega) (by omega)]
      show _ = Rw.mk (.slice (some ⟨(up x.F (s.low.length + 1) (FrX.new (g.code f).1) i).pw j, 0, none⟩) 1 1) 315 2 1 _
      rw [up_off _ _ (by omega)]
      exact q5
  · rw [hlow] at hi
    show _ ∧ (up x.F (s.low.length + 1) (FrX.new (g.code f).1) i).cv = (x.code (fAt (onCall s fr) i).f).1 ∧ PlcAt E.mo (fAt (onCall s fr) i).f (x.code (fAt (onCall s fr) i).f).2 (up x.F (s.low.length + 1) (FrX.new (g.code f).1) i).ix (fAt (onCall s fr) i).at_
    rcases Nat.lt_or_ge s.low.length i with c | c
    · have : i = s.low.length + 1 := by omega
      subst this
      rw [fAt_call_top, up_same, hff.1, hff.2.1]
      exact ⟨hf, by rw [hcode], plc_zero C.reads⟩
    · rw [fAt_call s fr c, up_off _ _ (by omega)]
      exact h.fn i c
end
end Go.Proofs.YtmolfmgchbjnbaaGreatDoor
namespace Go.Proofs.YtmolfmgchbjnbaaGreatDoor
open Go.RowKit
open Wire Flow Mach
theorem wpList_storeA {ops : Array Oper} {rest : List Oper} {o : Oper} {a : Act} {w w' : World} {Q : Exit → Act → World → Prop} (hgd : o.guard = none) (t : TypeId) (p x : Operand) (ho : o.op = .store t p x) (hd : o.dst = none) (ad : Addr) (hp : a.eval p = .pointer (some ad)) (v : Value) (hx : a.eval x = v)
  (hrun : (storeVar t ad v).run Tryz.prog w = .ok () w') (h : wpList Tryz.prog ops Q rest a w') : wpList Tryz.prog ops Q (o :: rest) a w := by
 refine wpList_plain hgd fun K hK => ?_
 unfold Oper.wp execOp
 simp only [ho, Sem.run_bind, Sem.run_pure, Result.andThen_ok, hp, hx, Instr.storeAt, Instr.sureAddr, hrun]
 refine hK _ _ ?_
 rw [hd]
 exact h
theorem wpList_allocA {ops : Array Oper} {rest : List Oper} {o : Oper} {a : Act} {w : World} {Q : Exit → Act → World → Prop} (hgd : o.guard = none) (t : TypeId) (ho : o.op = .alloc t) (z : Value) (hz : (zeroValue t).run Tryz.prog w = .ok z w)
  (h : wpList Tryz.prog ops Q rest (a.put o.dst (.pointer (some ⟨w.heap.size, 0, none⟩))) (w.alloc (.cells z.cells t))) : wpList Tryz.prog ops Q (o :: rest) a w := by
 refine wpList_plain hgd fun K hK => ?_
 unfold Oper.wp execOp
 simp only [ho, Sem.run_bind, Sem.run_pure, Result.andThen_ok]
 have hr : (Instr.alloc t true (.tuple #[])).run Tryz.prog w = .ok (.pointer (some ⟨w.heap.size, 0, none⟩)) (w.alloc (.cells z.cells t)) := by
  unfold Instr.alloc
  simp [go_sem, hz, Result.andThen]
 rw [hr]
 exact hK _ _ h
theorem wpList_buildB {ops : Array Oper} {rest : List Oper} {o : Oper} {a : Act} {w : World} {Q : Exit → Act → World → Prop} (hgd : o.guard = none) (t : TypeId) (x : Operand) (ho : o.op = .build t #[(0, x)]) (u : Value) (hx : a.eval x = u) (v : Value)
  (hrun : (Instr.build t #[(0, u)]).run Tryz.prog w = .ok v w) (h : wpList Tryz.prog ops Q rest (a.put o.dst v) w) : wpList Tryz.prog ops Q (o :: rest) a w := by
 refine wpList_plain hgd fun K hK => ?_
 unfold Oper.wp execOp
 simp only [ho, Sem.run_bind, Sem.run_pure, Result.andThen_ok, hx, List.map_toArray, List.map_cons, List.map_nil, hrun]
 exact hK _ _ h
theorem build139 (vo : Option Addr) (n c : Nat) (w : World) : (Instr.build 225 #[(0, .slice vo n c)]).run Tryz.prog w = .ok (.agg (frZ (.slice vo n c)).toArray) w := by
 kernel_rfl
theorem oper_buildSB {o : Oper} {a : Act} {w w' : World} {K : Act → World → Prop} {Q : Exit → Act → World → Prop} (x : Operand) (t : TypeId) (ho : o.op = .buildSlice t 1 #[(0, x)]) (u : Value) (hx : a.eval x = u) (r : Value)
  (hr : (Instr.buildSlice t 1 #[(0, u)]).run Tryz.prog w = .ok r w') (h : K (a.put o.dst r) w') : o.wp Tryz.prog a w K Q := by
 unfold Oper.wp execOp
 simp only [ho, Sem.run_bind, Sem.run_pure, Result.andThen_ok, List.map_toArray, List.map_cons, List.map_nil, hx, hr]
 exact h
theorem exec_loadA {ρ : Operand → Value} {o : Oper} {w : World} (t : TypeId) (x : Operand) (ho : o.op = .load t x) (ad : Addr) (hx : ρ x = .pointer (some ad)) (v : Value) (hrun : (loadVar t ad).run Tryz.prog w = .ok v w) : (execOp ρ o).run Tryz.prog w = .ok (Next.value v) w := by
 unfold execOp
 simp only [ho, Sem.run_bind, Sem.run_pure, Result.andThen_ok, hx, Instr.loadAt, Instr.sureAddr, hrun]
theorem cells2_set {w : World} {b : Nat} {x y : Value} {t : TypeId} (h : w.heap[b]? = some (.cells #[x, y] t)) (x' y' : Value) : ((w.setCell ⟨b, 0, none⟩ x').setCell ⟨b, 1, none⟩ y').heap[b]? = some (.cells #[x', y'] t) := by
 have hl := (Array.getElem?_eq_some_iff.1 h).1
 have hg := (Array.getElem?_eq_some_iff.1 h).2
 unfold World.setCell
 simp [hl, Array.getElem_modify, hg]
theorem own_block {w : World} {B b : Nat} {e : TypeId} {z : Nat} {xs : List Value} (h : w.ownsRow B e z (.slice (some ⟨b, 0, none⟩) 1 1) 1 xs) : w.heap[b]? = some (.cells xs.toArray e (0, 0)) := by
 rcases h.2 with ⟨h', _⟩ | ⟨g', cap', cur, h', hb, hg, hnc, hcm, hcs, ht⟩
 ·cases h'
 ·simp only [Value.slice.injEq, Option.some.injEq, Addr.mk.injEq, and_true, true_and] at h'
  obtain ⟨rfl, rfl⟩ := h'
  rw [hg]
  congr 2
  have : cur.toList = xs := by
   rw [← ht, List.take_of_length_le]
   rw [Array.length_toList, hcs]
   exact Nat.le_refl _
  rw [← this]
theorem infoF2 : (Tryz.prog.info? 225).map (fun i => (i.zero, i.size)) = some (some (.agg (frZ (.slice none 0 0)).toArray), 51) := by kernel_rfl
theorem store139 (o : Option Addr) (n c : Nat) (w : World) : (storeVar 225 ⟨w.heap.size, 0, none⟩ (.agg (frZ (.slice o n c)).toArray)).run Tryz.prog (w.alloc (.cells (frZ (.slice none 0 0)).toArray 225)) = .ok () (w.alloc (.cells (frZ (.slice o n c)).toArray 225)) :=
 run_storeVar_new (P := Tryz.prog) w 225 _ _ (by rw [(zero_of_info infoF2).2]; simp [frZ_len]) (by simp [frZ_len]) (by kernel_rfl)
theorem loadF {w : World} {b : Nat} {xs : List Value} (h : w.heap[b]? = some (.cells xs.toArray 225 (0, 0))) (hl : xs.length = 51) : (loadVar 225 ⟨b, 0, none⟩).run Tryz.prog w = .ok (.agg xs.toArray) w :=
 run_loadVar_row (P := Tryz.prog) w b 225 225 xs.toArray (0, 0) _ h Tryz.underlying225 rfl (by
  have := infoFr
  rcases hq : Tryz.prog.info? 225 with _ | i
  ·rw [hq] at this; simp at this
  ·rw [hq] at this
   simp only [Option.map_some, Option.some.injEq, Prod.mk.injEq] at this ⊢
   rw [this.2.1, List.size_toArray, hl])
theorem buildF (o : Option Addr) (n c : Nat) (f : Frm) (w : World) : (Instr.buildSlice 133 1 #[(0, .agg (frC (FrX.new (.slice o n c)) f).toArray)]).run Tryz.prog w = .ok (.slice (some ⟨w.heap.size, 0, none⟩) 1 1) (w.alloc (.cells (frC (FrX.new (.slice o n c)) f).toArray 225)) := by
 kernel_rfl
theorem locC_pad (l : List Val) (n : Nat) : locC (l ++ List.replicate n nothing) = locC l := by
 unfold locC
 refine rng_congr fun i hi => ?_
 congr 1
 rw [List.getD_eq_getElem?_getD, List.getD_eq_getElem?_getD]
 rcases Nat.lt_or_ge i l.length with c | c
 ·rw [List.getElem?_append_left c]
 ·rw [List.getElem?_append_right c, List.getElem?_eq_none c, List.getElem?_replicate]
  split <;> rfl
theorem frC_enter (x : FrX) (m : Mo) (f : Nat) (vs : List Val) : frC x (enter m f vs) = frC x ⟨0, 0, vs, []⟩ := by
 unfold frC enter
 rw [locC_pad]
section
variable {E : Env} {X : Nat} {g : Pl} {s : Ms} {W W' : World} {tag : Nat → Nat}
theorem MM.fnAt (h : MM E X g s W tag) {f : Nat} (hf : f < E.mo.fns.length) :
  ∃ gf fc, W.cell? ⟨X, 2, none⟩ = some (.slice (some ⟨gf, 0, none⟩) E.mo.fns.length fc) ∧ E.mo.fns.length ≤ 1000 ∧ W.cell? ⟨gf, f * 2, none⟩ = some (.int .i64 (parOf E.mo f : Nat)) ∧ W.cell? ⟨gf, f * 2 + 1, none⟩ = some (g.code f).1 ∧ ∃ o n c, (g.code f).1 = .slice o n c := by
 obtain ⟨h6, lv, R, mp, x, hx, h⟩ := h
 obtain ⟨gf, fc, e1, e2, e3, e4, e5⟩ := h.sta.fns
 obtain ⟨gc, cc, T, v1, -⟩ := (h.sta.code f hf).at_
 have hcode : x.code = g.code := hx.1.2.2.2
 rw [hcode] at v1 e5
 exact ⟨gf, fc, h.xc (by rw [← e1]; rfl), e4, (e5 f hf).1, (e5 f hf).2, _, _, _, v1⟩
theorem MM.frv (h : MM E X g s W tag) : ∃ cap, W.cell? ⟨X, 11, none⟩ = some (.slice (some ⟨g.g, 0, none⟩) (s.low.length + 1) cap) ∧ s.low.length ≤ 20 := by
 obtain ⟨h6, lv, R, mp, x, hx, h⟩ := h
 obtain ⟨cap, hc⟩ := h.vF
 exact ⟨cap, h.xc (by rw [← hc]; rfl), h.nF⟩
set_option maxRecDepth 100000 in
set_option maxHeartbeats 1000000 in
theorem MM.callDeep (h : MM E X g s W tag) (hd : 20 ≤ s.low.length) (f : Int) : Calls Tryz.prog 226 #[ptr X, .int .i64 f] W (MP E X g s tag W (stI 9)) := by
 obtain ⟨cap, x11, hn⟩ := h.frv
 have c : ((s.low.length + 1 : Nat) : Int) > 20 := by omega
 have hw : IntKind.i64.wrap ((s.low.length + 1 : Nat) : Int) = ((s.low.length + 1 : Nat) : Int) := by rw [IntKind.wrap_i64]; omega
 have HM : Hid (MM E X g s W tag) := h
 generalize s.low.length = n at *
 clear h
 go_enter Tryz.func226, Tryz.ntmps226
 go_wp2_with fail
 go_ret
 exact ⟨rfl, tag, HM.out, Kp.refl _ _⟩
def CI (E : Env) (X : Nat) (g : Pl) (s : Ms) (l : List Cell) (vs : List Val) (cvv : Value) (b7 : Nat) (tag : Nat → Nat) (W : World) (k : Nat) (wr : World) : Prop :=
 ∃ t, MM E X g (onStk s (l ++ (vs.take (vs.length - k)).map cv)) wr t ∧ Kp tag t W wr ∧ t b7 = 6 ∧ 6 ≤ b7 ∧ b7 < wr.heap.size ∧ wr.ownsRow 0 225 51 (.slice (some ⟨b7, 0, none⟩) 1 1) 1 (frC (FrX.new cvv) ⟨0, 0, List.replicate (vs.length - k) nothing ++ vs.drop (vs.length - k), []⟩)
theorem CI.step {l : List Cell} {vs : List Val} {cvv : Value} {b7 k : Nat} {wr : World} (h : CI E X g s l vs cvv b7 tag W k wr) (hW : W.heap.size ≤ b7) (hl : l.length + vs.length ≤ 1024) (hp : vs.length ≤ 16) (hk : k < vs.length) :
  ∃ v, Calls Tryz.prog 196 #[fp g s] wr fun e W' => e = .returned (vV v) ∧ (∀ j, j < 3 → W'.frozen? ⟨b7, 2 + (vs.length - 1 - k) * 3 + j, none⟩ = false ∧ ∃ u, W'.cell? ⟨b7, 2 + (vs.length - 1 - k) * 3 + j, none⟩ = some u) ∧ CI E X g s l vs cvv b7 tag W (k + 1) (set3W W' b7 (2 + (vs.length - 1 - k) * 3) (.int .u8 v.kind) (.int .i64 (vN v)) (.string (vS v))) := by
 obtain ⟨t, M, K, hb, h6b, hlt, ow⟩ := h
 obtain ⟨v, hvm⟩ : ∃ v, vs[vs.length - 1 - k]? = some v := ⟨_, List.getElem?_eq_getElem (by omega)⟩
 have e1 : (vs.take (vs.length - k)).map cv = (vs.take (vs.length - (k + 1))).map cv ++ [cv v] := by
  rw [show vs.length - k = (vs.length - 1 - k) + 1 by omega, List.take_add_one, hvm, List.map_append, show vs.length - (k + 1) = vs.length - 1 - k by omega]
  rfl
 have hs1 : (onStk s (l ++ (vs.take (vs.length - k)).map cv)).fr.stk = (l ++ (vs.take (vs.length - (k + 1))).map cv) ++ [cv v] := by
  show l ++ (vs.take (vs.length - k)).map cv = _
  rw [e1, List.append_assoc]
 have hl1 : (onStk s (l ++ (vs.take (vs.length - k)).map cv)).fr.stk.length ≤ 1024 := by
  show (l ++ (vs.take (vs.length - k)).map cv).length ≤ 1024
  simp only [List.length_append, List.length_map, List.length_take]
  omega
 refine ⟨v, (MM.popV M hs1 hl1).mono fun e W' ⟨he, t', M', K'⟩ => ⟨he, ?_, ?_⟩⟩
 ·have ow' := own_of_block ow fun q hq => K'.blk q (ow.lt q hq).2 (by
   have : b7 = q := by simpa [Value.ownBlock] using hq
   rw [← this, hb]; decide)
  intro j hj
  refine ⟨own_thaw ow' _, ?_⟩
  obtain ⟨u, hu⟩ : ∃ u, (frC (FrX.new cvv) ⟨0, 0, List.replicate (vs.length - k) nothing ++ vs.drop (vs.length - k), []⟩)[2 + (vs.length - 1 - k) * 3 + j]? = some u := ⟨_, List.getElem?_eq_getElem (by rw [frC_len]; omega)⟩
  exact ⟨u, own_cell ow' hu⟩
 ·have ow' := own_of_block ow fun q hq => K'.blk q (ow.lt q hq).2 (by
   have : b7 = q := by simpa [Value.ownBlock] using hq
   rw [← this, hb]; decide)
  have hb' : t' b7 = 6 := (K'.ret _ hlt).trans hb
  refine ⟨t', ?_, ?_, hb', h6b, ?_, ?_⟩
  ·exact ((M'.poke hb' h6b _ _).poke hb' h6b _ _).poke hb' h6b _ _
  ·exact (((K.trans K').poke hW _ _).poke hW _ _).poke hW _ _
  ·unfold set3W
   simp only [World.setCell, Array.size_modify]
   exact Nat.lt_of_lt_of_le hlt K'.size
  ·have o3 := own_set (own_set (own_set ow' (j := 2 + (vs.length - 1 - k) * 3) (by omega) (.int .u8 v.kind)) (j := 2 + (vs.length - 1 - k) * 3 + 1) (by omega) (.int .i64 (vN v))) (j := 2 + (vs.length - 1 - k) * 3 + 2) (by omega) (.string (vS v))
   have e2 := frC_setLoc (FrX.new cvv) ⟨0, 0, List.replicate (vs.length - k) nothing ++ vs.drop (vs.length - k), []⟩ (i := vs.length - 1 - k) (by omega) (by simp; omega) v
   unfold set3L at e2
   rw [e2] at o3
   have e3 : (List.replicate (vs.length - k) nothing ++ vs.drop (vs.length - k)).set (vs.length - 1 - k) v = List.replicate (vs.length - (k + 1)) nothing ++ vs.drop (vs.length - (k + 1)) := by
    have a1 : vs.length - k = (vs.length - (k + 1)) + 1 := by omega
    have a2 : vs.length - 1 - k = vs.length - (k + 1) := by omega
    rw [a2] at hvm
    have a3 : vs.drop (vs.length - (k + 1)) = v :: vs.drop (vs.length - k) := by
     have hlt : vs.length - (k + 1) < vs.length := by omega
     rw [List.drop_eq_getElem_cons hlt, ← a1]
     congr 1
     rw [List.getElem?_eq_getElem hlt] at hvm
     simpa using hvm
    rw [a2, a3, a1, List.replicate_succ', List.append_assoc, List.set_append_right _ _ (by simp)]
    simp
   simp only [e3] at o3
   exact o3
set_option maxRecDepth 100000 in
set_option maxHeartbeats 1000000 in
theorem MM.call (h : MM E X g s W tag) (hd : s.low.length < 20) {f : Nat} (hf : f < E.mo.fns.length) {l : List Cell} {vs : List Val} (hs : s.fr.stk = l ++ vs.map cv) (hl : s.fr.stk.length ≤ 1024) (hp : parOf E.mo f = vs.length) (hp16 : vs.length ≤ 16) :
    Calls Tryz.prog 226 #[ptr X, .int .i64 (f : Nat)] W fun e W' => e = .returned (stI 0) ∧ ∃ vb t', MM E X { g with g := vb } (onCall (onStk s l) (enter E.mo f vs)) W' t' ∧ Kp tag t' W W' := by
  have hm : Tryz.prog.follows Departure.mixedOrders = true := by kernel_rfl
  obtain ⟨cap, x11, hn⟩ := h.frv
  obtain ⟨gf, fc, x2, hfn, y0, y1, co, cn, cc, hco⟩ := h.fnAt hf
  have hl1 : l.length + vs.length ≤ 1024 := by rw [hs] at hl; simpa using hl
  rw [hp] at y0
  rw [hco] at y1
  have c20 : ¬ ((s.low.length + 1 : Nat) : Int) > 20 := by omega
  have hw : IntKind.i64.wrap ((s.low.length + 1 : Nat) : Int) = ((s.low.length + 1 : Nat) : Int) := by rw [IntKind.wrap_i64]; omega
  have hfi : (f : Int) < (E.mo.fns.length : Int) := by omega
  have HF : Hid (∀ (W1 : World), Fr [] W W1 → Calls Tryz.prog 63 #[ptr X] W1 (fun e W' => e = .returned (fp g s) ∧ Fr [] W1 W')) := fun W1 F1 => by
    refine (frame_any X g.g s.low.length cap W1 ((F1.cell (p := ⟨X, 11, none⟩) (lt_of_cell x11) (by simp)).trans x11) (by omega)).mono fun e W' ⟨he, hf⟩ => ⟨he, hf⟩
  have HX : Hid (∀ (W1 : World), Fr [] W W1 → W1.cell? ⟨X, 2, none⟩ = some (.slice (some ⟨gf, 0, none⟩) E.mo.fns.length fc) ∧ W1.cell? ⟨gf, f * 2, none⟩ = some (.int .i64 (vs.length : Nat)) ∧ W1.cell? ⟨gf, f * 2 + 1, none⟩ = some (.slice co cn cc)) := fun W1 F1 =>
    ⟨(F1.cell (p := ⟨X, 2, none⟩) (lt_of_cell x2) (by simp)).trans x2, (F1.cell (p := ⟨gf, f * 2, none⟩) (lt_of_cell y0) (by simp)).trans y0, (F1.cell (p := ⟨gf, f * 2 + 1, none⟩) (lt_of_cell y1) (by simp)).trans y1⟩
  have HM : Hid (MM E X g s W tag) := h
  generalize hfl : E.mo.fns.length = fnl at *
  generalize hlow : s.low.length = ll at *
  clear h y0 y1 x2
  generalize hs2 : onCall (onStk s l) (enter E.mo f vs) = s2
  go_enter Tryz.func226, Tryz.ntmps226
  go_upto_region 3 with fail
  go_cut [5, 6] from 15 to 23 (fun x y wx => ∃ b5 : Nat, x = .pointer (some ⟨b5, 0, none⟩) ∧ y = fp g s ∧ Fr [] W wx ∧ W.heap.size ≤ b5 ∧ wx.heap[b5]? = some (.cells #[.int .i64 (vs.length : Nat), .slice co cn cc] 143))
  case first =>
    refine wp_region_heldD (fun V => Fr [] W V) hm ?_
    have FD : Fr [] W W.drew := (Fr.refl [] W).drew
    obtain ⟨WD, hWD⟩ : ∃ WD, W.drew = WD := ⟨_, rfl⟩
    rw [hWD] at FD ⊢
    have hS := FD
    clear hWD x11 HM hs hl
    refine wpAnyH_takes (fun _ _ _ _ _ h => h) hS [0, 1, 2, 3, 4, 5, 6, 7] (by kernel_rfl) ?_
    iterate 8
      refine Yls.cons (v := ?_) rfl (.inl ⟨rfl, fun w1 hS1 => ?_⟩) ?_
      rotate_left
      · obtain ⟨p0, p1, p2⟩ := HX.out w1 hS1
        go_simp
        first | rfl | (refine (if_neg (by omega)).trans ?_; rfl)
      simp only [Act.put, List.setIfInBounds_toArray, List.set_cons_zero, List.set_cons_succ, List.getElem_toArray, List.getElem_cons_succ, List.getElem_cons_zero]
    refine Yls.nil ?_
    refine wpAnyH_ready (rs := [8, 9]) (by kernel_rfl) (by simp) ?_
    refine AllReadyH.cons rfl (fun K hK => ?_) (AllReadyH.cons rfl (fun K hK => ?_) AllReadyH.nil)
    · skip
      go_simp
      refine (HF.out WD (hS)).mono ?_
      rintro e V1 ⟨rfl, G1⟩
      have F1 : Fr [] W V1 := (hS).trans G1
      refine hK _ _ F1 ?_
      clear hK K
      intro _
      try simp only [Act.put, List.setIfInBounds_toArray, List.set_cons_zero, List.set_cons_succ, List.getElem_toArray, List.getElem_cons_succ, List.getElem_cons_zero]
      refine wpAnyH_ready (rs := [9]) (by kernel_rfl) (by simp) ?_
      refine AllReadyH.cons rfl (fun K hK => ?_) AllReadyH.nil
      go_simp
      obtain ⟨V2, hV2⟩ : ∃ V2, V1.alloc (.cells #[.int .i64 0, .slice none 0 0] 143) = V2 := ⟨_, rfl⟩
      have F2 : Fr [] W V2 := by rw [← hV2]; exact (F1).alloc _
      have kk := World.alloc_heap_new V1 (.cells #[.int .i64 0, .slice none 0 0] 143)
      rw [hV2] at kk
      rw [hV2]
      refine hK _ _ F2 ?_
      clear hK K
      intro _
      try simp only [Act.put, List.setIfInBounds_toArray, List.set_cons_zero, List.set_cons_succ, List.getElem_toArray, List.getElem_cons_succ, List.getElem_cons_zero]
      have hbk : W.heap.size ≤ V1.heap.size := F1.size
      obtain ⟨⟨q0, q1⟩, z0, z1⟩ := cells2 kk
      have kk3 := cells2_set kk (.int .i64 (vs.length : Nat)) (.slice co cn cc)
      have q1' : (V2.setCell ⟨V1.heap.size, 0, none⟩ (.int .i64 (vs.length : Nat))).cell? ⟨V1.heap.size, 1, none⟩ = some (.slice none 0 0) := by rw [setCell_off (by decide)]; exact q1
      have F7 : Fr [] W ((V2.setCell ⟨V1.heap.size, 0, none⟩ (.int .i64 (vs.length : Nat))).setCell ⟨V1.heap.size, 1, none⟩ (.slice co cn cc)) := (F2.setCell (p := ⟨V1.heap.size, 0, none⟩) (.inr hbk) _).setCell (p := ⟨V1.heap.size, 1, none⟩) (.inr hbk) _
      refine wpAnyH_ready (rs := [10]) (by kernel_rfl) (by simp) ?_
      refine AllReadyH.cons rfl (fun K hK => ?_) AllReadyH.nil
      go_simp
      obtain ⟨V7, hV7⟩ : ∃ V7, (V2.setCell ⟨V1.heap.size, 0, none⟩ (.int .i64 (vs.length : Nat))).setCell ⟨V1.heap.size, 1, none⟩ (.slice co cn cc) = V7 := ⟨_, rfl⟩
      rw [hV7] at kk3 F7
      try rw [hV7]
      refine hK _ _ F7 ?_
      clear hK K
      intro _
      refine wpAnyH_ready (rs := [11]) (by kernel_rfl) (by simp) ?_
      refine AllReadyH.cons rfl (fun K hK => ?_) AllReadyH.nil
      go_simp
      refine hK _ _ F7 ?_
      clear hK K
      intro _
      try simp only [Act.put, List.setIfInBounds_toArray, List.set_cons_zero, List.set_cons_succ, List.getElem_toArray, List.getElem_cons_succ, List.getElem_cons_zero]
      refine wpAnyH_done (by kernel_rfl) ?_ _
      go_wp2_with fail
      go_meet
      exact ⟨V1.heap.size, rfl, rfl, F7, hbk, kk3⟩
    · skip
      go_simp
      obtain ⟨V1, hV1⟩ : ∃ V1, WD.alloc (.cells #[.int .i64 0, .slice none 0 0] 143) = V1 := ⟨_, rfl⟩
      have F1 : Fr [] W V1 := by rw [← hV1]; exact (hS).alloc _
      have kk := World.alloc_heap_new WD (.cells #[.int .i64 0, .slice none 0 0] 143)
      rw [hV1] at kk
      rw [hV1]
      refine hK _ _ F1 ?_
      clear hK K
      intro _
      try simp only [Act.put, List.setIfInBounds_toArray, List.set_cons_zero, List.set_cons_succ, List.getElem_toArray, List.getElem_cons_succ, List.getElem_cons_zero]
      refine wpAnyH_ready (rs := [8]) (by kernel_rfl) (by simp) ?_
      refine AllReadyH.cons rfl (fun K hK => ?_) AllReadyH.nil
      go_simp
      refine (HF.out V1 (F1)).mono ?_
      rintro e V2 ⟨rfl, G2⟩
      have F2 : Fr [] W V2 := (F1).trans G2
      refine hK _ _ F2 ?_
      clear hK K
      intro _
      try simp only [Act.put, List.setIfInBounds_toArray, List.set_cons_zero, List.set_cons_succ, List.getElem_toArray, List.getElem_cons_succ, List.getElem_cons_zero]
      replace kk := (G2.block _ (Array.getElem?_eq_some_iff.1 kk).1 (by simp)).trans kk
      have hbk : W.heap.size ≤ WD.heap.size := hS.size
      obtain ⟨⟨q0, q1⟩, z0, z1⟩ := cells2 kk
      have kk3 := cells2_set kk (.int .i64 (vs.length : Nat)) (.slice co cn cc)
      have q1' : (V2.setCell ⟨WD.heap.size, 0, none⟩ (.int .i64 (vs.length : Nat))).cell? ⟨WD.heap.size, 1, none⟩ = some (.slice none 0 0) := by rw [setCell_off (by decide)]; exact q1
      have F7 : Fr [] W ((V2.setCell ⟨WD.heap.size, 0, none⟩ (.int .i64 (vs.length : Nat))).setCell ⟨WD.heap.size, 1, none⟩ (.slice co cn cc)) := (F2.setCell (p := ⟨WD.heap.size, 0, none⟩) (.inr hbk) _).setCell (p := ⟨WD.heap.size, 1, none⟩) (.inr hbk) _
      refine wpAnyH_ready (rs := [10]) (by kernel_rfl) (by simp) ?_
      refine AllReadyH.cons rfl (fun K hK => ?_) AllReadyH.nil
      go_simp
      obtain ⟨V7, hV7⟩ : ∃ V7, (V2.setCell ⟨WD.heap.size, 0, none⟩ (.int .i64 (vs.length : Nat))).setCell ⟨WD.heap.size, 1, none⟩ (.slice co cn cc) = V7 := ⟨_, rfl⟩
      rw [hV7] at kk3 F7
      try rw [hV7]
      refine hK _ _ F7 ?_
      clear hK K
      intro _
      refine wpAnyH_ready (rs := [11]) (by kernel_rfl) (by simp) ?_
      refine AllReadyH.cons rfl (fun K hK => ?_) AllReadyH.nil
      go_simp
      refine hK _ _ F7 ?_
      clear hK K
      intro _
      try simp only [Act.put, List.setIfInBounds_toArray, List.set_cons_zero, List.set_cons_succ, List.getElem_toArray, List.getElem_cons_succ, List.getElem_cons_zero]
      refine wpAnyH_done (by kernel_rfl) ?_ _
      go_wp2_with fail
      go_meet
      exact ⟨WD.heap.size, rfl, rfl, F7, hbk, kk3⟩
  case rest =>
    obtain ⟨b5, rfl, rfl, F, hb5, k5⟩ := hcut
    obtain ⟨⟨q0, q1⟩, -, -⟩ := cells2 k5
    have hb5l := (Array.getElem?_eq_some_iff.1 k5).1
    obtain ⟨W4, hW4⟩ : ∃ W4, wc.alloc (.cells (frZ (.slice co cn cc)).toArray 225) = W4 := ⟨_, rfl⟩
    have hnew := World.alloc_heap_new wc (.cells (frZ (.slice co cn cc)).toArray 225)
    rw [hW4] at hnew
    have F4 : Fr [] W W4 := by rw [← hW4]; exact F.alloc _
    have F4' : Fr [] wc W4 := by rw [← hW4]; exact (Fr.refl [] wc).alloc _
    have q0' : W4.cell? ⟨b5, 0, none⟩ = some (.int .i64 (vs.length : Nat)) := (F4'.cell (p := ⟨b5, 0, none⟩) hb5l (by simp)).trans q0
    obtain ⟨t4, h4, k4, hb4⟩ := MM.box HM.out F4
    have hl4 := (Array.getElem?_eq_some_iff.1 hnew).1
    have HJ : Hid (CI E X g s l vs (.slice co cn cc) wc.heap.size tag W 0 W4) := by
      refine ⟨t4, ?_, k4, hb4 _ F.size, Nat.le_trans HM.out.1 F.size, hl4, ?_⟩
      · rw [Nat.sub_zero, List.take_length, ← hs]
        exact h4
      · refine own_one ?_ (frC_len _ _)
        rw [hnew]
        congr 2
        rw [Nat.sub_zero, List.drop_length, List.append_nil]
        show _ = ([Value.slice co cn cc, Value.int .i64 0] ++ locC (List.replicate vs.length nothing) ++ [Value.slice none 0 0]).toArray
        rw [locC_nothing]
        rfl
    have HST : Hid _ := fun (k : Nat) (wr : World) (J : CI E X g s l vs (.slice co cn cc) wc.heap.size tag W k wr) (hk : k < vs.length) => J.step F.size hl1 hp16 hk
    have HEND : Hid (∀ wr, CI E X g s l vs (.slice co cn cc) wc.heap.size tag W vs.length wr → ∃ t, MM E X g (onStk s l) wr t ∧ Kp tag t W wr ∧ t wc.heap.size = 6 ∧ wr.ownsRow 0 225 51 (.slice (some ⟨wc.heap.size, 0, none⟩) 1 1) 1 (frC (FrX.new (.slice co cn cc)) (enter E.mo f vs))) := fun wr J => by
      obtain ⟨t, M, K, hb, -, -, ow⟩ := J
      rw [Nat.sub_self, List.take_zero, List.map_nil, List.append_nil] at M
      rw [Nat.sub_self, List.replicate_zero, List.nil_append, List.drop_zero] at ow
      rw [frC_enter]
      exact ⟨t, M, K, hb, ow⟩
    have HPF : Hid _ := fun (wr : World) (t : Nat → Nat) (M : MM E X g (onStk s l) wr t) => M.pushF (show s.low.length < 20 by omega) (f := f) (by omega) (fr := enter E.mo f vs) ⟨rfl, rfl, rfl⟩ (fz := frC (FrX.new (.slice co cn cc)) (enter E.mo f vs)) (by rw [hco])
    have hb0 := buildF co cn cc (enter E.mo f vs)
    have hfl51 : (frC (FrX.new (.slice co cn cc)) (enter E.mo f vs)).length = 51 := frC_len _ _
    generalize frC (FrX.new (.slice co cn cc)) (enter E.mo f vs) = fz at HEND HPF hb0 hfl51
    replace HPF : Hid (∀ (wr : World) (t : Nat → Nat), MM E X g (onStk s l) wr t → ∃ cap, wr.cell? ⟨X, 11, none⟩ = some (.slice (some ⟨g.g, 0, none⟩) (ll + 1) cap) ∧ ∃ vb vc W2 t', (Builtin.append_ #[133, 133] 133 #[.slice (some ⟨g.g, 0, none⟩) (ll + 1) cap, .slice (some ⟨wr.heap.size, 0, none⟩) 1 1]).run Tryz.prog (wr.alloc (.cells fz.toArray 225)) = .ok (.slice (some ⟨vb, 0, none⟩) (ll + 2 : Nat) vc) W2 ∧ (∃ u, W2.cell? ⟨X, 11, none⟩ = some u) ∧ W2.frozen? ⟨X, 11, none⟩ = false ∧
      MM E X { g with g := vb } (onCall (onStk s l) (enter E.mo f vs)) (W2.setCell ⟨X, 11, none⟩ (.slice (some ⟨vb, 0, none⟩) (ll + 2 : Nat) vc)) t' ∧ Kp t t' wr (W2.setCell ⟨X, 11, none⟩ (.slice (some ⟨vb, 0, none⟩) (ll + 2 : Nat) vc))) := by
      rw [← hlow]
      exact HPF
    rw [hs2] at HPF
    obtain ⟨p, hpp⟩ : ∃ p, vs.length = p := ⟨_, rfl⟩
    rw [hpp] at HST HEND q0 q0' hp16 k5
    have hw1 : IntKind.i64.wrap ((p : Int) - 1) = (p : Int) - 1 := by rw [IntKind.wrap_i64]; omega
    have hzv : (zeroValue 225).run Tryz.prog wc = .ok (.agg (frZ (.slice none 0 0)).toArray) wc := (zero_of_info infoF2).1 wc
    have hsv := store139 co cn cc wc
    have hbv := build139 co cn cc wc
    rw [hW4] at hsv
    generalize frZ (.slice none 0 0) = fz0 at hzv hsv
    generalize frZ (.slice co cn cc) = fz1 at hsv hbv
    have HZV : Hid _ := hzv
    have HSV : Hid _ := hsv
    have HBV : Hid _ := hbv
    clear hW4 hzv hsv hbv
    clear hnew F4 F4' h4 k4 hb4 hl4 HX HF HM hs hl hfl hf hfn hfi x11 c20 hw hb5 hb5l k5 hlow hd hn hl1 hco hp F hs2
    go_wp2_with (first | (refine wpList_buildB rfl 225 (.tmp 25) rfl (.slice co cn cc) rfl (.agg fz1.toArray) HBV.out ?_) | (refine wpList_allocA rfl 225 rfl (.agg fz0.toArray) HZV.out ?_; simp only [Value.cells]) | (refine wpList_storeA rfl 225 (.tmp 7) (.tmp 26) rfl rfl ⟨wc.heap.size, 0, none⟩ rfl (.agg fz1.toArray) rfl HSV.out ?_))
    go_loopw [8] (fun q wr => ∃ k : Nat, k ≤ p ∧ q = .int .i64 ((p : Int) - 1 - k) ∧ Hid (CI E X g s l vs (.slice co cn cc) wc.heap.size tag W k wr)) (fun q _ => (intOf q + 1).toNat)
    case atStart => exact ⟨0, by omega, by simp, HJ⟩
    case round =>
      clear HJ
      obtain ⟨k, hk, rfl, J⟩ := hrel
      by_cases hlt : k < p
      · obtain ⟨m, hm1⟩ : ∃ m : Nat, p - 1 - k = m := ⟨_, rfl⟩
        have hm2 : (p : Int) - 1 - k = (m : Int) := by omega
        obtain ⟨v, HC⟩ := HST.out k wr J.out hlt
        rw [hm1] at HC
        have HC' : Hid _ := fun (_ : Unit) => HC
        have g1 : (m : Int) ≥ 0 := by omega
        have g2 : (m : Int) < 16 := by omega
        have hwm : IntKind.i64.wrap ((m : Int) - 1) = (m : Int) - 1 := by rw [IntKind.wrap_i64]; omega
        have hfin : Hid ((m : Int) - 1 = (p : Int) - 1 - ((k + 1 : Nat) : Int)) := by show _ = _; omega
        rw [hm2]
        unfold vV at HC'
        generalize (v.kind : Int) = kk at HC'
        generalize vN v = mm at HC'
        generalize vS v = tt at HC'
        clear HC HST J HEND HPF hm1 hb0
        go_wp2_with fail
        refine (HC'.out ()).mono ?_
        rintro e W5 ⟨rfl, hz, J5⟩
        obtain ⟨z0, u0, x0⟩ := hz 0 (by decide)
        obtain ⟨z1, u1, x1⟩ := hz 1 (by decide)
        obtain ⟨z2, u2, x2⟩ := hz 2 (by decide)
        rw [Nat.add_zero] at z0 x0
        unfold set3W at J5
        have x1' : (W5.setCell ⟨wc.heap.size, 2 + m * 3, none⟩ (.int .u8 kk)).cell? ⟨wc.heap.size, 2 + m * 3 + 1, none⟩ = some u1 := by rw [setCell_off (by omega)]; exact x1
        have x2' : ((W5.setCell ⟨wc.heap.size, 2 + m * 3, none⟩ (.int .u8 kk)).setCell ⟨wc.heap.size, 2 + m * 3 + 1, none⟩ (.int .i64 mm)).cell? ⟨wc.heap.size, 2 + m * 3 + 2, none⟩ = some u2 := by rw [setCell_off (by omega), setCell_off (by omega)]; exact x2
        have HJ5 : Hid _ := J5
        clear J5 hz HC'
        go_wp2_with fail
        exact ⟨⟨k + 1, by omega, by rw [hfin.out], HJ5⟩, by simp [intOf] <;> omega⟩
      · have hkp : k = p := by omega
        subst hkp
        have g1 : ¬ ((k : Int) - 1 - (k : Int) ≥ 0) := by omega
        obtain ⟨t, M, K, hb, ow⟩ := HEND.out wr J.out
        obtain ⟨WD, hWD⟩ : ∃ WD, wr.drew = WD := ⟨_, rfl⟩
        have FD : Fr [] wr WD := by rw [← hWD]; exact (Fr.refl [] wr).drew
        obtain ⟨tD, MD, KD⟩ := M.fr FD
        have owD := own_block (own_of_block ow fun q hq => FD.block q (ow.lt q hq).2 (by simp))
        obtain ⟨cap', x11, vb, vc, W6, t6, hr, ⟨u, xu⟩, zu, M6, K6⟩ := HPF.out WD tD MD
        have HR : Hid _ := hr
        have HM6 : Hid _ := And.intro M6 ((K.trans KD).trans K6)
        have HB0 : Hid _ := hb0 WD
        have HQ : Hid (∀ V, Fr [] WD V → V.cell? ⟨X, 11, none⟩ = some (.slice (some ⟨g.g, 0, none⟩) (ll + 1) cap') ∧ V.heap[wc.heap.size]? = some (.cells fz.toArray 225 (0, 0))) := fun V FV => ⟨(FV.cell (p := ⟨X, 11, none⟩) (lt_of_cell x11) (by simp)).trans x11, (FV.block _ (Array.getElem?_eq_some_iff.1 owD).1 (by simp)).trans owD⟩
        have hS : Fr [] WD WD := Fr.refl _ _
        clear M K hb ow MD KD owD hr M6 K6 HEND HPF HST J hb0 FD x11
        go_wp2_with fail
        refine wp_region_L (fun w => Fr [] WD w) 7 hm ?_
        rw [hWD]
        refine wpAnyL_takesU (fuel := 7) [0, 1, 2, 3] (by kernel_rfl) (fun _ _ _ _ _ h => h) (.inr hS) ?_
        iterate 4
          refine Yls.cons (v := ?_) rfl (.inl ⟨rfl, fun w1 hS1 => ?_⟩) ?_
          rotate_left
          · go_simp
            first | rfl | (refine (if_neg (by omega)).trans ?_; rfl)
          simp only [Act.put, List.setIfInBounds_toArray, List.set_cons_zero, List.set_cons_succ, List.getElem_toArray, List.getElem_cons_succ, List.getElem_cons_zero]
        refine Yls.nil ?_
        refine wpAnyL_takes (fuel := 5) [4, 5] (by kernel_rfl) (fun _ _ _ _ _ h => h) hS ?_
        refine Yls.cons (v := ?_) rfl (.inl ⟨rfl, fun w1 hS1 => ?_⟩) ?_
        rotate_left
        · obtain ⟨s0, s1⟩ := HQ.out _ hS1
          go_simp
          first | rfl | (refine (if_neg (by omega)).trans ?_; rfl)
        simp only [Act.put, List.setIfInBounds_toArray, List.set_cons_zero, List.set_cons_succ, List.getElem_toArray, List.getElem_cons_succ, List.getElem_cons_zero]
        refine Yls.cons (v := .agg fz.toArray) rfl (.inl ⟨rfl, fun w1 hS1 => ?_⟩) ?_
        · exact exec_loadA 225 (.tmp 7) rfl ⟨wc.heap.size, 0, none⟩ rfl (.agg fz.toArray) (loadF (HQ.out _ hS1).2 hfl51)
        simp only [Act.put, List.setIfInBounds_toArray, List.set_cons_zero, List.set_cons_succ, List.getElem_toArray, List.getElem_cons_succ, List.getElem_cons_zero]
        refine Yls.nil ?_
        refine wpAnyL_ready (rs := [6]) (by kernel_rfl) (by simp) ?_
        refine AllReadyL.cons rfl (fun K hK => ?_) AllReadyL.nil
        refine oper_buildSB (.tmp 44) 133 rfl (.agg fz.toArray) rfl (.slice (some ⟨WD.heap.size, 0, none⟩) 1 1) HB0.out ?_
        refine hK _ _ (.inr (hS.alloc _)) ?_
        clear hK K
        try simp only [Act.put, List.setIfInBounds_toArray, List.set_cons_zero, List.set_cons_succ, List.getElem_toArray, List.getElem_cons_succ, List.getElem_cons_zero]
        refine wpAnyL_ready (rs := [7]) (by kernel_rfl) (by simp) ?_
        refine AllReadyL.cons rfl (fun K hK => ?_) AllReadyL.nil
        refine oper_appendB (.tmp 43) (.tmp 45) 133 rfl _ _ _ rfl rfl HR.out ?_
        refine hK _ _ (.inl rfl) ?_
        clear hK K
        try simp only [Act.put, List.setIfInBounds_toArray, List.set_cons_zero, List.set_cons_succ, List.getElem_toArray, List.getElem_cons_succ, List.getElem_cons_zero]
        refine wpAnyL_takesU (fuel := 1) [8, 9] (by kernel_rfl) (fun _ _ _ _ _ h => h) (.inl rfl) ?_
        iterate 2
          refine Yls.cons (v := ?_) rfl (.inl ⟨rfl, fun w1 hS1 => ?_⟩) ?_
          rotate_left
          · go_simp
            first | rfl | (refine (if_neg (by omega)).trans ?_; rfl)
          simp only [Act.put, List.setIfInBounds_toArray, List.set_cons_zero, List.set_cons_succ, List.getElem_toArray, List.getElem_cons_succ, List.getElem_cons_zero]
        refine Yls.nil ?_
        refine wpAnyL_ready (rs := [10]) (by kernel_rfl) (by simp) ?_
        refine AllReadyL.cons rfl (fun K hK => ?_) AllReadyL.nil
        go_simp
        refine hK _ _ (.inl rfl) ?_
        clear hK K
        try simp only [Act.put, List.setIfInBounds_toArray, List.set_cons_zero, List.set_cons_succ, List.getElem_toArray, List.getElem_cons_succ, List.getElem_cons_zero]
        refine wpAnyL_done (by kernel_rfl) ?_ _
        refine NoPanic.normal ?_
        go_wp2_with fail
        go_ret
        exact ⟨rfl, vb, t6, HM6.out.1, HM6.out.2⟩
end
end Go.Proofs.YtmolfmgchbjnbaaGreatDoor
