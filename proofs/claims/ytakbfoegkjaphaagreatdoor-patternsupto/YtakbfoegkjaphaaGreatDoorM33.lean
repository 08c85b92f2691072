/-
  A row of the script's world grows by an append and is stored; keep: a list that came out waits. A list and what came of appending to it: a family of rows.
-/
import Derived.Test.YtakbfoegkjaphaaGreatDoorM32
set_option linter.unusedSimpArgs false
set_option linter.unusedVariables false
namespace Go.Proofs.YtakbfoegkjaphaaGreatDoor
open Go.RowKit

theorem info27 : (Tryz.prog.info? 27).map (fun i => (i.zero, i.size, i.bytes)) = some (some (.slice none 0 0), 1, 24) := by kernel_rfl

/-- A step that turns the world's own block and the row that bears the mark t; blocks that are new bear marks of their own. -/
structure Stp (tag tag' : Nat → Nat) (t : Nat) (W W2 : World) : Prop where
  chg : Chg tag [0, t] W W2
  ret : ∀ k, k < W.heap.size → tag' k = tag k
theorem Stp.row {tag tag' : Nat → Nat} {t t' : Nat} {W W2 : World} (s : Stp tag tag' t W W2) {B : Nat} {e : TypeId} {size : Nat} {v : Value} {n : Nat} {xs : List Value} (h : RowT B W tag t' e size v n xs) (h0 : t' ≠ 0) (h1 : t' ≠ t) : RowT B W2 tag' t' e size v n xs :=
  ⟨(h.chg s.chg (by simp; exact ⟨h0, h1⟩)).own, fun g hg => by rw [s.ret g (h.own.lt g hg).2]; exact h.tg g hg⟩
theorem Stp.book {tag tag' : Nat → Nat} {t : Nat} {W W2 : World} (s : Stp tag tag' t W W2) {x : Book} (h : BookOk W tag x) (h1 : t ≠ 8) : BookOk W2 tag' x := by
  have h' := h.retag (tag' := tag') (fun k hk e => by rw [s.ret k hk]; exact e)
  have c : Chg tag' [0, t] W W2 := ⟨s.chg.os, s.chg.tape, s.chg.output, s.chg.size, fun k hk hn => s.chg.block k hk (by rw [← s.ret k hk]; exact hn)⟩
  exact h'.chg c (by simp; omega)
theorem Stp.chg' {tag tag' : Nat → Nat} {t : Nat} {W W2 : World} (s : Stp tag tag' t W W2) : Chg tag' [0, t] W W2 :=
  ⟨s.chg.os, s.chg.tape, s.chg.output, s.chg.size, fun k hk hn => s.chg.block k hk (by rw [← s.ret k hk]; exact hn)⟩
theorem Stp.waits {tag tag' : Nat → Nat} {t : Nat} {W W2 : World} (s : Stp tag tag' t W W2) {B : Nat} {wl el : List Value} {d : Nat} (h : Waits B W tag wl el d) (h1 : t < 8) : Waits B W2 tag' wl el d :=
  (h.retag (tag' := tag') (fun k hk _ => s.ret k hk)).chg s.chg' (by intro x hx; simp at hx; omega)

/-- An append onto a row of the world, and its store into the cell. -/
theorem row_step {w0 W Wa w2 : World} {b : Nat} {tag : Nat → Nat} {c : Nat → Value} (i t : Nat) {e : TypeId} {size : Nat} {n n' : Nat} {xs xs' : List Value} {v' : Value} (core : CorI w0 W b tag c) (hr : RowT w0.heap.size W tag t e size (c i) n xs) (fa : Fr [] W Wa)
    (hown' : w2.ownsRow w0.heap.size e size v' n' xs') (hgrow : Wa.grownBy w2 (c i).ownBlock) (hwh : v'.ownBlock = (c i).ownBlock ∨ v'.ownBlock = some Wa.heap.size) (hi : i < 15) (ht : t ≠ 0) (ht7 : t < 7) :
    Stp tag (newTag tag Wa.heap.size t) t W (w2.setCell ⟨b, i, none⟩ v') ∧ CorI w0 (w2.setCell ⟨b, i, none⟩ v') b (newTag tag Wa.heap.size t) (upd c i v') ∧ RowT w0.heap.size (w2.setCell ⟨b, i, none⟩ v') (newTag tag Wa.heap.size t) t e size v' n' xs' ∧
      (∀ j, j < 15 → w2.cell? ⟨b, j, none⟩ = some (c j)) ∧ (∀ j, j < 15 → w2.frozen? ⟨b, j, none⟩ = false) ∧ W.heap.size < w2.heap.size + 1 := by
  have hs := fa.size
  have hs2 := hgrow.size
  have hbl := core.lt
  have c1 : Chg tag [t] W w2 := (Chg.of_fr (tag := tag) (S := [t]) fa).trans (tag' := newTag tag Wa.heap.size t) (S' := [t]) (Chg.grown hgrow (fun k hk => by
      have := hr.tg k hk
      have hl := (hr.own.lt k hk).2
      rw [newTag_old (by omega), this]; simp)) (fun k hk hn => by rw [newTag_old (by omega)]; exact hn)
  have core2 : CorI w0 w2 b tag c := core.chg c1 (by simp; omega) (by simp; omega)
  have core3 : CorI w0 (w2.setCell ⟨b, i, none⟩ v') b tag (upd c i v') := core2.set i hi v'
  have c2 : Chg tag [0, t] W (w2.setCell ⟨b, i, none⟩ v') := (c1.mono (S' := [0, t]) (by simp)).trans (tag' := tag) (S' := [0]) (Chg.setCell w2 (by rw [core.tb]; simp) v') (fun k hk hn => by simp at hn ⊢; exact hn.1)
  refine ⟨⟨c2, fun k hk => newTag_old (by omega)⟩, ?_, ?_, core2.cell, core2.fz, by omega⟩
  · refine ⟨core3.fr, fun k hk => ?_, core3.hb, ?_, core3.cell, core3.fz⟩
    · have := core.fr.size
      rw [newTag_old (by omega)]; exact core.low k hk
    · rw [newTag_old (by omega)]; exact core.tb
  · have hb2 : ∀ g, v'.ownBlock = some g → newTag tag Wa.heap.size t g = t := by
      intro g hg
      rcases hwh with h | h
      · rw [h] at hg
        rw [newTag_old (by have := (hr.own.lt g hg).2; omega)]; exact hr.tg g hg
      · rw [h] at hg
        obtain rfl : Wa.heap.size = g := by simpa using hg
        exact newTag_new (Nat.le_refl _)
    refine ⟨own_block hown' fun g hg => ?_, hb2⟩
    refine Below.heap_setCell _ _ _ _ ?_
    rintro rfl
    have := hb2 _ hg
    rw [newTag_old (by omega), core.tb] at this
    exact ht this.symm

/-- The world with a row of it grown: the lists that wait. -/
theorem ScrI.grow11 {w0 W W2 : World} {b : Nat} {tag tag' : Nat → Nat} {c : Nat → Value} {T : Nat} {bk : List Book} {wl el wl' : List Value} {v' : Value} (I : ScrI w0 W b tag c T bk wl el) (s : Stp tag tag' 4 W W2) (core : CorI w0 W2 b tag' (upd c 11 v')) (hr : RowT w0.heap.size W2 tag' 4 27 1 v' wl'.length wl') :
    ScrI w0 W2 b tag' (upd c 11 v') T bk wl' el := by
  obtain ⟨n3, x3, h3, t3⟩ := I.r3
  obtain ⟨n4, x4, h4, t4⟩ := I.r4
  exact ⟨core, I.n0, I.n1, I.n2, ⟨n3, x3, s.row h3 (by omega) (by omega), t3⟩, ⟨n4, x4, s.row h4 (by omega) (by omega), t4⟩, I.n6, s.row I.r7 (by omega) (by omega), I.n8, hr, s.row I.r12 (by omega) (by omega), I.n13, I.n14, fun x hx => s.book (I.books x hx) (by omega)⟩
theorem ScrI.grow12 {w0 W W2 : World} {b : Nat} {tag tag' : Nat → Nat} {c : Nat → Value} {T : Nat} {bk : List Book} {wl el el' : List Value} {v' : Value} (I : ScrI w0 W b tag c T bk wl el) (s : Stp tag tag' 5 W W2) (core : CorI w0 W2 b tag' (upd c 12 v')) (hr : RowT w0.heap.size W2 tag' 5 27 1 v' el'.length el') :
    ScrI w0 W2 b tag' (upd c 12 v') T bk wl el' := by
  obtain ⟨n3, x3, h3, t3⟩ := I.r3
  obtain ⟨n4, x4, h4, t4⟩ := I.r4
  exact ⟨core, I.n0, I.n1, I.n2, ⟨n3, x3, s.row h3 (by omega) (by omega), t3⟩, ⟨n4, x4, s.row h4 (by omega) (by omega), t4⟩, I.n6, s.row I.r7 (by omega) (by omega), I.n8, s.row I.r11 (by omega) (by omega), hr, I.n13, I.n14, fun x hx => s.book (I.books x hx) (by omega)⟩

theorem own_form {W : World} {B : Nat} {e : TypeId} {k : Nat} {v : Value} {n : Nat} {xs : List Value} (h : W.ownsRow B e k v n xs) : ∃ o cap, v = .slice o n cap := by
  rcases h.2 with ⟨h', rfl⟩ | ⟨g, cap, cur, hv, _⟩
  · exact ⟨_, _, h'⟩
  · exact ⟨_, _, hv⟩

theorem wpList_append_run {P : Program} {w : World} {ops : Array Oper} {rest : List Oper} {o : Oper} {a : Act} {Q : Exit → Act → World → Prop} (hgd : o.guard = none) (s x : Operand) (t : TypeId)
    (ho : o.op = .call { callee := .builtin .append, args := #[s, x], argTypes := #[t, t] }) (v u : Value) (hs : a.eval s = v) (hx : a.eval x = u) {v' : Value} {w' : World}
    (hr : (Builtin.append_ #[t, t] o.type #[v, u]).run P w = .ok v' w') (h : wpList P ops Q rest (a.put o.dst v') w') : wpList P ops Q (o :: rest) a w := by
  refine wpList_plain hgd fun K hK => ?_
  unfold Oper.wp execOp
  simp only [ho, resolve, invoke, builtin, Sem.run_bind, Sem.run_pure, Result.andThen_ok, List.map_toArray, List.map_cons, List.map_nil, hs, hx, hr]
  exact hK _ _ h

theorem wanted_of {o : Oper} {f : Nat → Option Bool} {X Y : Prop} (hg : o.guard = none) (h : X) : if Region.wanted o f = true then X else Y := by
  simp only [Region.wanted, hg, if_true]
  exact h

theorem wp_append_run {P : Program} {w : World} {o : Oper} {a : Act} {K : Act → World → Prop} {Q : Exit → Act → World → Prop} (s x : Operand) (t : TypeId)
    (ho : o.op = .call { callee := .builtin .append, args := #[s, x], argTypes := #[t, t] }) (v u : Value) (hs : a.eval s = v) (hx : a.eval x = u) {v' : Value} {w' : World}
    (hr : (Builtin.append_ #[t, t] o.type #[v, u]).run P w = .ok v' w') (h : K (a.put o.dst v') w') : o.wp P a w K Q := by
  unfold Oper.wp execOp
  simp only [ho, resolve, invoke, builtin, Sem.run_bind, Sem.run_pure, Result.andThen_ok, List.map_toArray, List.map_cons, List.map_nil, hs, hx, hr]
  exact h

/-- append(nil, l...): a list of the same texts. -/
theorem copy_run (W : World) (B : Nat) (u : Value) (L : List ByteArray) (ty : TypeId) (h : StrsAt W u L) (hl : L.length ≤ 1000) (hB : B ≤ W.heap.size) :
    ∃ u' W', (Builtin.append_ #[27, 27] ty #[.slice none 0 0, u]).run Tryz.prog W = .ok u' W' ∧ StrsAt W' u' L ∧ Fr [] W W' ∧ (∀ g, u'.ownBlock = some g → g = W.heap.size) ∧ ∃ o n cap, u' = .slice o n cap := by
  obtain ⟨i0, hi, hz0, hz1, hz2⟩ := info_parts info9
  by_cases h0 : L = []
  · subst h0
    obtain ⟨a, cc, rfl⟩ : ∃ a cc, u = .slice a 0 cc := by
      rcases h with ⟨_, h⟩ | ⟨g, cap, h, _⟩
      · exact ⟨_, _, h⟩
      · exact ⟨_, _, h⟩
    refine ⟨.slice none 0 0, W, ?_, .inl ⟨rfl, rfl⟩, Fr.refl _ _, (fun g hg => by cases hg), none, 0, 0, rfl⟩
    cases a <;> simp [Builtin.append_, run_underlying Tryz.underlying27, sizeOf, typeInfo, hi, Builtin.lenOf, Builtin.firstCells, loadCells, loadCellsFrom]
  · rcases h with ⟨h, _⟩ | ⟨g, cap, rfl, hc, hg, hx⟩
    · exact absurd h h0
    obtain ⟨v', w', hr, hown, hgr, hn, hw⟩ := run_append_own_at (P := Tryz.prog) W B 27 ty 9 i0 (.string ⟨#[]⟩) 1 16 Tryz.underlying27 hi hz0 hz1 hz2 rfl (by decide) (.slice none 0 0) 0 [] (World.ownsRow_nil _ _ _ _) ⟨g, 0, none⟩ L.length cap (L.map Value.string) (by simp)
      (by
        intro j x hj
        rw [List.getElem?_map] at hj
        cases hL : L[j]? with
        | none => rw [hL] at hj; cases hj
        | some y =>
          rw [hL] at hj
          obtain rfl : Value.string y = x := by simpa using hj
          rcases j with _ | j
          · simpa [Addr.add] using hx 0 y hL
          · simpa [Addr.add] using hx (j + 1) y hL)
      (by intro x hx'; simp at hx'; obtain ⟨y, _, rfl⟩ := hx'; rfl) (by unfold maxLen; omega) (by omega) hB
    have hpos : 0 < L.length := List.length_pos_iff.2 h0
    refine ⟨v', w', hr, ?_, ⟨hgr.os, hgr.tape, hgr.output, hgr.size, fun k hk _ => hgr.block k hk (by simp [Value.ownBlock])⟩, fun g' hg' => ?_, ?_⟩
    · rcases hown.2 with ⟨_, h'⟩ | ⟨g', cap', cur, hv, _, hg', hn', _⟩
      · omega
      · refine .inr ⟨g', cap', by rw [hv]; simp, by omega, (Array.getElem?_eq_some_iff.1 hg').1, fun i x hi' => ?_⟩
        have := hown.cells (g := g') (by rw [hv]; rfl) i (.string x) (by simp [List.getElem?_map, hi'])
        rcases i with _ | i
        · simpa [Addr.add] using this
        · simpa [Addr.add] using this
    · rcases hw with h' | h'
      · rw [hg'] at h'; simp [Value.ownBlock] at h'
      · rw [hg'] at h'; simpa using h'
    · rcases hown.2 with ⟨h', _⟩ | ⟨g', cap', cur, hv, _⟩
      · exact ⟨_, _, _, h'⟩
      · exact ⟨_, _, _, hv⟩

set_option maxRecDepth 100000 in
set_option maxHeartbeats 2000000 in
theorem keep_any (w0 W : World) (b : Nat) (tag : Nat → Nat) (c : Nat → Value) (T : Nat) (bk : List Book) (wl el : List Value) (o : Option Addr) (n cap : Nat) (u : Value) (L : List ByteArray) (I : ScrI w0 W b tag c T bk wl el) (hu : StrsAt W u L) (hL : L.length ≤ 1000) (tu : Tg tag u 6) (hl : wl.length ≤ 1000000000) (hl2 : el.length ≤ 1000000000) :
    Calls Tryz.prog 33 #[.pointer (some ⟨b, 0, none⟩), .slice o n cap, u] W fun e W' => e = .returned (.tuple #[]) ∧ ∃ tag' c' u', ScrI w0 W' b tag' c' T bk (wl ++ [.slice o n cap]) (el ++ [u']) ∧ StrsAt W' u' L ∧ Tg tag' u' 8 ∧
      Chg tag [0, 4, 5] W W' ∧ (∀ k, k < W.heap.size → tag' k = tag k) := by
  obtain ⟨i0, hi, hz0, hz1, hz2⟩ := info_parts info27
  have hm : Tryz.prog.follows .mixedOrders = true := by kernel_rfl
  have d11 := I.core.cell 11 (by decide)
  have z11 := I.core.fz 11 (by decide)
  have r11 := I.r11
  have hlt := I.core.lt
  have hsz := I.core.fr.size
  have HI : Hid _ := I
  have HU : Hid _ := hu
  clear I hu
  obtain ⟨v11, e11⟩ : ∃ v, c 11 = v := ⟨_, rfl⟩
  rw [e11] at d11 r11
  have E11 : Hid _ := e11
  clear e11
  go_enter Tryz.func33, Tryz.ntmps33
  go_wp2_with (at_builtin; refine wpList_append_own_at _ rfl _ _ 32 rfl w0.heap.size 27 i0 (.slice none 0 0) 1 24 Tryz.underlying32 hi hz0 hz1 hz2 rfl (by decide) v11 wl.length wl rfl (r11.own.alloc _) ⟨W.heap.size, 0, none⟩ 1 1 [.slice o n cap] rfl rfl ?c1 ?c2 ?c3 ?c4 ?c5 ?_)
  case c1 =>
    intro j u hj
    rcases j with _ | j
    · simp at hj; subst hj; simp [Addr.add]
    · simp at hj
  case c2 => intro u hu; simp at hu; subst hu; rfl
  case c3 => unfold maxLen; omega
  case c4 => omega
  case c5 => simp; omega
  intro v' w2 hown' hgrow hnil hwh
  obtain ⟨p1, p2, rfl⟩ := own_form hown'
  have fa : Fr [] W (W.alloc (Obj.cells #[Value.slice o n cap] 27)) := (Fr.refl [] W).alloc _
  obtain ⟨s1, core1, row1, cl, fz, _⟩ := row_step 11 4 HI.out.core HI.out.r11 fa hown' (by rw [E11.out]; exact hgrow) (by rw [E11.out]; simpa using hwh) (by decide) (by decide) (by decide)
  have cl11 := cl 11 (by decide)
  have fz11 := fz 11 (by decide)
  have I1 := HI.out.grow11 (wl' := wl ++ [.slice o n cap]) s1 core1 (by simpa using row1)
  have hu1 := StrsAt.chg HU.out tu s1.chg (by simp)
  have hW2 := hgrow.size
  have hst : w2.heap.size ≤ (w2.setCell ⟨b, 11, none⟩ (.slice p1 (wl.length + 1) p2)).heap.size := by simp
  clear cl fz hown' hgrow hnil hwh core1 row1 d11 z11 r11
  have d12 := I1.core.cell 12 (by decide)
  have r12 := I1.r12
  have hlt1 := I1.core.lt
  have hsz1 := I1.core.fr.size
  obtain ⟨v12, e12⟩ : ∃ v, upd c 11 (.slice p1 (wl.length + 1) p2) 12 = v := ⟨_, rfl⟩
  rw [e12] at d12 r12
  have E12 : Hid _ := e12
  clear e12
  obtain ⟨u', W3, hr, hu', fc, hub, o', n', cap', rfl⟩ := copy_run (w2.setCell ⟨b, 11, none⟩ (.slice p1 (wl.length + 1) p2)).drew w0.heap.size u L 27 hu1 hL hsz1
  go_wp2
  generalize hgW : w2.setCell ⟨b, 11, none⟩ (.slice p1 (wl.length + 1) p2) = W1 at *
  clear hgW
  have HI1 : Hid _ := I1
  have Hs1 : Hid _ := s1
  have Hr : Hid _ := hr
  clear I1 s1 hr fz11 cl11 hlt hst hW2 fa
  have fc' : Fr [] W1 W3 := ⟨fc.os, fc.tape, fc.output, fc.size, fc.block⟩
  have I2 := HI1.out.frm fc'
  have d12' := I2.core.cell 12 (by decide)
  have r12' := I2.r12
  rw [E12.out] at d12' r12'
  have hsz3 := I2.core.fr.size
  have HI2 : Hid _ := I2
  clear I2
  have fa : Fr [] W3 (W3.alloc (Obj.cells #[Value.slice o' n' cap'] 27)) := (Fr.refl [] W3).alloc _
  have I3 := HI2.out.frm fa
  have d12a := I3.core.cell 12 (by decide)
  rw [E12.out] at d12a
  clear I3
  obtain ⟨v2, w4, hr2, hown', hgrow, hnil, hwh⟩ := run_append_own_at (P := Tryz.prog) (W3.alloc (Obj.cells #[Value.slice o' n' cap'] 27)) w0.heap.size 32 32 27 i0 (.slice none 0 0) 1 24 Tryz.underlying32 hi hz0 hz1 hz2 rfl (by decide) v12 el.length el (r12'.own.alloc _) ⟨W3.heap.size, 0, none⟩ 1 1 [.slice o' n' cap'] rfl
    (by
      intro j u hj
      rcases j with _ | j
      · simp at hj; subst hj; simp [Addr.add]
      · simp at hj)
    (by intro u hu; simp at hu; subst hu; rfl) (by unfold maxLen; omega) (by omega) (by simp; omega)
  obtain ⟨q1, q2, rfl⟩ := own_form hown'
  have hW3 := fc'.size
  generalize hta : newTag tag (W.alloc (Obj.cells #[Value.slice o n cap] 27)).heap.size 4 = ta at *
  have hret1 := Hs1.out.ret
  have hW1 := Hs1.out.chg.size
  have t4 : ∀ k, k < W1.heap.size → newTag ta W1.heap.size 8 k = ta k := fun k hk => newTag_old hk
  have I4 : ScrI w0 W3 b (newTag ta W1.heap.size 8) (upd c 11 (.slice p1 (wl.length + 1) p2)) T bk (wl ++ [.slice o n cap]) el :=
    (HI1.out.retag (tag' := newTag ta W1.heap.size 8) (fun k hk _ => t4 k hk)).frm fc'
  have tu4 : Tg (newTag ta W1.heap.size 8) (.slice o' n' cap') 8 := fun g hg => by rw [hub g hg]; exact newTag_new (Nat.le_refl _)
  obtain ⟨s2, core2, row2, cl, fz, _⟩ := row_step 12 5 I4.core I4.r12 fa hown' (by rw [E12.out]; exact hgrow) (by rw [E12.out]; exact hwh) (by decide) (by decide) (by decide)
  have I5 := I4.grow12 (el' := el ++ [.slice o' n' cap']) s2 core2 (by simpa using row2)
  have hu5 := hu'.chg tu4 s2.chg (by simp)
  have tu5 : Tg (newTag (newTag ta W1.heap.size 8) (W3.alloc (Obj.cells #[Value.slice o' n' cap'] 27)).heap.size 5) (.slice o' n' cap') 8 := StrsAt.retag hu' tu4 (fun k hk e => by rw [s2.ret k hk]; exact e)
  have cfin : Chg tag [0, 4, 5] W (w4.setCell ⟨b, 12, none⟩ (.slice q1 (el.length + 1) q2)) := by
    have e1 : Chg tag [0, 4, 5] W W1 := Hs1.out.chg.mono (by simp)
    have e2 : Chg tag [0, 4, 5] W W3 := e1.trans (tag' := tag) (S' := []) (Chg.of_fr fc') (by simp)
    exact e2.trans s2.chg (fun k hk hn => by
      rw [t4 k (by omega), hret1 k hk]
      simp at hn ⊢
      omega)
  have rfin : ∀ k, k < W.heap.size → newTag (newTag ta W1.heap.size 8) (W3.alloc (Obj.cells #[Value.slice o' n' cap'] 27)).heap.size 5 k = tag k := fun k hk => by
    rw [s2.ret k (by omega), t4 k (by omega), hret1 k hk]
  have cl12 := cl 12 (by decide)
  have fz12 := fz 12 (by decide)
  rw [E12.out] at cl12
  have Hr2 : Hid _ := hr2
  clear hr2
  have hdr : W1.drew.cell? ⟨b, 12, none⟩ = some v12 := d12
  refine wp_region_heldD (fun _ => True) hm ?_
  have hS : (fun _ : World => True) W1.drew := trivial
  refine wpAnyH_take (i := 0) (v := ?_) rfl (by kernel_rfl) (by kernel_rfl) (by kernel_rfl) (fun _ _ _ h => h) (.inl ⟨rfl, fun w1 hS1 => ?_⟩) hS ?_
  rotate_left
  · have q1 := hS1
    go_simp
    rfl
  simp only [Act.put, List.setIfInBounds_toArray, List.set_cons_zero, List.set_cons_succ]
  refine wpAnyH_take (i := 1) (v := ?_) rfl (by kernel_rfl) (by kernel_rfl) (by kernel_rfl) (fun _ _ _ h => h) (.inl ⟨rfl, fun w1 hS1 => ?_⟩) hS ?_
  rotate_left
  · have q1 := hS1
    go_simp
    rfl
  simp only [Act.put, List.setIfInBounds_toArray, List.set_cons_zero, List.set_cons_succ]
  refine wpAnyH_take (i := 2) (v := ?_) rfl (by kernel_rfl) (by kernel_rfl) (by kernel_rfl) (fun _ _ _ h => h) (.inl ⟨rfl, fun w1 hS1 => ?_⟩) hS ?_
  rotate_left
  · have q1 := hS1
    go_simp
    rfl
  simp only [Act.put, List.setIfInBounds_toArray, List.set_cons_zero, List.set_cons_succ]
  refine wpAnyH_take (i := 3) (v := ?_) rfl (by kernel_rfl) (by kernel_rfl) (by kernel_rfl) (fun _ _ _ h => h) (.inl ⟨rfl, fun w1 hS1 => ?_⟩) hS ?_
  rotate_left
  · have q1 := hS1
    go_simp
    rfl
  simp only [Act.put, List.setIfInBounds_toArray, List.set_cons_zero, List.set_cons_succ]
  refine wpAnyH_take (i := 5) (v := ?_) rfl (by kernel_rfl) (by kernel_rfl) (by kernel_rfl) (fun _ _ _ h => h) (.inl ⟨rfl, fun w1 hS1 => ?_⟩) hS ?_
  rotate_left
  · have q1 := hS1
    go_simp
    rfl
  simp only [Act.put, List.setIfInBounds_toArray, List.set_cons_zero, List.set_cons_succ]
  refine wpAnyH_ready (rs := [4, 6]) (by kernel_rfl) (by simp) ?_
  refine AllReadyH.cons rfl (fun K hK => ?_) ?_
  · go_simp
    refine hK _ _ trivial ?_
    clear hK K
    intro _
    refine wpAnyH_ready (rs := [6]) (by kernel_rfl) (by simp) ?_
    refine AllReadyH.cons rfl (fun K hK => ?_) AllReadyH.nil
    refine wanted_of (by rfl) ?_
    refine wp_append_run _ _ 27 rfl _ _ rfl rfl Hr.out ?_
    refine hK _ _ trivial ?_
    clear hK K
    intro _
    simp only [Act.put, List.setIfInBounds_toArray, List.set_cons_zero, List.set_cons_succ]
    refine wpAnyH_ready (rs := [7]) (by kernel_rfl) (by simp) ?_
    refine AllReadyH.cons rfl (fun K hK => ?_) AllReadyH.nil
    go_simp
    refine hK _ _ trivial ?_
    clear hK K
    intro _
    refine wpAnyH_ready (rs := [8]) (by kernel_rfl) (by simp) ?_
    refine AllReadyH.cons rfl (fun K hK => ?_) AllReadyH.nil
    refine wanted_of (by rfl) ?_
    refine wp_append_run _ _ 32 rfl _ _ rfl rfl Hr2.out ?_
    refine hK _ _ trivial ?_
    clear hK K
    intro _
    simp only [Act.put, List.setIfInBounds_toArray, List.set_cons_zero, List.set_cons_succ]
    refine wpAnyH_ready (rs := [9]) (by kernel_rfl) (by simp) ?_
    refine AllReadyH.cons rfl (fun K hK => ?_) AllReadyH.nil
    go_simp
    refine hK _ _ trivial ?_
    clear hK K
    intro _
    refine wpAnyH_ready (rs := [10]) (by kernel_rfl) (by simp) ?_
    refine AllReadyH.cons rfl (fun K hK => ?_) AllReadyH.nil
    go_simp
    refine hK _ _ trivial ?_
    clear hK K
    intro _
    refine wpAnyH_ready (rs := [11]) (by kernel_rfl) (by simp) ?_
    refine AllReadyH.cons rfl (fun K hK => ?_) AllReadyH.nil
    go_simp
    refine hK _ _ trivial ?_
    clear hK K
    intro _
    refine wpAnyH_done (by kernel_rfl) ?_ _
    go_wp2
    go_end0
    exact ⟨rfl, _, _, _, I5, hu5, tu5, cfin, rfin⟩
  · refine AllReadyH.cons rfl (fun K hK => ?_) AllReadyH.nil
    refine wanted_of (by rfl) ?_
    refine wp_append_run _ _ 27 rfl _ _ rfl rfl Hr.out ?_
    refine hK _ _ trivial ?_
    clear hK K
    intro _
    simp only [Act.put, List.setIfInBounds_toArray, List.set_cons_zero, List.set_cons_succ]
    refine wpAnyH_ready (rs := [4, 7]) (by kernel_rfl) (by simp) ?_
    refine AllReadyH.cons rfl (fun K hK => ?_) ?_
    · go_simp
      refine hK _ _ trivial ?_
      clear hK K
      intro _
      refine wpAnyH_ready (rs := [7]) (by kernel_rfl) (by simp) ?_
      refine AllReadyH.cons rfl (fun K hK => ?_) AllReadyH.nil
      go_simp
      refine hK _ _ trivial ?_
      clear hK K
      intro _
      refine wpAnyH_ready (rs := [8]) (by kernel_rfl) (by simp) ?_
      refine AllReadyH.cons rfl (fun K hK => ?_) AllReadyH.nil
      refine wanted_of (by rfl) ?_
      refine wp_append_run _ _ 32 rfl _ _ rfl rfl Hr2.out ?_
      refine hK _ _ trivial ?_
      clear hK K
      intro _
      simp only [Act.put, List.setIfInBounds_toArray, List.set_cons_zero, List.set_cons_succ]
      refine wpAnyH_ready (rs := [9]) (by kernel_rfl) (by simp) ?_
      refine AllReadyH.cons rfl (fun K hK => ?_) AllReadyH.nil
      go_simp
      refine hK _ _ trivial ?_
      clear hK K
      intro _
      refine wpAnyH_ready (rs := [10]) (by kernel_rfl) (by simp) ?_
      refine AllReadyH.cons rfl (fun K hK => ?_) AllReadyH.nil
      go_simp
      refine hK _ _ trivial ?_
      clear hK K
      intro _
      refine wpAnyH_ready (rs := [11]) (by kernel_rfl) (by simp) ?_
      refine AllReadyH.cons rfl (fun K hK => ?_) AllReadyH.nil
      go_simp
      refine hK _ _ trivial ?_
      clear hK K
      intro _
      refine wpAnyH_done (by kernel_rfl) ?_ _
      go_wp2
      go_end0
      exact ⟨rfl, _, _, _, I5, hu5, tu5, cfin, rfin⟩
    · refine AllReadyH.cons rfl (fun K hK => ?_) AllReadyH.nil
      go_simp
      refine hK _ _ trivial ?_
      clear hK K
      intro _
      refine wpAnyH_ready (rs := [4]) (by kernel_rfl) (by simp) ?_
      refine AllReadyH.cons rfl (fun K hK => ?_) AllReadyH.nil
      go_simp
      refine hK _ _ trivial ?_
      clear hK K
      intro _
      refine wpAnyH_ready (rs := [8]) (by kernel_rfl) (by simp) ?_
      refine AllReadyH.cons rfl (fun K hK => ?_) AllReadyH.nil
      refine wanted_of (by rfl) ?_
      refine wp_append_run _ _ 32 rfl _ _ rfl rfl Hr2.out ?_
      refine hK _ _ trivial ?_
      clear hK K
      intro _
      simp only [Act.put, List.setIfInBounds_toArray, List.set_cons_zero, List.set_cons_succ]
      refine wpAnyH_ready (rs := [9]) (by kernel_rfl) (by simp) ?_
      refine AllReadyH.cons rfl (fun K hK => ?_) AllReadyH.nil
      go_simp
      refine hK _ _ trivial ?_
      clear hK K
      intro _
      refine wpAnyH_ready (rs := [10]) (by kernel_rfl) (by simp) ?_
      refine AllReadyH.cons rfl (fun K hK => ?_) AllReadyH.nil
      go_simp
      refine hK _ _ trivial ?_
      clear hK K
      intro _
      refine wpAnyH_ready (rs := [11]) (by kernel_rfl) (by simp) ?_
      refine AllReadyH.cons rfl (fun K hK => ?_) AllReadyH.nil
      go_simp
      refine hK _ _ trivial ?_
      clear hK K
      intro _
      refine wpAnyH_done (by kernel_rfl) ?_ _
      go_wp2
      go_end0
      exact ⟨rfl, _, _, _, I5, hu5, tu5, cfin, rfin⟩

end Go.Proofs.YtakbfoegkjaphaaGreatDoor

namespace Go.Proofs.YtakbfoegkjaphaaGreatDoor
open Go.RowKit

/-- n times the text m. -/
def reps (n : Nat) (m : ByteArray) : List Value := List.replicate n (.string m)

/-- A list of the family of v: k longer, in the same row or in one of its own. -/
structure Fam (B : Nat) (w : World) (tag : Nat → Nat) (t : Nat) (v : Value) (n : Nat) (m : ByteArray) (k : Nat) (u : Value) : Prop where
  row : RowT B w tag t 9 1 u (n + k) (reps (n + k) m)
  lies : (∃ g cap, v = .slice (some ⟨g, 0, none⟩) n cap ∧ u = .slice (some ⟨g, 0, none⟩) (n + k) cap) ∨ u.ownBlock ≠ v.ownBlock

theorem Fam.chg {B : Nat} {w w' : World} {tag : Nat → Nat} {t : Nat} {v : Value} {n : Nat} {m : ByteArray} {k : Nat} {u : Value} {S : List Nat} (h : Fam B w tag t v n m k u) (hc : Chg tag S w w') (ht : t ∉ S) : Fam B w' tag t v n m k u := ⟨h.row.chg hc ht, h.lies⟩

theorem own_shorter {w : World} {B : Nat} {e : TypeId} {g n n' cap : Nat} {xs : List Value} (h : w.ownsRow B e 1 (.slice (some ⟨g, 0, none⟩) n' cap) n' xs) (hn : n ≤ n') : w.ownsRow B e 1 (.slice (some ⟨g, 0, none⟩) n cap) n (xs.take n) := by
  have hl := h.1
  rcases h.2 with ⟨h', _⟩ | ⟨g', cap', cur, h', hb, hg, hnc, hcm, hcs, htake⟩
  · cases h'
  · simp only [Value.slice.injEq, Option.some.injEq, Addr.mk.injEq, and_true, true_and] at h'
    obtain ⟨rfl, rfl⟩ := h'
    refine ⟨by rw [List.length_take]; omega, .inr ⟨g, cap, cur, rfl, hb, hg, by omega, hcm, hcs, ?_⟩⟩
    rw [← htake, List.take_take]
    congr 1
    omega

theorem reps_take (n k : Nat) (m : ByteArray) (h : k ≤ n) : (reps n m).take k = reps k m := by
  unfold reps
  rw [List.take_replicate]
  congr 1
  omega
theorem reps_app (n k : Nat) (m : ByteArray) : reps n m ++ reps k m = reps (n + k) m := by
  unfold reps
  rw [← List.replicate_append_replicate]

theorem fam_append (w : World) (B : Nat) (tag : Nat → Nat) (t : Nat) (v : Value) (n : Nat) (m : ByteArray) (j : Nat) (ty : TypeId) (ad : Addr) (cc : Nat) (own : RowT B w tag t 9 1 v n (reps n m)) (hj : 0 < j)
    (hnews : ∀ i u, (reps j m)[i]? = some u → w.cell? (ad.add i) = some u) (hn : n + j ≤ 2000) (hB : B ≤ w.heap.size) (hnew : tag w.heap.size = t) :
    ∃ v' w', (Builtin.append_ #[27, 27] ty #[v, .slice (some ad) j cc]).run Tryz.prog w = .ok v' w' ∧ (∃ o cap, v' = .slice o (n + j) cap) ∧ RowT B w' tag t 9 1 v n (reps n m) ∧ Fam B w' tag t v n m j v' ∧
      (∀ k u, k ≤ j → Fam B w tag t v n m k u → Fam B w' tag t v n m k u) ∧ Chg tag [t] w w' := by
  obtain ⟨i0, hi, hz0, hz1, hz2⟩ := info_parts info9
  have hbytes : (n + j) * 16 ≤ 140737488355328 := by omega
  have h63 : n + j ≤ maxLen := by unfold maxLen; omega
  have h1 : ∀ u ∈ reps j m, u.oneCell' = true := by intro u hu; unfold reps at hu; rw [List.mem_replicate] at hu; rw [hu.2]; rfl
  have hlen : (reps j m).length = j * 1 := by simp [reps]
  obtain ⟨v', w', hr, hown, hgr, hnl, hw⟩ := run_append_own_at (P := Tryz.prog) w B 27 ty 9 i0 (.string ⟨#[]⟩) 1 16 Tryz.underlying27 hi hz0 hz1 hz2 rfl (by decide) v n (reps n m) own.own ad j cc (reps j m) hlen hnews h1 h63 hbytes hB
  rw [reps_app] at hown
  have hchg : Chg tag [t] w w' := Chg.grown hgr (fun k hk => by rw [own.tg k hk]; simp)
  have htg : Tg tag v' t := by
    intro g hg
    rcases hw with h | h
    · rw [h] at hg; exact own.tg g hg
    · rw [h] at hg
      obtain rfl : w.heap.size = g := by simpa using hg
      exact hnew
  have hform : ∃ o cap, v' = .slice o (n + j) cap := own_form hown
  -- a new row: nothing that was there is turned
  have fresh : v'.ownBlock = some w.heap.size → w.grownBy w' none → ∃ v' w', (Builtin.append_ #[27, 27] ty #[v, .slice (some ad) j cc]).run Tryz.prog w = .ok v' w' ∧ (∃ o cap, v' = .slice o (n + j) cap) ∧ RowT B w' tag t 9 1 v n (reps n m) ∧ Fam B w' tag t v n m j v' ∧
      (∀ k u, k ≤ j → Fam B w tag t v n m k u → Fam B w' tag t v n m k u) ∧ Chg tag [t] w w' := by
    intro hb hg0
    have c0 : Chg tag [] w w' := Chg.grown hg0 (fun k hk => by cases hk)
    refine ⟨v', w', hr, hform, own.chg c0 (by simp), ⟨⟨hown, htg⟩, .inr ?_⟩, fun k u _ hu => hu.chg c0 (by simp), hchg⟩
    intro e
    rw [hb] at e
    have := (own.own.lt _ e.symm).2
    omega
  rcases own.own.2 with ⟨hv, hn0⟩ | ⟨g, cap, cur, hv, hbg, hg, hnc, hcm, hcs, htake⟩
  · subst hv
    refine fresh ?_ ⟨hgr.os, hgr.tape, hgr.output, hgr.size, fun k hk _ => hgr.block k hk (by simp [Value.ownBlock])⟩
    rcases hw with h | h
    · exfalso
      rcases hown.2 with ⟨_, h'⟩ | ⟨g, cap, cur, h', _⟩
      · omega
      · rw [h'] at h; simp [Value.ownBlock] at h
    · exact h
  · subst hv
    by_cases hroom : n + j ≤ cap
    · have hfit : n * i0.size + (reps j m).length ≤ cur.size := by rw [hz1, hlen, hcs]; omega
      have hr2 := run_append_room (P := Tryz.prog) w 27 ty 9 i0 Tryz.underlying27 hi g n cap cur hg ad j cc (reps j m) (by rw [hz1]; exact hlen) hnews h1 hroom hfit
      rw [hr] at hr2
      have hv' : v' = .slice (some ⟨g, 0, none⟩) (n + j) cap := by injection hr2
      subst hv'
      have keepv : RowT B w' tag t 9 1 (.slice (some ⟨g, 0, none⟩) n cap) n (reps n m) := ⟨by have := own_shorter (n := n) hown (by omega); rwa [reps_take _ _ _ (by omega)] at this, own.tg⟩
      refine ⟨_, w', hr, hform, keepv, ⟨⟨hown, htg⟩, .inl ⟨g, cap, rfl, rfl⟩⟩, fun k u hk hu => ?_, hchg⟩
      rcases hu.lies with ⟨g', cap', e1, e2⟩ | hne
      · simp only [Value.slice.injEq, Option.some.injEq, Addr.mk.injEq, and_true, true_and] at e1
        obtain ⟨rfl, rfl⟩ := e1
        subst e2
        refine ⟨⟨?_, hu.row.tg⟩, .inl ⟨g, cap, rfl, rfl⟩⟩
        have := own_shorter (n := n + k) hown (by omega)
        rwa [reps_take _ _ _ (by omega)] at this
      · exact ⟨⟨hu.row.own.kept hgr (.inr hne), hu.row.tg⟩, .inr hne⟩
    · have holds : ∀ j u, (reps n m)[j]? = some u → w.cell? ((⟨g, 0, none⟩ : Addr).add j) = some u := own.own.cells (g := g) rfl
      have hr2 := run_append_grow (P := Tryz.prog) w 27 ty 9 i0 (.string ⟨#[]⟩) Tryz.underlying27 hi hz0 ⟨g, 0, none⟩ n cap (reps n m) (by rw [hz1]; simp [reps]) holds ad j cc (reps j m) (by rw [hz1]; exact hlen) hnews (by omega) (by omega) (by rw [hz2]; exact growslice_fits (by omega) hbytes)
      rw [hr] at hr2
      injection hr2 with e1 e2
      subst e1
      refine fresh rfl ?_
      rw [e2]
      exact ⟨rfl, rfl, rfl, by simp, fun k hk _ => Below.heap_alloc w.drew _ k hk⟩

theorem wpList_append_fam {w : World} {ops : Array Oper} {rest : List Oper} {o : Oper} {a : Act} {Q : Exit → Act → World → Prop} (hgd : o.guard = none) (s x : Operand)
    (ho : o.op = .call { callee := .builtin .append, args := #[s, x], argTypes := #[27, 27] }) (B : Nat) (tag : Nat → Nat) (t : Nat) (v : Value) (n : Nat) (m : ByteArray) (j : Nat) (ad : Addr) (cc : Nat) (hs : a.eval s = v) (hx : a.eval x = .slice (some ad) j cc)
    (own : RowT B w tag t 9 1 v n (reps n m)) (hj : 0 < j) (hnews : ∀ i u, (reps j m)[i]? = some u → w.cell? (ad.add i) = some u) (hn : n + j ≤ 2000) (hB : B ≤ w.heap.size) (hnew : tag w.heap.size = t)
    (h : ∀ o' cap' w', RowT B w' tag t 9 1 v n (reps n m) → Fam B w' tag t v n m j (.slice o' (n + j) cap') → (∀ k u, k ≤ j → Fam B w tag t v n m k u → Fam B w' tag t v n m k u) → Chg tag [t] w w' → wpList Tryz.prog ops Q rest (a.put o.dst (.slice o' (n + j) cap')) w') :
    wpList Tryz.prog ops Q (o :: rest) a w := by
  obtain ⟨v', w', hr, ⟨o', cap', rfl⟩, h1, h2, h3, h4⟩ := fam_append w B tag t v n m j o.type ad cc own hj hnews hn hB hnew
  exact wpList_append_run hgd s x 27 ho _ _ hs hx hr (h o' cap' w' h1 h2 h3 h4)

end Go.Proofs.YtakbfoegkjaphaaGreatDoor

