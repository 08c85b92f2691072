import Derived.Deep.AppendSrc
import Derived.Laws.Append
import Derived.Deep.Upon
import Derived.Test.YtmolfmgchbjnbaaGreatDoorM10
set_option linter.unusedSimpArgs false
set_option linter.unusedVariables false
namespace Go.Proofs.YtmolfmgchbjnbaaGreatDoor.Ev
open Go
section
variable {P : Program} {G : Nat} {m : Mp} {h : AH} {w : World}
structure But (w w' : World) (b : Nat) : Prop where
 os : w'.os = w.os
 tape : w'.tape = w.tape
 output : w'.output = w.output
 size : w'.heap.size = w.heap.size
 blk : ∀ q, q ≠ b → w'.heap[q]? = w.heap[q]?
theorem But.refl (w : World) (b : Nat) : But w w b := ⟨rfl, rfl, rfl, rfl, fun _ _ => rfl⟩
theorem But.trans {w1 w2 w3 : World} {b : Nat} (h : But w1 w2 b) (k : But w2 w3 b) : But w1 w3 b := ⟨k.os.trans h.os, k.tape.trans h.tape, k.output.trans h.output, k.size.trans h.size, fun q hq => (k.blk q hq).trans (h.blk q hq)⟩
theorem But.setCell (w : World) (b o : Nat) (v : Value) : But w (w.setCell ⟨b, o, none⟩ v) b := ⟨rfl, rfl, rfl, by simp [World.setCell], fun q hq => by simp [World.setCell, Array.getElem?_modify, Ne.symm hq]⟩
theorem setCells_heap (b : Nat) (e : TypeId) (fr : Nat × Nat) : ∀ (vs : List Value) (o : Nat) (w : World) (c : Array Value), w.heap[b]? = some (.cells c e fr) → o + vs.length ≤ c.size →
    But w (w.setCells b o vs) b ∧ ∃ c', (w.setCells b o vs).heap[b]? = some (.cells c' e fr) ∧ c'.size = c.size ∧ c'.toList = c.toList.take o ++ (vs ++ c.toList.drop (o + vs.length))
  | [], o, w, c, hc, hle => ⟨.refl w b, c, hc, rfl, by simp⟩
  | v :: r, o, w, c, hc, hle => by
    simp only [List.length_cons] at hle
    have h1 : (w.setCell ⟨b, o, none⟩ v).heap[b]? = some (.cells (c.setIfInBounds o v) e fr) := by
      simp [World.setCell, Array.getElem?_modify, hc]
    obtain ⟨k1, c', k2, k3, k4⟩ := setCells_heap b e fr r (o + 1) (w.setCell ⟨b, o, none⟩ v) (c.setIfInBounds o v) h1 (by simp; omega)
    refine ⟨(But.setCell w b o v).trans k1, c', k2, by simpa using k3, ?_⟩
    rw [k4]
    have := set_range (v :: r) o 0 c (by simp; omega)
    have hlt : o < c.toList.length := by simp; omega
    simp only [Array.toList_setIfInBounds]
    have e1 : (c.toList.set o v).take (o + 1) = c.toList.take o ++ [v] := by
      rw [List.take_set, List.take_add_one]
      simp only [List.getElem?_eq_getElem hlt, Option.toList_some]
      rw [List.set_append_right _ _ (by simp; omega)]
      have : o - (c.toList.take o).length = 0 := by simp; omega
      rw [this]
      simp
    have e2 : (c.toList.set o v).drop (o + 1 + r.length) = c.toList.drop (o + (r.length + 1)) := by
      rw [List.drop_set_of_lt (by omega), show o + 1 + r.length = o + (r.length + 1) by omega]
    rw [e1, e2]
    simp
theorem one_cell {v : Value} (h : one1 v = true) : v.oneCell' = true := by cases v <;> first | rfl | simp [one1] at h
theorem Rel.turn (R : Rel P G m h w) {b : Nat} {x : MB} (hm : m b = some (some x)) (hk : ∀ o, h.get b = some o → o.k ≠ 3) {w' : World} {o : AO} (hO : Ob P m o x w') (hB : But w w' x.b) : Rel P G m (h.set b o) w' ∧ Ext m m h (h.set b o) w w' := by
  have hb : b < h.n := (R.row b x hm).1
  have hb4 : b < 4096 := Nat.lt_of_lt_of_le hb R.lim
  have hoff : ∀ r, r ≠ b → (h.set b o).get r = h.get r := fun r hr => by rw [AH.get_set hb4, if_neg hr]
  refine ⟨⟨by rw [AH.set_n]; exact R.lim, fun r y e => ?_, fun r e => ?_, R.inj, R.glo, fun r hr => by rw [AH.set_n] at hr; rw [hoff r (by omega)]; exact R.top r hr⟩, ⟨.refl m, by rw [AH.set_n]; omega, fun r hr e => ⟨e, hoff r (by rintro rfl; rw [hm] at e; cases e)⟩, fun r y e => .inl e, fun r o' ho' hk' => by rw [hoff r (by rintro rfl; exact hk o' ho' hk')]; exact ho', hB.os, hB.tape, hB.output, by rw [hB.size]; omega, fun q hq hn => hB.blk q (fun e => by
      obtain ⟨o', ho', hk'⟩ := hn b x hm e.symm
      exact hk o' ho' hk')⟩⟩
  · by_cases c : r = b
    · subst c
      rw [hm] at e
      cases e
      refine ⟨by rw [AH.set_n]; exact hb, by rw [hB.size]; exact (R.row r x hm).2.1, o, by rw [AH.get_set hb4, if_pos rfl], hO⟩
    · obtain ⟨h1, h2, q, h3, h4⟩ := R.row r y e
      exact ⟨by rw [AH.set_n]; exact h1, by rw [hB.size]; exact h2, q, by rw [hoff r c]; exact h3, h4.mono (.refl m) (hB.blk y.b (fun eb => c (R.inj r b y x e hm eb)))⟩
  · have c : r ≠ b := by rintro rfl; rw [hm] at e; cases e
    obtain ⟨h1, h2⟩ := R.dead r e
    exact ⟨by rw [AH.set_n]; exact h1, fun q hq => h2 q (by rw [← hoff r c]; exact hq)⟩
theorem ObRow.patch {xs l new new' : List Value} {e : TypeId} {es : List (Value × Value)} {x : MB} (hO : ObRow P m ⟨1, xs, e, es⟩ x w) {off : Nat} (hp : patch xs off new = some l) (hn : L2 (S1 m) new new') :
    But w (w.setCells x.b (off + x.s) new') x.b ∧ Ob P m ⟨1, l, e, []⟩ x (w.setCells x.b (off + x.s) new') := by
  obtain ⟨hz, c, lo, hi, h1, h2, h3, h4, h5⟩ := hO
  obtain ⟨e1, hle⟩ := patch_ok hp
  have h4 : x.s + xs.length ≤ c.size := h4
  obtain ⟨k1, c', k2, k3, k4⟩ := setCells_heap x.b e (lo, hi) new' (off + x.s) w c h1 (by rw [← hn.1]; omega)
  refine ⟨k1, .inl ⟨rfl, hz, c', lo, hi, k2, k3.trans h2, by rw [k3]; exact h3, ?_, fun i v hv => ?_⟩⟩
  · show x.s + l.length ≤ c'.size
    rw [k3, e1]
    simp
    omega
  · have hv : l[i]? = some v := hv
    rw [e1] at hv
    have hc' : ∀ j : Nat, c'[j]? = c'.toList[j]? := fun j => by rw [Array.getElem?_toList]
    rw [hc', k4]
    by_cases c1 : i < off
    · rw [List.getElem?_append_left (by simp; omega), List.getElem?_take, if_pos c1] at hv
      obtain ⟨v', q1, q2⟩ := h5 i v hv
      exact ⟨v', by rw [List.getElem?_append_left (by simp; omega), List.getElem?_take, if_pos (by omega)]; simpa using q1, q2⟩
    · have l1 : (xs.take off).length = off := by simp; omega
      have l2 : (c.toList.take (off + x.s)).length = off + x.s := by simp; omega
      rw [List.getElem?_append_right (by omega), l1] at hv
      by_cases c2 : i - off < new.length
      · rw [List.getElem?_append_left c2] at hv
        obtain ⟨v', q1, q2⟩ := hn.at hv
        refine ⟨v', ?_, q2⟩
        rw [List.getElem?_append_right (by omega), l2, List.getElem?_append_left (by rw [← hn.1]; omega), show x.s + i - (off + x.s) = i - off by omega]
        exact q1
      · rw [List.getElem?_append_right (by omega), List.getElem?_drop] at hv
        rw [show off + new.length + (i - off - new.length) = i by omega] at hv
        obtain ⟨v', q1, q2⟩ := h5 i v hv
        refine ⟨v', ?_, q2⟩
        rw [List.getElem?_append_right (by omega), l2, List.getElem?_append_right (by rw [← hn.1]; omega), List.getElem?_drop, ← hn.1, show off + x.s + new.length + (x.s + i - (off + x.s) - new.length) = x.s + i by omega]
        simpa using q1
theorem ObRow.there {xs : List Value} {e : TypeId} {es : List (Value × Value)} {x : MB} (hO : ObRow P m ⟨1, xs, e, es⟩ x w) {i : Nat} (hi : i < x.N) : (w.cell? ⟨x.b, i, none⟩).isSome = true := by
 obtain ⟨hz, c, lo, hi', h1, h2, h3, h4, h5⟩ := hO
 simp [World.cell?, h1]
 omega
theorem ObRow.room {xs : List Value} {e : TypeId} {es : List (Value × Value)} {x : MB} (hO : ObRow P m ⟨1, xs, e, es⟩ x w) : x.s + xs.length ≤ x.N := by
 obtain ⟨hz, c, lo, hi', h1, h2, h3, h4, h5⟩ := hO
 have h4 : x.s + xs.length ≤ c.size := h4
 omega
def Wrote (P : Program) (G : Nat) (m : Mp) (h : AH) (w : World) (r : Value × AH) (v' : Value) (w' : World) : Prop := ∃ m', Rel P G m' r.2 w' ∧ Ext m m' h r.2 w w' ∧ S3 m' r.1 v'
theorem store_ok (R : Rel P G m h w) {t : TypeId} {v v' p p' : Value} (hv : S3 m v v') (hp : S3 m p p') {r : Value × AH} (hr : wStore P h t v p = some r) : ∃ w', (Instr.storeAt t p' v').run P w = .ok () w' ∧ Wrote P G m h w r undef w' := by
 unfold wStore at hr
 split at hr
 ·rename_i b off
  obtain ⟨a, rfl, ha⟩ := hp.ptr
  unfold storeR at hr
  split at hr
  ·rename_i xs e hrow
   obtain ⟨n, hn, hr⟩ := bind_some hr
   cases hb : (Nat.beq v.cells.toList.length n && v.cells.toList.all one1) with
   | false => rw [hb] at hr; cases hr
   | true =>
    rw [hb] at hr
    simp only [cond_true] at hr
    obtain ⟨l, hl, hr⟩ := bind_some hr
    simp only [wrote, Option.some.injEq] at hr
    subst hr
    simp only [Bool.and_eq_true] at hb
    obtain ⟨b1, b2⟩ := hb
    have b1 := Nat.eq_of_beq_eq_true b1
    obtain ⟨x, es, hm, rfl, hg, hO, -⟩ := R.ad hrow ha
    have hc := hv.cells b2
    obtain ⟨e1, hle⟩ := patch_ok hl
    have hroom := hO.room
    obtain ⟨k1, k2⟩ := hO.patch hl hc
    obtain ⟨R', E'⟩ := R.turn hm (fun o ho => by rw [hg] at ho; cases ho; simp) k2 k1
    refine ⟨_, ?_, m, R', E', undef_s3⟩
    have hone : ∀ u ∈ v'.cells.toList, u.oneCell' = true := fun u hu => by
     obtain ⟨j, hj⟩ := List.getElem?_of_mem hu
     have hlt : j < v.cells.toList.length := by rw [hc.1]; exact (List.getElem?_eq_some_iff.1 hj).1
     exact one_cell (hc.2 j _ u (List.getElem?_eq_getElem hlt) hj).one.2
    have hst := run_storeCells_cells (P := P) x.b (off + x.s) v'.cells.toList 0 w (fun j hj => hO.there (by rw [← hc.1] at hj; omega)) (fun j hj => hO.thaw (by rw [← hc.1] at hj; omega)) hone
    simp only [Nat.add_zero] at hst
    have hsz : v'.cells.size = n := by
     have : v'.cells.size = v'.cells.toList.length := by simp
     rw [this, ← hc.1, b1]
    simp [Instr.storeAt, Instr.sureAddr, storeVar, size_ok hn, hsz, hst]
  ·cases hr
 ·cases hr
end
section
variable {P : Program} {G : Nat} {m : Mp} {h : AH} {w : World}
theorem setK_none {i v : Value} (hf : flat2 i = true) : ∀ {es : List (Value × Value)}, findK i es = none → setK i v es = es ++ [(i, v)]
  | [], _ => rfl
  | (k, u) :: l, h => by
    simp only [findK] at h
    cases hb : veq k i with
    | true => simp [hb] at h
    | false =>
      simp only [hb, cond_false] at h
      simp [setK, hb, setK_none hf h]
theorem setK_at {i v u : Value} (hf : flat2 i = true) : ∀ {es : List (Value × Value)} {j : Nat}, (es.map (·.1)).Nodup → es[j]? = some (i, u) → setK i v es = es.set j (i, v)
  | [], j, _, h => by simp at h
  | (k, q) :: l, 0, _, h => by
    simp at h
    obtain ⟨rfl, rfl⟩ := h
    simp [setK, veq_refl hf]
  | (k, q) :: l, j + 1, hn, h => by
    simp at h
    simp only [List.map_cons, List.nodup_cons] at hn
    have : veq k i = false := by
      cases hb : veq k i with
      | false => rfl
      | true =>
        have e := veq_eq hb
        subst e
        exact absurd (List.mem_map.2 ⟨_, List.mem_of_getElem? h, rfl⟩) hn.1
    simp [setK, this, setK_at hf hn.2 h]
theorem But.setObj (w : World) (b : Nat) (o : Obj) : But w { w with heap := w.heap.setIfInBounds b o } b := ⟨rfl, rfl, rfl, by simp, fun q hq => by simp [Array.getElem?_setIfInBounds_ne (Ne.symm hq)]⟩
theorem update_ok (R : Rel P G m h w) {t : TypeId} {mv mv' k k' v v' : Value} (hm : S3 m mv mv') (hk : S3 m k k') (hv : S3 m v v') {r : Value × AH} (hr : wUpdate P h t mv k v = some r) : ∃ w', (Instr.mapUpdate t mv' k' v').run P w = .ok () w' ∧ Wrote P G m h w r undef w' := by
  unfold wUpdate at hr
  obtain ⟨ke, hke, hr⟩ := bind_some hr
  have hu := mapT_ok hke
  unfold wMap at hr
  split at hr
  · rename_i b
    cases hb : (keyT P ke.1 && isKeyV P ke.1 k && one1 v) with
    | false => rw [hb] at hr; cases hr
    | true =>
      rw [hb] at hr
      simp only [cond_true] at hr
      simp only [Bool.and_eq_true] at hb
      obtain ⟨⟨b1, b2⟩, b3⟩ := hb
      obtain ⟨es, hes, hr⟩ := bind_some hr
      simp only [Option.some.injEq] at hr
      subst hr
      have hkf := b2
      unfold isKeyV at hkf
      simp only [Bool.and_eq_true] at hkf
      obtain ⟨f1, f2⟩ := hkf
      rw [flat2_eq f1 hk]
      obtain ⟨q, rfl, hq⟩ := hm.mapS
      rcases hq with hq | ⟨x, hq, rfl⟩
      · obtain ⟨x, xs, e0, -⟩ := R.liveMap hes hq
        cases e0
      · obtain ⟨x', xs, e0, hg, ⟨es', cl, h1, h2, h3⟩, -, -⟩ := R.liveMap hes hq
        cases e0
        simp only at h2 h3
        obtain ⟨lx, hlx⟩ := Option.isSome_iff_exists.1 f2
        have hchk := fun em => (keyT_ok b1).check w em hlx
        have hget : (getObj x.b).run P w = .ok (.map es' cl) w := by simp [getObj, Sem.run, h1]
        have hset : ∀ o : Obj, (setObj x.b o).run P w = .ok () { w with heap := w.heap.setIfInBounds x.b o } := fun o => by simp [setObj, Sem.run, h1]
        have hlt : x.b < w.heap.size := (Array.getElem?_eq_some_iff.1 h1).1
        have hv1 := hv.s1 b3
        rcases find_ok (w := w) b1 b2 h2 h3 with ⟨g1, g2, g3⟩ | ⟨u, j, en, g1, g0, g2, g3, g4, g5⟩
        · have hO : Ob P m (AO.map ke.1 (setK k v es)) x { w with heap := w.heap.setIfInBounds x.b (.map (es'.push ⟨k, v', cl⟩) (cl + 1)) } := by
            refine .inr (.inl ⟨rfl, es'.push ⟨k, v', cl⟩, cl + 1, by simp [hlt], ?_, ?_⟩)
            · simp only [AO.map, setK_none f1 g1, Array.toList_push]
              exact h2.append (.cons ⟨rfl, f2, hv1⟩ .nil)
            · simp only [AO.map, setK_none f1 g1, List.map_append, List.map_cons, List.map_nil]
              refine List.nodup_append.2 ⟨h3, by simp, fun a ha b hb => ?_⟩
              simp at hb
              subst hb
              rintro rfl
              obtain ⟨p, hp, e⟩ := List.mem_map.1 ha
              exact findK_none f1 g1 p hp e
          obtain ⟨R', E'⟩ := R.turn hq (fun o ho => by rw [hg] at ho; cases ho; simp) hO (But.setObj w x.b _)
          exact ⟨_, by simp [Instr.mapUpdate, run_underlying hu, hget, hchk, g2, hset], m, R', E', undef_s3⟩
        · have hjl : j < es'.size := by have := (List.getElem?_eq_some_iff.1 g3).1; simpa using this
          have hO : Ob P m (AO.map ke.1 (setK k v es)) x { w with heap := w.heap.setIfInBounds x.b (.map (es'.modify j fun e => { e with key := k, val := v' }) cl) } := by
            refine .inr (.inl ⟨rfl, es'.modify j fun e => { e with key := k, val := v' }, cl, by simp [hlt], ?_, ?_⟩)
            · simp only [AO.map, setK_at f1 h3 g0]
              refine ⟨by simp [h2.1], fun i p e hp he => ?_⟩
              rw [Array.toList_modify, List.getElem?_modify] at he
              by_cases c : j = i
              · subst c
                rw [g3] at he
                simp at he
                subst he
                have hjl' : j < es.length := by rw [h2.1]; simpa using hjl
                rw [List.getElem?_set_self hjl'] at hp
                cases hp
                exact ⟨rfl, f2, hv1⟩
              · rw [List.getElem?_set_ne c] at hp
                simp only [c, if_false, id_eq, Option.map_eq_map, Option.map_id'] at he
                have he' : es'.toList[i]? = some e := by simpa using he
                exact h2.2 i p e hp he'
            · simp only [AO.map, setK_at f1 h3 g0]
              have : (es.set j (k, v)).map (·.1) = es.map (·.1) := by
                apply List.ext_getElem?
                intro i
                rw [List.getElem?_map, List.getElem?_map]
                by_cases c : j = i
                · subst c
                  have hjl' : j < es.length := by rw [h2.1]; simpa using hjl
                  rw [List.getElem?_set_self hjl', g0]
                  rfl
                · rw [List.getElem?_set_ne c]
              rw [this]
              exact h3
          obtain ⟨R', E'⟩ := R.turn hq (fun o ho => by rw [hg] at ho; cases ho; simp) hO (But.setObj w x.b _)
          have hkey : (es'[j]?.map (·.key)).getD k = k := by
            have : es'[j]? = some en := by simpa using g3
            simp [this, g4]
          have hst := (keyT_ok b1).stays w hlx
          exact ⟨_, by simp [Instr.mapUpdate, run_underlying hu, hget, hchk, g2, hset, hkey, hst], m, R', E', undef_s3⟩
  · cases hr
theorem conv2_ok (R : Rel P G m h w) {s d : TypeId} {v v' : Value} (hv : S3 m v v') {r : Value × AH} (hr : wConv P h s d v = some r) : ∃ w', (convert s d v').run P w = .ok v' w' ∧ Wrote P G m h w r v' w' := by
  unfold wConv at hr
  obtain ⟨e, he, hr1⟩ := bind_some hr
  clear hr
  cases hb : (Nat.beq s d && isByte P e) with
  | false => rw [hb] at hr1; cases hr1
  | true =>
    rw [hb] at hr1
    simp only [cond_true] at hr1
    simp only [Bool.and_eq_true] at hb
    have hsd := Nat.eq_of_beq_eq_true hb.1
    subst hsd
    have hu := elemT_ok he
    have hue := isByte_ok hb.2
    unfold wBytes at hr1
    split at hr1
    · rename_i a n c
      obtain ⟨p, hp, rfl⟩ := map_some hr1
      obtain ⟨xs, e'⟩ := p
      obtain ⟨a', c', rfl, c1, c2, c3⟩ := hv.sl
      obtain ⟨b, off, sp⟩ := a
      have hsp : sp = none := c3.1
      subst hsp
      obtain ⟨x, es, hm, rfl, hN, hg, hO, hlt, hbn⟩ := R.sl hp c3
      have hO' := hO
      obtain ⟨hz, cc, lo, hi, h1, h2, h3, h4, h5⟩ := hO'
      have hsh : w.shape? x.b = some (e', cc.size) := by simp [World.shape?, h1]
      let w' : World := w.freeze ⟨x.b, cc.size, none⟩ 1
      have hw' : w' = w.freeze ⟨x.b, cc.size, none⟩ 1 := rfl
      have hB : But w w' x.b := ⟨by simp [hw', World.freeze], by simp [hw', World.freeze], by simp [hw', World.freeze], by simp [hw', World.freeze], fun q hq => by simp [hw', World.freeze, Array.getElem?_modify, Ne.symm hq]⟩
      have hOb : Ob P m ⟨1, xs, e', es⟩ x w' := by
        have h1 : w.heap[x.b]? = some (.cells cc e' (lo, hi)) := h1
        by_cases q : lo = hi
        · have : w'.heap[x.b]? = some (.cells cc e' (cc.size, cc.size + 1)) := by simp [hw', World.freeze, Array.getElem?_modify, h1, q]
          exact .inl ⟨rfl, hz, cc, _, _, this, h2, .inr (Nat.le_refl _), h4, h5⟩
        · have : w'.heap[x.b]? = some (.cells cc e' (min lo cc.size, max hi (cc.size + 1))) := by simp [hw', World.freeze, Array.getElem?_modify, h1, q]
          exact .inl ⟨rfl, hz, cc, _, _, this, h2, .inr (by omega), h4, h5⟩
      obtain ⟨R', E'⟩ := R.turn hm (fun o ho => by rw [hg] at ho; cases ho; simp) hOb hB
      refine ⟨w', ?_, m, ?_⟩
      · simp [convert, run_underlying hu, run_underlying hue, markStringish, hsh, hw']
      · have hsame : ∀ q, (h.set b ⟨1, xs, e', es⟩).get q = h.get q := fun q => by
          rw [AH.get_set (Nat.lt_of_lt_of_le hbn R.lim)]
          split
          · rename_i e0; rw [e0, hg]
          · rfl
        have Rh : Rel P G m h w' := ⟨R.lim, fun q y ey => by obtain ⟨u1, u2, o, u3, u4⟩ := R'.row q y ey; exact ⟨by rw [AH.set_n] at u1; exact u1, u2, o, by rw [← hsame q]; exact u3, u4⟩, R.dead, R.inj, R.glo, R.top⟩
        exact ⟨Rh, ⟨.refl m, Nat.le_refl _, fun q _ e0 => ⟨e0, rfl⟩, fun q y e0 => .inl e0, fun _ _ z _ => z, E'.os, E'.tape, E'.output, E'.size, E'.blk⟩, hv⟩
    · cases hr1
theorem Rel.kill (R : Rel P G m h w) {b : Nat} {x : MB} (hm : m b = some (some x)) (hk : ∀ o, h.get b = some o → o.k ≠ 3) (hG : G ≤ b) : Rel P G (m.put b none) (h.set b AO.dead) w ∧ Ext m (m.put b none) h (h.set b AO.dead) w w ∧ ∀ r y, m.put b none r = some (some y) → y.b ≠ x.b := by
  have hb : b < h.n := (R.row b x hm).1
  have hb4 : b < 4096 := Nat.lt_of_lt_of_le hb R.lim
  have hoff : ∀ r, r ≠ b → (h.set b AO.dead).get r = h.get r := fun r hr => by rw [AH.get_set hb4, if_neg hr]
  have hle : Le m (m.put b none) := fun r => by
    by_cases c : r = b
    · subst c
      exact ⟨fun _ => Mp.put_same m r none, fun _ _ => .inr (Mp.put_same m r none)⟩
    · exact ⟨fun e => by rw [Mp.put_off m _ c]; exact e, fun y e => .inl (by rw [Mp.put_off m _ c]; exact e)⟩
  have back : ∀ r y, m.put b none r = some (some y) → r ≠ b ∧ m r = some (some y) := fun r y e => by
    by_cases c : r = b
    · subst c; rw [Mp.put_same] at e; cases e
    · exact ⟨c, by rw [Mp.put_off m _ c] at e; exact e⟩
  refine ⟨⟨by rw [AH.set_n]; exact R.lim, fun r y e => ?_, fun r e => ?_, fun r r' y y' e e' eb => R.inj r r' y y' (back r y e).2 (back r' y' e').2 eb, fun g hg => ?_, fun r hr => by rw [AH.set_n] at hr; rw [hoff r (by omega)]; exact R.top r hr⟩, ⟨hle, by rw [AH.set_n]; omega, fun r hr e => ?_, fun r y e => .inl (back r y e).2, fun r o' ho' hk' => by rw [hoff r (by rintro rfl; exact hk o' ho' hk')]; exact ho', rfl, rfl, rfl, Nat.le_refl _, fun q _ _ => rfl⟩, fun r y e eb => (back r y e).1 (R.inj r b y x (back r y e).2 hm eb)⟩
  · obtain ⟨c, e⟩ := back r y e
    obtain ⟨h1, h2, q, h3, h4⟩ := R.row r y e
    exact ⟨by rw [AH.set_n]; exact h1, h2, q, by rw [hoff r c]; exact h3, h4.mono hle rfl⟩
  · by_cases c : r = b
    · subst c
      exact ⟨by rw [AH.set_n]; exact hb, fun o ho => by rw [AH.get_set hb4, if_pos rfl] at ho; cases ho; rfl⟩
    · rw [Mp.put_off m _ c] at e
      obtain ⟨h1, h2⟩ := R.dead r e
      exact ⟨by rw [AH.set_n]; exact h1, fun q hq => h2 q (by rw [← hoff r c]; exact hq)⟩
  · obtain ⟨y, e, e1, e2⟩ := R.glo g hg
    exact ⟨y, by rw [Mp.put_off m _ (by omega)]; exact e, e1, e2⟩
  · have c : r ≠ b := by rintro rfl; rw [hm] at e; cases e
    exact ⟨by rw [Mp.put_off m _ c]; exact e, hoff r c⟩
theorem Rel.other (R : Rel P G m h w) {q : Nat} {w' : World} (hB : But w w' q) (hq : ∀ r y, m r = some (some y) → y.b ≠ q) : Rel P G m h w' :=
 ⟨R.lim, fun r y e => by obtain ⟨h1, h2, o, h3, h4⟩ := R.row r y e; exact ⟨h1, by rw [hB.size]; exact h2, o, h3, h4.mono (.refl m) (hB.blk y.b (hq r y e))⟩, R.dead, R.inj, R.glo, R.top⟩
theorem Rel.adopt (R : Rel P G m h w) {r : Nat} (hr : r < h.n) (hm : m r = none) {o : AO} (ho : h.get r = some o) {x : MB} (hx : x.b < w.heap.size) (hq : ∀ r y, m r = some (some y) → y.b ≠ x.b) (hO : ∀ m', Le m m' → Ob P m' o x w) : Rel P G (m.put r (some x)) h w := by
 have hle := Mp.put_le (some x) hm
 refine ⟨R.lim, fun q y e => ?_, fun q e => ?_, fun q q' y y' e e' eb => ?_, fun g hg => ?_, R.top⟩
 ·by_cases c : q = r
  ·subst c
   rw [Mp.put_same] at e
   cases e
   exact ⟨hr, hx, o, ho, hO _ hle⟩
  ·rw [Mp.put_off m _ c] at e
   obtain ⟨h1, h2, q', h3, h4⟩ := R.row q y e
   exact ⟨h1, h2, q', h3, h4.mono hle rfl⟩
 ·by_cases c : q = r
  ·subst c; rw [Mp.put_same] at e; cases e
  ·rw [Mp.put_off m _ c] at e; exact R.dead q e
 ·by_cases c : q = r
  ·by_cases c' : q' = r
   ·rw [c, c']
   ·subst c
    rw [Mp.put_same] at e
    cases e
    rw [Mp.put_off m _ c'] at e'
    exact absurd eb.symm (hq q' y' e')
  ·rw [Mp.put_off m _ c] at e
   by_cases c' : q' = r
   ·subst c'
    rw [Mp.put_same] at e'
    cases e'
    exact absurd eb (hq q y e)
   ·rw [Mp.put_off m _ c'] at e'
    exact R.inj q q' y y' e e' eb
 ·obtain ⟨y, e, e1, e2⟩ := R.glo g hg
  have : g ≠ r := by rintro rfl; rw [hm] at e; cases e
  exact ⟨y, by rw [Mp.put_off m _ this]; exact e, e1, e2⟩
theorem tail_ok (R : Rel P G m h w) {z k : Nat} {new : List Value} {t : TypeId} {x x' : Value} (hx : S3 m x x') (ht : srcOk P t x = true) (hv : aTail h z x = some (k, new)) : ∃ new', Src P z t x' k new' w ∧ L2 (S1 m) new new' ∧ new.length = k * z := by
 unfold aTail at hv
 split at hv
 ·rename_i k' c
  cases hb : Nat.beq k' 0 with
  | false => rw [hb] at hv; cases hv
  | true =>
   rw [hb] at hv
   simp only [cond_true, Option.some.injEq, Prod.mk.injEq] at hv
   obtain ⟨rfl, rfl⟩ := hv
   have := Nat.eq_of_beq_eq_true hb
   subst this
   rw [hx.slN]
   obtain ⟨e, he⟩ := isSliceT_ok (P := P) (t := t) ht
   exact ⟨[], Src.ofNil w he c, .nil, by simp⟩
 ·rename_i b off k' c
  obtain ⟨a, c', rfl, -, -, hs⟩ := hx.sl
  unfold tailR at hv
  split at hv
  ·rename_i xs e hr
   obtain ⟨l, hl, hv⟩ := bind_some hv
   simp only [Option.some.injEq, Prod.mk.injEq] at hv
   obtain ⟨rfl, rfl⟩ := hv
   obtain ⟨x, es, hm, rfl, -, hg, hO, -⟩ := R.sl hr hs
   obtain ⟨l', h1, h2⟩ := hO.cut hl
   obtain ⟨e', he⟩ := isSliceT_ok (P := P) (t := t) ht
   have hlen := (cut_ok hl).2.1
   exact ⟨l', Src.ofSlice w he _ _ _ l' (by rw [← h1.1]; exact hlen) h2 (fun u hu => by
    obtain ⟨j, hj⟩ := List.getElem?_of_mem hu
    have hlt : j < l.length := by rw [h1.1]; exact (List.getElem?_eq_some_iff.1 hj).1
    exact one_cell (h1.2 j _ u (List.getElem?_eq_getElem hlt) hj).one.2), h1, hlen⟩
  ·cases hv
 ·rename_i s
  cases hb : Nat.beq z 1 with
  | false => rw [hb] at hv; cases hv
  | true =>
   rw [hb] at hv
   simp only [cond_true, Option.some.injEq, Prod.mk.injEq] at hv
   obtain ⟨rfl, rfl⟩ := hv
   have := Nat.eq_of_beq_eq_true hb
   subst this
   rw [hx.string]
   have hu : P.underlying t = some .string := isStr_ok ht
   refine ⟨byteCells s, ?_, ?_, by simp⟩
   ·have := Src.ofString w hu s
    have e : s.size = s.data.toList.length := by simp
    rw [← e]; exact this
   ·exact flats_l2 (List.all_eq_true.2 fun q hq => by
     obtain ⟨b, -, rfl⟩ := List.mem_map.1 hq
     rfl)
 ·cases hv
theorem zeroCells_size (z : Array Value) (n : Nat) : (Builtin.zeroCells z n).size = n * z.size := by simp [Builtin.zeroCells]
end
end Go.Proofs.YtmolfmgchbjnbaaGreatDoor.Ev
