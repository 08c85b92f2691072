import Derived.Test.YtmolfmgchbjnbaaGreatDoorM11
set_option linter.unusedSimpArgs false
set_option linter.unusedVariables false
namespace Go.Proofs.YtmolfmgchbjnbaaGreatDoor.Ev
open Go
section
variable {P : Program} {G : Nat} {m : Mp} {h : AH} {w : World}
theorem grownCap_ge (w : World) (need old : Nat) (e : TypeId) : need ≤ grownCap w need old e := by simp [grownCap, Question.cut]
theorem grow_ok (R : Rel P G m h w) (hn : h.n < 4096) {t t' ty e : TypeId} {i : TypeInfo} {zv : Value} (ht : P.underlying t = some (.slice e)) (hi : P.info? e = some i) (hz : i.zero = some zv) (hzs : zv.cells.size = i.size) (hby : i.bytes ≤ 1048576) {base : Option Addr} {n cap k : Nat} {old old' new new' : List Value} {x' : Value}
  (hold : (Builtin.firstCells i.size n (.slice base n cap)).run P w.drew = .ok old'.toArray w.drew) (hol : L2 (S1 m) old old') (hold2 : old.length = n * i.size) (hs : Src P i.size t' x' k new' w) (hnl : L2 (S1 m) new new') (hnew2 : new.length = k * i.size) (hg : cap < n + k) (hlim : n + k ≤ 1048576) :
  ∃ v' w', (Builtin.append_ #[t, t'] ty #[.slice base n cap, x']).run P w = .ok v' w' ∧ ∃ m', Rel P G m' (h.new (AO.row e (old ++ new))) w' ∧ Ext m m' h (h.new (AO.row e (old ++ new))) w w' ∧ S3 m' (sliceTo (n + k) (n + k) h.n) v' := by
 have hfit : Builtin.nextslicecap (n + k) cap * i.bytes ≤ 281474976710656 := growslice_fits hg (Nat.le_trans (Nat.mul_le_mul hlim hby) (by decide))
 have hrun := run_append_grow_src (P := P) w t t' ty e i zv ht hi hz base n cap old' hold x' k new' hs hg (by omega) hfit
 have hcap := grownCap_ge w (n + k) cap e
 generalize grownCap w (n + k) cap e = nc at hrun hcap
 generalize hc : (old' ++ new').toArray ++ Builtin.zeroCells zv.cells (nc - (n + k)) = c at hrun
 have hsz : c.size = nc * i.size := by
  rw [← hc]
  simp only [Array.size_append, List.size_toArray, List.length_append, zeroCells_size, hzs, ← hol.1, ← hnl.1, hold2, hnew2]
  rw [← Nat.add_mul, ← Nat.add_mul]
  congr 1
  omega
 refine ⟨_, _, hrun, ?_⟩
 have R1 : Rel P G m h w.drew := R.heap rfl
 obtain ⟨R2, E2⟩ := R1.newA hn (AO.row e (old ++ new))
 have hm0 : m h.n = none := R.none_at (Nat.le_refl _)
 have hO : ∀ m', Le m m' → Ob P m' (AO.row e (old ++ new)) ⟨w.drew.heap.size, 0, c.size, i.size⟩ (World.more w.drew (.cells c e (0, 0))) := by
  intro m' hm
  have hl := hol.append hnl
  refine .inl ⟨rfl, by simp [sizeT, AO.row, hi], c, 0, 0, (by show (w.drew.heap.push (.cells c e (0, 0)))[w.drew.heap.size]? = _; exact Array.getElem?_push_size), rfl, .inl rfl, ?_, fun j v hv => ?_⟩
  ·show 0 + (old ++ new).length ≤ c.size
   rw [List.length_append, hold2, hnew2, hsz, ← Nat.add_mul, Nat.zero_add]
   exact Nat.mul_le_mul_right _ hcap
  ·obtain ⟨y, hy, s⟩ := hl.at (show (old ++ new)[j]? = some v from hv)
   refine ⟨y, ?_, s.mono hm⟩
   have hj := (List.getElem?_eq_some_iff.1 hy).1
   rw [Nat.zero_add, ← Array.getElem?_toList, ← hc, Array.toList_append, List.getElem?_append_left (by simpa using hj)]
   simpa using hy
 obtain ⟨R3, L3, B3⟩ := R2.newB (r := h.n) (by rw [AH.new_n]; omega) hm0 (o := AO.row e (old ++ new)) (by rw [AH.get_new hn, if_pos rfl]) (O := .cells c e (0, 0)) (x := ⟨w.drew.heap.size, 0, c.size, i.size⟩) rfl hO
 refine ⟨m.put h.n (some ⟨w.drew.heap.size, 0, c.size, i.size⟩), R3, ⟨L3, E2.nn, fun r hr e0 => ?_, fun r y e0 => ?_, E2.tab, rfl, rfl, rfl, (by show w.heap.size ≤ (w.drew.heap.push _).size; simp), fun b hb _ => B3 b hb⟩, ?_⟩
 ·exact ⟨by rw [Mp.put_off m _ (by omega)]; exact e0, (E2.keep r hr e0).2⟩
 ·by_cases c0 : r = h.n
  ·subst c0
   rw [Mp.put_same] at e0
   cases e0
   exact .inr ⟨Nat.le_refl _, .inl ⟨Nat.le_refl _, rfl⟩⟩
  ·rw [Mp.put_off m _ c0] at e0
   exact .inl e0
 ·exact S0.s3 (v := .slice (some _) _ _) (v' := .slice (some _) _ _) ⟨rfl, hcap, fun q => by omega, rfl, rfl, .inr ⟨_, Mp.put_same m h.n _, rfl, rfl, by simp [hsz]⟩⟩
theorem infoOk_ok {i : TypeInfo} (hi : infoOk i = true) : i.bytes ≤ 1048576 ∧ 0 < i.size ∧ ∃ zv, i.zero = some zv ∧ zv.cells.size = i.size := by
 unfold infoOk at hi
 simp only [Bool.and_eq_true] at hi
 obtain ⟨⟨h1, h2⟩, h3⟩ := hi
 refine ⟨Nat.le_of_ble_eq_true h1, by simpa [Nat.blt_eq] using h2, ?_⟩
 unfold zeroOk at h3
 split at h3
 ·rename_i zv hz
  simp only [Bool.and_eq_true] at h3
  exact ⟨zv, hz, by have := Nat.eq_of_beq_eq_true h3.1; simpa using this⟩
 ·cases h3
theorem append_ok (R : Rel P G m h w) {t t' ty : TypeId} {s s' x x' : Value} (hs : S3 m s s') (hx : S3 m x x') (ht' : srcOk P t' x = true) {r : Value × AH} (hr : aAppend P G h t s x = some r) : ∃ v' w', (Builtin.append_ #[t, t'] ty #[s', x']).run P w = .ok v' w' ∧ Wrote P G m h w r v' w' := by
  unfold aAppend at hr
  split at hr
  case h_2 => cases hr
  case h_1 =>
  rename_i base n cap
  obtain ⟨e, he, hr1⟩ := bind_some hr
  obtain ⟨i, hi, hr2⟩ := bind_some hr1
  clear hr hr1
  have hu := elemT_ok he
  unfold appI at hr2
  cases hio : infoOk i with
  | false => rw [hio] at hr2; cases hr2
  | true =>
    rw [hio] at hr2
    simp only [cond_true] at hr2
    obtain ⟨⟨k, new⟩, htl, hr3⟩ := bind_some hr2
    clear hr2
    obtain ⟨hby, hpos, zv, hz, hzs⟩ := infoOk_ok hio
    obtain ⟨new', hsrc, hnl, hnlen⟩ := tail_ok R hx ht' htl
    simp only [appK] at hr3
    cases hroom : Nat.ble (n + k) cap with
    | true =>
      rw [hroom] at hr3
      simp only [cond_true] at hr3
      have hle := Nat.le_of_ble_eq_true hroom
      unfold appIn at hr3
      split at hr3
      · cases hk : Nat.beq k 0 with
        | false => rw [hk] at hr3; cases hr3
        | true =>
          rw [hk] at hr3
          simp only [cond_true, Option.some.injEq] at hr3
          subst hr3
          have hk0 := Nat.eq_of_beq_eq_true hk
          subst hk0
          have hn0 : new' = [] := by
            have := hnl.1
            rw [hnlen] at this
            simp at this
            exact List.eq_nil_of_length_eq_zero this.symm
          subst hn0
          rw [hs.slN]
          exact ⟨_, w, run_append_nothing w t t' ty e i hu hi none n cap (by omega) x' hsrc, m, R, .refl m h w, S0.s3 (v := .slice none n cap) (v' := .slice none n cap) ⟨rfl, rfl⟩⟩
      · rename_i b off
        obtain ⟨a, cap', rfl, c1, c2, c3⟩ := hs.sl
        unfold appInR at hr3
        split at hr3
        · rename_i xs e' hrow
          cases hee : Nat.beq e' e with
          | false => rw [hee] at hr3; cases hr3
          | true =>
            rw [hee] at hr3
            simp only [cond_true] at hr3
            have ee := Nat.eq_of_beq_eq_true hee
            subst ee
            obtain ⟨l, hl, hr4⟩ := bind_some hr3
            simp only [wrote, Option.some.injEq, mkSl_eq] at hr4
            subst hr4
            obtain ⟨x0, es, hm, rfl, hN, hg, hO, -⟩ := R.sl hrow c3
            obtain ⟨e1, hle1⟩ := patch_ok hl
            have hroomO := hO.room
            obtain ⟨k1, k2⟩ := hO.patch hl hnl
            obtain ⟨R', E'⟩ := R.turn hm (fun o ho => by rw [hg] at ho; cases ho; simp) k2 k1
            have eoff : off + x0.s + n * i.size = off + n * i.size + x0.s := by omega
            have hrun := run_append_room_src (P := P) w t t' ty e' i hu hi x0.b (off + x0.s) n cap' x' k new' hsrc (by omega) (fun j hj => by rw [eoff]; exact hO.there (by rw [← hnl.1] at hj; omega)) (fun j hj => by rw [eoff]; exact hO.thaw (by rw [← hnl.1] at hj; omega))
            rw [eoff] at hrun
            exact ⟨_, _, hrun, m, R', E', S0.s3 (v := .slice (some _) _ _) (v' := .slice (some _) _ _) ⟨rfl, c1, c2, c3⟩⟩
        · cases hr3
      · cases hr3
    | false =>
      rw [hroom] at hr3
      simp only [cond_false] at hr3
      have hgt : cap < n + k := by
        rcases Nat.lt_or_ge cap (n + k) with q | q
        · exact q
        · rw [Nat.ble_eq_true_of_le q] at hroom; cases hroom
      cases hlm : (Nat.ble (n + k) 1048576 && Nat.blt h.n 4096) with
      | false => rw [hlm] at hr3; cases hr3
      | true =>
        rw [hlm] at hr3
        simp only [cond_true] at hr3
        simp only [Bool.and_eq_true] at hlm
        have hlim := Nat.le_of_ble_eq_true hlm.1
        have hn : h.n < 4096 := by simpa [Nat.blt_eq] using hlm.2
        unfold appTo at hr3
        split at hr3
        · cases hn0 : Nat.beq n 0 with
          | false => rw [hn0] at hr3; cases hr3
          | true =>
            rw [hn0] at hr3
            simp only [cond_true, fresh, Option.some.injEq] at hr3
            subst hr3
            have hn0 := Nat.eq_of_beq_eq_true hn0
            subst hn0
            rw [hs.slN]
            obtain ⟨v', w', r1, m', r2, r3, r4⟩ := grow_ok R hn (ty := ty) hu hi hz hzs hby (base := none) (n := 0) (cap := cap) (old := []) (old' := []) (run_firstCells_none w.drew i.size 0 0 cap) .nil (by simp) hsrc hnl hnlen hgt hlim
            simp only [List.nil_append, Nat.zero_add] at r1 r2 r3 r4
            exact ⟨v', w', r1, m', r2, r3, r4⟩
        · rename_i b off
          obtain ⟨a, cap', rfl, c1, c2, c3⟩ := hs.sl
          unfold appToR at hr3
          split at hr3
          · rename_i xs e' hrow
            cases hee : (Nat.beq e' e && Nat.ble G b && Nat.ble n cap && Nat.beq off 0) with
            | false => rw [hee] at hr3; cases hr3
            | true =>
              rw [hee] at hr3
              simp only [cond_true] at hr3
              simp only [Bool.and_eq_true] at hee
              have ee := Nat.eq_of_beq_eq_true hee.1.1.1
              subst ee
              have hG := Nat.le_of_ble_eq_true hee.1.1.2
              have hnc := Nat.le_of_ble_eq_true hee.1.2
              have hoff := Nat.eq_of_beq_eq_true hee.2
              obtain ⟨old, hold, hr4⟩ := bind_some hr3
              obtain ⟨x0, es, hm, rfl, hN, hg, hO, hxb, hbn⟩ := R.sl hrow c3
              obtain ⟨old', ho1, ho2⟩ := hO.cut hold
              obtain ⟨eold, hlold, hleold⟩ := cut_ok hold
              have hfc : (Builtin.firstCells i.size n (.slice (some ⟨x0.b, off + x0.s, none⟩) n cap')).run P w.drew = .ok old'.toArray w.drew := run_firstCells_some w.drew i.size n _ n cap' old' (by rw [← ho1.1]; exact hlold) (by simpa using ho2)
              unfold appOld at hr4
              split at hr4
              · simp only [fresh, Option.some.injEq] at hr4
                subst hr4
                have hn0 : n = 0 := by omega
                subst hn0
                have hc0 : cap' = 0 := c2 rfl
                subst hc0
                have hoe : old = [] := by simp at hlold; exact hlold
                subst hoe
                have hoe' := ho1.nil_left
                subst hoe'
                obtain ⟨v', w', r1, m', r2, r3, r4⟩ := grow_ok R hn (ty := ty) hu hi hz hzs hby (n := 0) (cap := 0) hfc .nil (by simp) hsrc hnl hnlen hgt hlim
                simp only [List.nil_append, Nat.zero_add] at r1 r2 r3 r4
                exact ⟨v', w', r1, m', r2, r3, r4⟩
              · rename_i cap0
                simp only [fresh, AH.set_n, Option.some.injEq] at hr4
                subst hr4
                have hk3 : ∀ o, h.get b = some o → o.k ≠ 3 := fun o ho => by rw [hg] at ho; cases ho; simp
                obtain ⟨RK, EK, NK⟩ := R.kill hm hk3 hG
                have hle := EK.le
                by_cases hin : n + k ≤ cap'
                · -- it stays where it is
                  have ez : x0.z = i.size := by
                    have := hO.1
                    simp [sizeT, hi] at this
                    exact this.symm
                  have hb1 : (n + k) * i.size ≤ cap' * i.size := Nat.mul_le_mul_right _ hin
                  rw [Nat.add_mul] at hb1
                  rw [ez] at hN
                  have hrun := run_append_room_src (P := P) w t t' ty e' i hu hi x0.b (off + x0.s) n cap' x' k new' hsrc hin (fun j hj => hO.there (by rw [← hnl.1, hnlen] at hj; omega)) (fun j hj => hO.thaw (by rw [← hnl.1, hnlen] at hj; omega))
                  refine ⟨_, _, hrun, ?_⟩
                  obtain ⟨hzO, c, lo, hi', q1, q2, q3, q4, q5⟩ := hO
                  have q1 : w.heap[x0.b]? = some (.cells c e' (lo, hi')) := q1
                  obtain ⟨k1, c', k2, k3, k4⟩ := setCells_heap x0.b e' (lo, hi') new' (off + x0.s + n * i.size) w c q1 (by rw [← hnl.1, hnlen]; omega)
                  have RO := RK.other k1 NK
                  have hnset : (h.set b AO.dead).n < 4096 := by rw [AH.set_n]; exact hn
                  obtain ⟨RA, EA⟩ := RO.newA hnset (AO.row e' (old ++ new))
                  have hm0 : m.put b none h.n = none := by
                    rw [Mp.put_off m _ (by omega)]
                    exact R.none_at (Nat.le_refl _)
                  have hOb : ∀ m', Le (m.put b none) m' → Ob P m' (AO.row e' (old ++ new)) ⟨x0.b, off + x0.s, x0.N, x0.z⟩ (w.setCells x0.b (off + x0.s + n * i.size) new') := by
                    intro m' hm'
                    refine .inl ⟨rfl, hzO, c', lo, hi', k2, k3.trans q2, by rw [k3]; exact q3, ?_, fun j v hv => ?_⟩
                    · show off + x0.s + (old ++ new).length ≤ c'.size
                      rw [k3, List.length_append, hlold, hnlen]
                      omega
                    · have hv : (old ++ new)[j]? = some v := hv
                      show ∃ v', c'[off + x0.s + j]? = some v' ∧ _
                      rw [← Array.getElem?_toList, k4]
                      have lt1 : (c.toList.take (off + x0.s + n * i.size)).length = off + x0.s + n * i.size := by simp; omega
                      by_cases cj : j < n * i.size
                      · rw [List.getElem?_append_left (by omega)] at hv
                        obtain ⟨y, hy, sy⟩ := ho1.at hv
                        refine ⟨y, ?_, (sy.mono hle).mono hm'⟩
                        rw [List.getElem?_append_left (by omega), List.getElem?_take, if_pos (by omega)]
                        have := ho2 j y hy
                        rw [add_off] at this
                        simpa [World.cell?, q1] using this
                      · rw [List.getElem?_append_right (by omega), hlold] at hv
                        obtain ⟨y, hy, sy⟩ := hnl.at hv
                        refine ⟨y, ?_, (sy.mono hle).mono hm'⟩
                        have hjl := (List.getElem?_eq_some_iff.1 hy).1
                        rw [List.getElem?_append_right (by omega), lt1, List.getElem?_append_left (by omega), show off + x0.s + j - (off + x0.s + n * i.size) = j - n * i.size by omega]
                        exact hy
                  have RF := RA.adopt (r := h.n) (by rw [AH.new_n, AH.set_n]; omega) hm0 (o := AO.row e' (old ++ new)) (by rw [AH.get_new hnset, AH.set_n, if_pos rfl]) (x := ⟨x0.b, off + x0.s, x0.N, x0.z⟩) (by show x0.b < _; rw [k1.size]; exact hxb) NK hOb
                  refine ⟨_, RF, ⟨hle.trans (Mp.put_le _ hm0), Nat.le_trans EK.nn EA.nn, fun r hr e0 => ?_, fun r y e0 => ?_, fun r o' z z' => EA.tab r o' (EK.tab r o' z z') z', k1.os, k1.tape, k1.output, by rw [k1.size]; omega, fun q hq hnq => k1.blk q (fun eb => by
                    obtain ⟨o', z, z'⟩ := hnq b x0 hm eb.symm
                    exact hk3 o' z z')⟩, ?_⟩
                  · obtain ⟨g1, g2⟩ := EK.keep r hr e0
                    obtain ⟨g3, g4⟩ := EA.keep r (by rw [AH.set_n]; exact hr) g1
                    exact ⟨by rw [Mp.put_off _ _ (by omega)]; exact g1, g4.trans g2⟩
                  · by_cases c0 : r = h.n
                    · subst c0
                      rw [Mp.put_same] at e0
                      cases e0
                      exact .inr ⟨Nat.le_refl _, .inr ⟨b, x0, hm, rfl, (by show x0.s = off + x0.s; omega), hk3⟩⟩
                    · rw [Mp.put_off _ _ c0] at e0
                      rcases EK.new r y e0 with q | ⟨q, -⟩
                      · exact .inl q
                      · exact .inl (by
                          by_cases cb : r = b
                          · subst cb; rw [Mp.put_same] at e0; cases e0
                          · rw [Mp.put_off m _ cb] at e0; exact e0)
                  · exact S0.s3 (v := .slice (some _) _ _) (v' := .slice (some _) _ _) ⟨rfl, hin, fun q => by omega, rfl, rfl, .inr ⟨_, Mp.put_same _ h.n _, rfl, by simp, by rw [ez]; exact hN⟩⟩
                · have hnset : (h.set b AO.dead).n < 4096 := by rw [AH.set_n]; exact hn
                  obtain ⟨v', w', r1, m', r2, r3, r4⟩ := grow_ok RK hnset (ty := ty) hu hi hz hzs hby hfc (ho1.mono fun _ _ s => s.mono hle) hlold hsrc (hnl.mono fun _ _ s => s.mono hle) hnlen (by omega) hlim
                  rw [AH.set_n] at r4
                  exact ⟨v', w', r1, m', r2, EK.trans r3, r4⟩
          · cases hr3
        · cases hr3
theorem aWrite_ok (R : Rel P G m h w) {a : AA} {t : Array Value} (hs : SlO m a t) (ds : List Deferred) {o : Oper} {f : Wt} (hf : aWrite P G o.op = some f) {r : Value × AH} (hv : f a h = some r) : ∃ n w' v', (execOp (⟨t, ds⟩ : Act).eval o).run P w = .ok n w' ∧ (n = .value v' ∨ (n = .skip ∧ v' = undef)) ∧ Wrote P G m h w r v' w' := by
 obtain ⟨dst, op, type, pos, after, guard⟩ := o
 simp only at hf
 cases op <;> simp only [aWrite] at hf <;> try (cases hf; done)
 case store ty x y =>
  obtain ⟨gx, ex, hf1⟩ := bind_some hf
  obtain ⟨gy, ey, rfl⟩ := map_some hf1
  obtain ⟨xv, e1, hv1⟩ := bind_some hv
  obtain ⟨yv, e2, hv2⟩ := bind_some hv1
  obtain ⟨w', r1, r2⟩ := store_ok R (opnd_ok R ey hs e2 ds) (opnd_ok R ex hs e1 ds) hv2
  exact ⟨.skip, w', undef, by simp [execOp, r1], .inr ⟨rfl, rfl⟩, r2⟩
 case mapUpdate ty x k y =>
  obtain ⟨gx, ex, hf1⟩ := bind_some hf
  obtain ⟨gk, ek, hf2⟩ := bind_some hf1
  obtain ⟨gy, ey, rfl⟩ := map_some hf2
  obtain ⟨xv, e1, hv1⟩ := bind_some hv
  obtain ⟨kv, e2, hv2⟩ := bind_some hv1
  obtain ⟨yv, e3, hv3⟩ := bind_some hv2
  obtain ⟨w', r1, r2⟩ := update_ok R (opnd_ok R ex hs e1 ds) (opnd_ok R ek hs e2 ds) (opnd_ok R ey hs e3 ds) hv3
  exact ⟨.skip, w', undef, by simp [execOp, r1], .inr ⟨rfl, rfl⟩, r2⟩
 case convert src dt x =>
  obtain ⟨gx, ex, rfl⟩ := map_some hf
  obtain ⟨xv, e1, hv1⟩ := bind_some hv
  obtain ⟨w', r1, r2⟩ := conv2_ok R (opnd_ok R ex hs e1 ds) hv1
  exact ⟨.value _, w', _, by simp only [execOp]; exact run_value r1, .inl rfl, r2⟩
 case call c =>
  obtain ⟨callee, args, ats⟩ := c
  simp only at hf
  unfold wCall at hf
  split at hf
  ·rename_i b
   simp only at hf
   obtain ⟨l, e, hf1⟩ := bind_some hf
   unfold wBuilt at hf1
   split at hf1
   ·cases hf1
    obtain ⟨vs, e1, hv1⟩ := bind_some hv
    have ha := args_ok R hs ds e e1
    unfold wAppend at hv1
    split at hv1
    ·rename_i t1 t2 s x hts
     cases hso : srcOk P t2 x with
     | false => rw [hso] at hv1; cases hv1
     | true =>
      rw [hso] at hv1
      simp only [cond_true] at hv1
      obtain ⟨s', r1, q1, hs1, ha1⟩ := ha.cons_left
      obtain ⟨x', r2, q2, hx1, ha2⟩ := ha1.cons_left
      have q3 := ha2.nil_left
      subst q3
      subst q2
      have hargs : args.map (⟨t, ds⟩ : Act).eval = #[s', x'] := by
       apply Array.ext'
       rw [map_toList]
       exact q1
      have hats : ats = #[t1, t2] := Array.ext' hts
      obtain ⟨v', w', u1, u2⟩ := append_ok R (ty := type) hs1 hx1 hso hv1
      refine ⟨.value v', w', v', ?_, .inl rfl, u2⟩
      have hr : (execOp (⟨t, ds⟩ : Act).eval ⟨dst, .call ⟨.builtin .append, args, ats⟩, type, pos, after, guard⟩) = (builtin .append ats type (args.map fun | .const _ => true | _ => false) (args.map (⟨t, ds⟩ : Act).eval)) := rfl
      rw [hr, hargs, hats]
      simp only [builtin]
      exact run_value u1
    ·cases hv1
   ·cases hf1
  ·cases hf
end
section
variable {P : Program} {G : Nat}
abbrev EE := FuncId → List Value → AH → Option (Value × AH)
def EOk (P : Program) (G : Nat) (E : EE) : Prop := ∀ f args h r, E f args h = some r → (∃ fn, entered P f = some fn) ∧ ∀ m w args', Rel P G m h w → L2 (S3 m) args args'.toList → Calls P f args' w fun
 | .returned v', w' => Wrote P G m h w r v' w'
 | _, _ => False
section
variable {m : Mp} {h : AH} {w : World}
theorem entered_ok {f : FuncId} {fn : Func} (he : entered P f = some fn) : P.funcs[f]? = some fn ∧ (fn.name == "runtime.NumGoroutine") = false ∧ ∃ c, fn.body = some c := by
 unfold entered at he
 obtain ⟨fn', h1, h2⟩ := bind_some he
 unfold mayEnter at h2
 cases hb : (fn'.name == "runtime.NumGoroutine") with
 | true => rw [hb] at h2; cases h2
 | false =>
  rw [hb] at h2
  simp only [cond_false] at h2
  cases hc : fn'.body with
  | none => rw [hc] at h2; cases h2
  | some c =>
   rw [hc] at h2
   simp only [Option.isSome_some, cond_true, Option.some.injEq] at h2
   subst h2
   exact ⟨h1, hb, c, hc⟩
theorem made_wrote (R : Rel P G m h w) (hn : h.n < 4096) {p : AO × (Nat → Value)} {v' : Value} {O : Obj} (hM : Made P m p w v' O) : Wrote P G m h w (p.2 h.n, h.new p.1) v' (World.more w O) := by
 obtain ⟨R2, E2⟩ := R.newA hn p.1
 have hm0 : m h.n = none := R.none_at (Nat.le_refl _)
 obtain ⟨N, z, hO⟩ := hM.ob
 obtain ⟨R3, L3, B3⟩ := R2.newB (r := h.n) (by rw [AH.new_n]; omega) hm0 (o := p.1) (by rw [AH.get_new hn, if_pos rfl]) (O := O) (x := ⟨w.heap.size, 0, N, z⟩) rfl (fun m' hm' => (hO m' hm').1)
 refine ⟨_, R3, ⟨L3, E2.nn, fun r hr e0 => ⟨by rw [Mp.put_off m _ (by omega)]; exact e0, (E2.keep r hr e0).2⟩, fun r y e0 => ?_, E2.tab, rfl, rfl, rfl, (by show w.heap.size ≤ (w.heap.push _).size; simp), fun b hb _ => B3 b hb⟩, (hO _ L3).2 h.n (Mp.put_same m h.n _)⟩
 by_cases c0 : r = h.n
 ·subst c0
  rw [Mp.put_same] at e0
  cases e0
  exact .inr ⟨Nat.le_refl _, .inl ⟨Nat.le_refl _, rfl⟩⟩
 ·rw [Mp.put_off m _ c0] at e0
  exact .inl e0
theorem call_run {f : FuncId} {fn : Func} (he : entered P f = some fn) (ρ : Operand → Value) {o : Oper} {fo : Operand} {args : Array Operand} {ts : Array TypeId} (ho : o.op = .call ⟨.value fo, args, ts⟩) {x y : Array Value} (hf : ρ fo = .func (.func f) x y) (w : World) : (execOp ρ o).run P w = .ok (.enter f (x ++ args.map ρ ++ y)) w := by
 obtain ⟨h1, h2, c, h3⟩ := entered_ok he
 have h5 : fn.name ≠ "runtime.NumGoroutine" := by simpa using h2
 simp [execOp, ho, resolve, hf, Deferred.ofValue, invoke, callFunc, h1, h5, h3]
theorem exec_ok {E : EE} (HE : EOk P G E) (R : Rel P G m h w) {a : AA} {t : Array Value} (hs : SlO m a t) (ds : List Deferred) {o : Oper} {e : Exe} (he : execO P G o.op = some e) {r : Value × AH} (hv : e E a h = some r) {K : Act → World → Prop} {Q : Exit → Act → World → Prop}
    (hK : ∀ v' w', Wrote P G m h w r v' w' → K ((⟨t, ds⟩ : Act).put o.dst v') w') : o.wp P ⟨t, ds⟩ w K Q := by
  unfold execO execN at he
  split at he
  · obtain ⟨f, hf, rfl⟩ := map_some he
    obtain ⟨v, hv1, hv2⟩ := bind_some hv
    simp only [same, Option.some.injEq] at hv2
    subst hv2
    obtain ⟨v', r1, r2⟩ := aRead_ok R hs ds hf hv1
    unfold Oper.wp
    rw [r1]
    exact hK v' w ⟨m, R, .refl m h w, r2⟩
  · obtain ⟨f, hf, rfl⟩ := map_some he
    obtain ⟨p, hv1, hv2⟩ := bind_some hv
    unfold mkNew at hv2
    cases hb : Nat.blt h.n 4096 with
    | false => rw [hb] at hv2; cases hv2
    | true =>
      rw [hb] at hv2
      simp only [cond_true, Option.some.injEq] at hv2
      subst hv2
      obtain ⟨v', O, r1, r2⟩ := aNew_ok R hs ds hf hv1
      unfold Oper.wp
      rw [r1]
      exact hK v' _ (made_wrote R (by simpa [Nat.blt_eq] using hb) r2)
  · obtain ⟨f, hf, rfl⟩ := map_some he
    obtain ⟨n, w', v', r1, r2, r3⟩ := aWrite_ok R hs ds hf hv
    unfold Oper.wp
    rw [r1]
    rcases r2 with rfl | ⟨rfl, rfl⟩
    · exact hK v' w' r3
    · exact hK undef w' r3
  · obtain ⟨f, hf, rfl⟩ := map_some he
    obtain ⟨⟨fid, args⟩, hv1, hv2⟩ := bind_some hv
    simp only [enterE] at hv2
    obtain ⟨⟨fn, hen⟩, hcall⟩ := HE fid args h r hv2
    obtain ⟨dst, op, type, pos, after, guard⟩ := o
    cases op <;> simp only [aCall] at hf <;> try (cases hf; done)
    case call c _ _ _ =>
    obtain ⟨cal, as, ats⟩ := c
    unfold cCall at hf
    split at hf
    · rename_i fo heq
      simp only at heq
      subst heq
      obtain ⟨g, eg, hf1⟩ := bind_some hf
      obtain ⟨l, el, rfl⟩ := map_some hf1
      obtain ⟨fv, e1, hv3⟩ := bind_some hv1
      obtain ⟨vs, e2, hv4⟩ := bind_some hv3
      unfold callee at hv4
      split at hv4
      · rename_i f0 x0 y0
        simp only [Option.some.injEq, Prod.mk.injEq] at hv4
        obtain ⟨rfl, rfl⟩ := hv4
        obtain ⟨x', y', ef, hx, hy⟩ := (opnd_ok R eg hs e1 ds).func
        have ha := args_ok R hs ds el e2
        have hrun := call_run hen (⟨t, ds⟩ : Act).eval (o := ⟨dst, .call ⟨.value fo, as, ats⟩, type, pos, after, guard⟩) rfl ef w
        unfold Oper.wp
        rw [hrun]
        refine Calls.mono (hcall m w _ R ?_) ?_
        · have e : (x' ++ as.map (⟨t, ds⟩ : Act).eval ++ y').toList = x'.toList ++ (as.toList.map (⟨t, ds⟩ : Act).eval ++ y'.toList) := by simp
          rw [e]
          exact (hx.mono fun _ _ s => s.s3).append (ha.append (hy.mono fun _ _ s => s.s3))
        · rintro (v | ch | _) w' hh
          · exact hK v w' hh
          · exact hh.elim
          · exact hh.elim
      · cases hv4
    · cases hf
theorem S3.of_bool {v : Value} {b : Bool} (h : S3 m v (.bool b)) : v = .bool b := by
 rcases h with ((h | ⟨f, x, y, x', y', rfl, e, -⟩) | ⟨c, c', rfl, e, -⟩) | ⟨c, c', rfl, e, -⟩
 ·cases v <;> simp [S0] at h
  subst h; rfl
 ·cases e
 ·cases e
 ·cases e
theorem wanted_ok {ops : Array Oper} {o : Oper} {wn : Wn} (hw : wantedG ops o.guard = some wn) {a : AA} {b : Bool} (hb : wn a = some b) {t : Array Value} (hs : SlO m a t) : Region.wanted o (yielded ops t) = b := by
 unfold wantedG at hw
 unfold Region.wanted
 split at hw
 ·cases hw
  simp only [wnC, Option.some.injEq] at hb
  subst hb
  simp [*]
 ·rename_i j want hg
  rw [hg]
  simp only
  unfold wantedS at hw
  split at hw
  ·rename_i hd
   cases hw
   simp only [wnC, Option.some.injEq] at hb
   subst hb
   have : (ops[j]?).bind (·.dst) = none := hd
   simp [yielded, this]
  ·rename_i d hd
   obtain ⟨g, hg1, rfl⟩ := map_some hw
   obtain ⟨v, hv, hb1⟩ := bind_some hb
   rw [AA.get_form hg1] at hv
   have hv' := hs.val d v hv
   have hdd : (ops[j]?).bind (·.dst) = some d := hd
   unfold isB at hb1
   split at hb1
   ·rename_i b0
    simp only [Option.some.injEq] at hb1
    subst hb1
    have e := hv'.bool
    have hlt : d < t.size := by
     rcases Nat.lt_or_ge d t.size with q | q
     ·exact q
     ·simp [q, undef] at e
    have e2 : t[d]? = some (.bool b0) := by
     rw [Array.getElem?_eq_getElem hlt]
     simp [hlt] at e
     rw [e]
    simp [yielded, hdd, e2]
   ·rename_i hnb
    simp only [Option.some.injEq] at hb1
    subst hb1
    have : yielded ops t j = none := by
     unfold yielded
     rw [hdd]
     simp only [Option.bind_some]
     cases e2 : t[d]? with
     | none => rfl
     | some u =>
      cases u <;> try rfl
      rename_i b0
      have hlt := (Array.getElem?_eq_some_iff.1 e2).1
      have e3 : t.getD d undef = .bool b0 := by simp [e2]
      rw [e3] at hv'
      exact absurd hv'.of_bool (hnb b0)
    simp [this]
theorem stepO_ok {E : EE} (HE : EOk P G E) (R : Rel P G m h w) {a : AA} {t : Array Value} (hs : SlO m a t) (ds : List Deferred) {ops : Array Oper} {i : Nat} {o : Oper} (hi : ops[i]? = some o) {s : St} (hst : stepO P G ops o = some s) {a' : AA} {h' : AH} (hv : s E a h = some (a', h')) {K : Act → World → Prop} {Q : Exit → Act → World → Prop}
  (hK : ∀ m' w' t', Rel P G m' h' w' → Ext m m' h h' w w' → SlO m' a' t' → K ⟨t', ds⟩ w') : wpOp P ops Q i K ⟨t, ds⟩ w := by
 unfold stepO at hst
 obtain ⟨wn, hw, hst1⟩ := bind_some hst
 obtain ⟨e, he, hst2⟩ := bind_some hst1
 obtain ⟨p, hp, rfl⟩ := map_some hst2
 obtain ⟨b, hb, hv1⟩ := bind_some hv
 have hwan := wanted_ok hw hb hs
 unfold wpOp
 rw [hi]
 simp only
 unfold stB at hv1
 split at hv1
 ·obtain ⟨⟨v, h1⟩, hv2, hv3⟩ := bind_some hv1
  simp only [putR] at hv3
  obtain ⟨a1, hp1, hv4⟩ := bind_some hv3
  simp only [withH, Option.some.injEq, Prod.mk.injEq] at hv4
  obtain ⟨rfl, rfl⟩ := hv4
  rw [if_pos hwan]
  refine .inl (exec_ok HE R hs ds he hv2 fun v' w' hw' => ?_)
  obtain ⟨m', r1, r2, r3⟩ := hw'
  have := hK m' w' _ r1 r2 ((hs.mono r2.le).put hp hp1 r3 ds)
  cases hd : o.dst with
  | none => rw [hd] at this; exact this
  | some d => rw [hd] at this; exact this
 ·simp only [putR] at hv1
  obtain ⟨a1, hp1, hv4⟩ := bind_some hv1
  simp only [withH, Option.some.injEq, Prod.mk.injEq] at hv4
  obtain ⟨rfl, rfl⟩ := hv4
  rw [if_neg (by rw [hwan]; decide)]
  have := hK m w _ R (.refl m h w) (hs.put hp hp1 undef_s3 ds)
  cases hd : o.dst with
  | none => rw [hd] at this; exact this
  | some d => rw [hd] at this; exact this
end
theorem evOps_ok {E : EE} (HE : EOk P G E) {ops : Array Oper} {Q : Exit → Act → World → Prop} (ds : List Deferred) : ∀ (l : List Oper) (i : Nat) (a a' : AA) (h h' : AH), evOps P G E ops l a h = some (a', h') → ops.toList.drop i = l → ∀ m w t, Rel P G m h w → SlO m a t →
    (∀ m' w' t', Rel P G m' h' w' → Ext m m' h h' w w' → SlO m' a' t' → Q .normal ⟨t', ds⟩ w') → wpOps P ops Q (List.range' i l.length) ⟨t, ds⟩ w
  | [], i, a, a', h, h', he, hd, m, w, t, R, hs, hQ => by
    simp only [evOps, Option.some.injEq, Prod.mk.injEq] at he
    obtain ⟨rfl, rfl⟩ := he
    exact hQ m w t R (.refl m h w) hs
  | o :: l, i, a, a', h, h', he, hd, m, w, t, R, hs, hQ => by
    simp only [evOps] at he
    obtain ⟨⟨a1, h1⟩, he1, he2⟩ := bind_some he
    simp only [thenO] at he2
    have hi : ops[i]? = some o := by
      have : ops.toList[i]? = some o := by
        have := congrArg (·[0]?) hd
        simpa using this
      simpa using this
    have hd' : ops.toList.drop (i + 1) = l := by
      have := congrArg (List.drop 1) hd
      simpa [List.drop_drop, Nat.add_comm] using this
    unfold runS at he1
    split at he1
    · rename_i s hst
      show wpOps P ops Q (i :: List.range' (i + 1) l.length) ⟨t, ds⟩ w
      rw [wpOps_cons]
      exact stepO_ok HE R hs ds hi hst he1 fun m1 w1 t1 r1 r2 r3 => evOps_ok HE ds l (i + 1) a1 a' h1 h' he2 hd' m1 w1 t1 r1 r3 fun m' w' t' q1 q2 q3 => hQ m' w' t' q1 (r2.trans q2) q3
    · cases he1
end
end Go.Proofs.YtmolfmgchbjnbaaGreatDoor.Ev
