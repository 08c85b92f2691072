import Derived.Deep.RegionHeld
import Derived.Deep.RegionHeld3
import Derived.OrdersHeld
import Derived.StillTailTactics
import Derived.Laws.RangeAny
import Derived.Test.YtmolfmgchbjnbaaGreatDoorM30
set_option linter.unusedSimpArgs false
set_option linter.unusedVariables false
namespace Go.Proofs.YtmolfmgchbjnbaaGreatDoor
open Go.RowKit
open Wire Flow Mach
def WkAt (W : World) (pw : Nat) (pa lf : Value) : Prop := W.heap[pw]? = some (.cells #[pa, lf] 315 (0, 0))
theorem WkAt.cells {W : World} {pw : Nat} {pa lf : Value} (h : WkAt W pw pa lf) : W.cell? ⟨pw, 0, none⟩ = some pa ∧ W.cell? ⟨pw, 1, none⟩ = some lf ∧ W.frozen? ⟨pw, 1, none⟩ = false := by
 unfold WkAt at h
 refine ⟨?_, ?_, ?_⟩
 ·unfold World.cell?; rw [h]; rfl
 ·unfold World.cell?; rw [h]; rfl
 ·unfold World.frozen?; rw [h]; simp
theorem WkAt.set {W : World} {pw : Nat} {pa lf : Value} (h : WkAt W pw pa lf) (lf' : Value) : WkAt (W.setCell ⟨pw, 1, none⟩ lf') pw pa lf' := by
 unfold WkAt at h ⊢
 have hl := (Array.getElem?_eq_some_iff.1 h).1
 have hg := (Array.getElem?_eq_some_iff.1 h).2
 unfold World.setCell
 simp [hl, Array.getElem_modify, hg]
theorem WkAt.fr {W W' : World} {pw : Nat} {pa lf : Value} (h : WkAt W pw pa lf) (F : Fr [] W W') : WkAt W' pw pa lf := (F.block pw (Array.getElem?_eq_some_iff.1 h).1 (by simp)).trans h
theorem RoL.fr {W W' : World} {tag : Nat → Nat} {v : Value} {xs : List Value} {S : List Nat} (h : RoL W tag v xs) (F : Fr S W W') (hS : ∀ b ∈ S, tag b ≠ 9) : RoL W' tag v xs := by
 obtain ⟨o, c, h1, h2, h2', h3⟩ := h
 refine ⟨o, c, h1, h2, h2', fun h0 => ?_⟩
 obtain ⟨g, off, e1, e2, e3, e4⟩ := h3 h0
 exact ⟨g, off, e1, Nat.lt_of_lt_of_le e2 F.size, e3, fun i x hx => (F.cell (p := ⟨g, off + i, none⟩) e2 (fun hc => hS g hc e3)).trans (e4 i x hx)⟩
def leftAt (W : World) (pw : Nat) : Nat := match W.cell? ⟨pw, 1, none⟩ with
 | some (.slice _ n _) => n
 | _ => 0
theorem leftAt_eq {W : World} {pw : Nat} {o : Option Addr} {n c : Nat} (h : W.cell? ⟨pw, 1, none⟩ = some (.slice o n c)) : leftAt W pw = n := by
 unfold leftAt; rw [h]
def NxP (W : World) (tag : Nat → Nat) (pw : Nat) (pa : Value) (r : Option (ByteArray × List ByteArray)) (e : Ending) (W' : World) : Prop :=
 Fr [pw] W W' ∧ (match r with
  | none => e = .returned (.tuple #[.string ⟨#[]⟩, .bool false])
  | some kl => e = .returned (.tuple #[.string kl.1, .bool true])) ∧ ∃ lf', WkAt W' pw pa lf' ∧ RoL W' tag lf' ((match r with | none => [] | some kl => kl.2).map .string)
theorem walk_step {W V : World} {tag : Nat → Nat} {pw : Nat} {pa lf : Value} {k : ByteArray} {K : List ByteArray} (hw : WkAt V pw pa lf) (hr : RoL V tag lf ((k :: K).map .string)) (F : Fr [pw] W V) (ht : tag pw ≠ 9) :
  ∃ gl off c, lf = .slice (some ⟨gl, off, none⟩) (K.length + 1) c ∧ K.length + 1 ≤ c ∧ c ≤ 9223372036854775807 ∧ V.cell? ⟨gl, off, none⟩ = some (.string k) ∧ ∀ o', (c ≠ 1 → o' = some ⟨gl, off + 1, none⟩) →
   WkAt (V.setCell ⟨pw, 1, none⟩ (.slice o' K.length (c - 1))) pw pa (.slice o' K.length (c - 1)) ∧ RoL (V.setCell ⟨pw, 1, none⟩ (.slice o' K.length (c - 1))) tag (.slice o' K.length (c - 1)) (K.map .string) ∧ Fr [pw] W (V.setCell ⟨pw, 1, none⟩ (.slice o' K.length (c - 1))) := by
 obtain ⟨o, c, e1, e2, e2', e3⟩ := hr
 simp only [List.map_cons, List.length_cons, List.length_map] at e1 e2 e3
 obtain ⟨gt, off, e4, e5, e6, e7⟩ := e3 (by omega)
 refine ⟨gt, off, c, by rw [e1, e4], e2, e2', by have := e7 0 _ rfl; exact this, fun o' ho => ?_⟩
 have F1 : Fr [pw] V (V.setCell ⟨pw, 1, none⟩ (.slice o' K.length (c - 1))) := (Fr.refl [pw] V).setCell (.inl (by simp)) _
 refine ⟨hw.set _, ⟨o', c - 1, by rw [List.length_map], by rw [List.length_map]; omega, by omega, fun h0 => ?_⟩, F.trans F1⟩
 rw [List.length_map] at h0
 refine ⟨gt, off + 1, ho (by omega), Nat.lt_of_lt_of_le e5 F1.size, e6, fun i v hv => ?_⟩
 have := e7 (i + 1) v hv
 rw [show off + (i + 1) = off + 1 + i by omega] at this
 exact (F1.cell (p := ⟨gt, off + 1 + i, none⟩) e5 (by simp; rintro rfl; exact ht e6)).trans this
set_option maxRecDepth 100000 in
set_option maxHeartbeats 4000000 in
theorem next_key (pw ga o : Nat) {l : List (ByteArray × Val)} (keys : List ByteArray) {lf : Value} (W : World) {tag : Nat → Nat} (hw : WkAt W pw (.pointer (some ⟨ga, o, none⟩)) lf) (hr : RoL W tag lf (keys.map .string)) (ht : tag pw ≠ 9) (hk : ∀ k ∈ keys, k.size ≤ 1048576)
  (HH : ∀ (V : World) (k : ByteArray), Fr [pw] W V → k.size ≤ 1048576 → Calls Tryz.prog 207 #[.pointer (some ⟨ga, o, none⟩), .string k] V fun e W' => e = .returned (.bool (hasK l k)) ∧ Fr [] V W') :
  Calls Tryz.prog 202 #[ptr pw] W (NxP W tag pw (.pointer (some ⟨ga, o, none⟩)) (nextK l keys)) := by
 have HR : Hid (∃ K lf, WkAt W pw (.pointer (some ⟨ga, o, none⟩)) lf ∧ RoL W tag lf (K.map .string) ∧ Fr [pw] W W ∧ nextK l K = nextK l keys ∧ ∀ k ∈ K, k.size ≤ 1048576) := ⟨keys, lf, hw, hr, Fr.refl _ _, rfl, hk⟩
 have HH' : Hid _ := HH
 have ht' : Hid _ := ht
 clear hw hr HH ht hk
 go_enter Tryz.func202, Tryz.ntmps202
 go_wp2
 go_loopw [2] (fun v wr => v = .string ⟨#[]⟩ ∧ Hid (∃ K lf, WkAt wr pw (.pointer (some ⟨ga, o, none⟩)) lf ∧ RoL wr tag lf (K.map .string) ∧ Fr [pw] W wr ∧ nextK l K = nextK l keys ∧ ∀ k ∈ K, k.size ≤ 1048576)) (fun _ wr => leftAt wr pw)
 case atStart => exact ⟨rfl, HR⟩
 case round =>
  clear HR
  obtain ⟨rfl, J⟩ := hrel
  obtain ⟨K, lf, hw, hr, F, hnx, hks⟩ := J.out
  obtain ⟨c0, c1, z1⟩ := hw.cells
  rcases K with _ | ⟨k, K⟩
  ·obtain ⟨oo, cc, e1, -⟩ := id hr
   have e1' : lf = .slice oo 0 cc := e1
   subst e1'
   have hN : Hid (nextK l keys = none) := by
    show _ = _
    rw [← hnx]
    rfl
   have HW : Hid _ := And.intro hw (And.intro hr F)
   clear hw hr F hnx hks J HH' ht' e1
   go_wp2_with fail
   go_ret2
   rw [hN.out]
   exact ⟨HW.out.2.2, rfl, _, HW.out.1, HW.out.2.1⟩
  ·obtain ⟨gl, off, c, rfl, hc, hc', ck, hst⟩ := walk_step hw hr F ht'.out
   have g1 : ((K.length + 1 : Nat) : Int) > 0 := by omega
   have hw64 : IntKind.i64.wrap ((K.length + 1 : Nat) : Int) = ((K.length + 1 : Nat) : Int) := by rw [IntKind.wrap_i64]; omega
   have HC' : Hid _ := fun (V : World) (F : Fr [pw] W V) => HH'.out V k F (hks k (by simp))
   have F' : Hid _ := F
   clear hw hr J HH' F
   obtain ⟨m, hm⟩ : ∃ m, K.length = m := ⟨_, rfl⟩
   rw [hm] at hst c1 g1 hw64 hc
   rcases Decidable.em (c = 1) with hc1 | hc1
   ·subst hc1
    have hm0 : m = 0 := by omega
    subst hm0
    have HST : Hid _ := hst (some ⟨gl, off, none⟩) (fun h => absurd rfl h)
    clear hst
    cases hb : hasK l k with
    | true =>
     rw [hb] at HC'
     have HV : Hid _ := fun (_ : Unit) => HC'.out _ HST.out.2.2
     clear HC'
     go_wp2_with fail
     refine (HV.out ()).mono ?_
     rintro e W4 ⟨rfl, F4⟩
     obtain ⟨j1, j2, j3⟩ := HST.out
     have w4 := j1.fr F4
     have r4 := j2.fr F4 (by simp)
     have F04 := j3.trans (F4.mono (by simp))
     have hN : Hid (nextK l keys = some (k, K)) := by
      show _ = _
      rw [← hnx]
      simp [nextK, hb]
     have HW : Hid _ := And.intro w4 (And.intro r4 F04)
     clear w4 r4 F04 j1 j2 j3 HST F4 hnx hks hb HV
     go_wp2_with fail
     go_ret2
     rw [hN.out]
     exact ⟨HW.out.2.2, rfl, _, HW.out.1, HW.out.2.1⟩
    | false =>
     rw [hb] at HC'
     have HV : Hid _ := fun (_ : Unit) => HC'.out _ HST.out.2.2
     clear HC'
     go_wp2_with fail
     refine (HV.out ()).mono ?_
     rintro e W4 ⟨rfl, F4⟩
     obtain ⟨j1, j2, j3⟩ := HST.out
     have w4 := j1.fr F4
     have r4 := j2.fr F4 (by simp)
     have F04 := j3.trans (F4.mono (by simp))
     have hN : nextK l K = nextK l keys := by
      rw [← hnx]
      simp [nextK, hb]
     have HW : Hid (∃ K lf, WkAt W4 pw (.pointer (some ⟨ga, o, none⟩)) lf ∧ RoL W4 tag lf (K.map .string) ∧ Fr [pw] W W4 ∧ nextK l K = nextK l keys ∧ ∀ k ∈ K, k.size ≤ 1048576) := ⟨K, _, w4, r4, F04, hN, fun q hq => hks q (by simp [hq])⟩
     have hle := leftAt_eq w4.cells.2.1
     have hle0 := leftAt_eq c1
     have HLE : Hid (leftAt W4 pw < leftAt wr pw) := by show _ < _; rw [hle, hle0]; omega
     clear w4 r4 F04 j1 j2 j3 HST F4 hnx hks hb hN hle hle0 HV
     go_wp2_with fail
     exact ⟨⟨rfl, HW⟩, HLE.out⟩
   ·skip
    have HST : Hid _ := hst _ (fun _ => rfl)
    clear hst
    cases hb : hasK l k with
    | true =>
     rw [hb] at HC'
     have HV : Hid _ := fun (_ : Unit) => HC'.out _ HST.out.2.2
     clear HC'
     go_wp2_with fail
     refine (HV.out ()).mono ?_
     rintro e W4 ⟨rfl, F4⟩
     obtain ⟨j1, j2, j3⟩ := HST.out
     have w4 := j1.fr F4
     have r4 := j2.fr F4 (by simp)
     have F04 := j3.trans (F4.mono (by simp))
     have hN : Hid (nextK l keys = some (k, K)) := by
      show _ = _
      rw [← hnx]
      simp [nextK, hb]
     have HW : Hid _ := And.intro w4 (And.intro r4 F04)
     clear w4 r4 F04 j1 j2 j3 HST F4 hnx hks hb HV
     go_wp2_with fail
     go_ret2
     rw [hN.out]
     exact ⟨HW.out.2.2, rfl, _, HW.out.1, HW.out.2.1⟩
    | false =>
     rw [hb] at HC'
     have HV : Hid _ := fun (_ : Unit) => HC'.out _ HST.out.2.2
     clear HC'
     go_wp2_with fail
     refine (HV.out ()).mono ?_
     rintro e W4 ⟨rfl, F4⟩
     obtain ⟨j1, j2, j3⟩ := HST.out
     have w4 := j1.fr F4
     have r4 := j2.fr F4 (by simp)
     have F04 := j3.trans (F4.mono (by simp))
     have hN : nextK l K = nextK l keys := by
      rw [← hnx]
      simp [nextK, hb]
     have HW : Hid (∃ K lf, WkAt W4 pw (.pointer (some ⟨ga, o, none⟩)) lf ∧ RoL W4 tag lf (K.map .string) ∧ Fr [pw] W W4 ∧ nextK l K = nextK l keys ∧ ∀ k ∈ K, k.size ≤ 1048576) := ⟨K, _, w4, r4, F04, hN, fun q hq => hks q (by simp [hq])⟩
     have hle := leftAt_eq w4.cells.2.1
     have hle0 := leftAt_eq c1
     have HLE : Hid (leftAt W4 pw < leftAt wr pw) := by show _ < _; rw [hle, hle0]; omega
     clear w4 r4 F04 j1 j2 j3 HST F4 hnx hks hb hN hle hle0 HV
     go_wp2_with fail
     exact ⟨⟨rfl, HW⟩, HLE.out⟩
end Go.Proofs.YtmolfmgchbjnbaaGreatDoor
namespace Go.Proofs.YtmolfmgchbjnbaaGreatDoor
open Go.RowKit
open Wire Flow Mach
theorem set_id {l : List Value} {i : Nat} {v : Value} (h : l[i]? = some v) : l.set i v = l := by
 obtain ⟨hi, e⟩ := List.getElem?_eq_some_iff.1 h
 rw [← e]
 exact List.set_getElem_self hi
theorem field_keys (a b : Int) (s : ByteArray) (p : Option Addr) (w : World) : (Instr.field 306 (.agg #[.int .u8 a, .int .i64 b, .string s, .pointer p]) 1).run Tryz.prog w = .ok (.pointer p) w := by
 kernel_rfl
section
variable {E : Env} {X : Nat} {g : Pl} {s : Ms} {W W' : World} {tag tag' : Nat → Nat}
theorem MM.walkAt (h : MM E X g s W tag) {l : List Cell} {v : Val} {a : Nat} {K : List ByteArray} (hs : s.fr.stk = l ++ [⟨true, v, a, K⟩]) :
    ∃ pw ga c lf, a < s.w.arrs.length ∧ g.av = .slice (some ⟨ga, 0, none⟩) s.w.arrs.length c ∧ 10 ≤ tag pw ∧ WkAt W pw (.pointer (some ⟨ga, a * 2, none⟩)) lf ∧ RoL W tag lf (K.map .string) ∧
      Calls Tryz.prog 201 #[fp g s] W (fun e W' => e = .returned (.agg #[.int .u8 0, .int .i64 0, .string ⟨#[]⟩, ptr pw]) ∧ Fr [] W W') ∧
      (∀ V, Fr [pw] W V → ∃ b ov, V.cell? ⟨ga, a * 2, none⟩ = some (.map (some b)) ∧ V.cell? ⟨ga, a * 2 + 1, none⟩ = some ov ∧ MapAt V b (entL (s.w.arrs.getD a []))) ∧
      ∀ (W' : World) (lf' : Value) (K' : List ByteArray), Fr [pw] W W' → WkAt W' pw (.pointer (some ⟨ga, a * 2, none⟩)) lf' → RoL W' tag lf' (K'.map .string) → MM E X g (onStk s (l ++ [⟨true, v, a, K'⟩])) W' tag ∧ Kp tag tag W W' := by
  obtain ⟨h6, lv, R, mp, x, hx, h⟩ := h
  obtain ⟨⟨cap, r11, hv⟩, lm, rm, hxx⟩ := h.top
  have hn := h.nF
  have hnA := h.nA
  have hlen : s.fr.stk.length = l.length + 1 := by rw [hs]; simp
  have hj : s.fr.stk[l.length]? = some ⟨true, v, a, K⟩ := by rw [hs]; simp
  obtain ⟨w1, w2, w3, ga, ca, lf, w4, w5, w6⟩ := h.wlk s.low.length l.length _ (Nat.le_refl _) (by rw [fAt_top]; exact hj) rfl
  simp only at w2 w5 w6
  have hq := h.S.rows _ w3
  rw [w5] at hq
  obtain ⟨oq, tq⟩ := hq
  simp only at oq tq
  have tpw : tag ((x.F s.low.length).pw l.length) = 10000 + 1024 * s.low.length + l.length := tq _ rfl
  generalize hpw : (x.F s.low.length).pw l.length = pw at w5 oq tq tpw
  have hwk : WkAt W pw (.pointer (some ⟨ga, a * 2, none⟩)) lf := by
    rcases oq.2 with ⟨h', _⟩ | ⟨g', cap', cur, h', hb, hg, hnc, hcm, hcs, ht⟩
    · cases h'
    · simp only [Value.slice.injEq, Option.some.injEq, Addr.mk.injEq, and_true, true_and] at h'
      obtain ⟨rfl, rfl⟩ := h'
      unfold WkAt
      rw [hg]
      congr 2
      have : cur.toList = [.pointer (some ⟨ga, a * 2, none⟩), lf] := by
        rw [← ht, List.take_of_length_le]
        rw [Array.length_toList, hcs]
        exact Nat.le_refl _
      exact Array.toList_inj.1 this
  have o13 := (h.S.rows 13 h.lA).1
  have t13 := (h.S.rows 13 h.lA).2
  rw [h.rA, w4] at o13 t13
  simp only at o13 t13
  obtain ⟨a1, a2, a3⟩ := h.arr a w2
  obtain ⟨hmap, tb⟩ := h.S.maps _ _ _ a1
  have e := fun t (ht : t < 2) => rng_get (n := s.w.arrs.length) (z := 2) (f := fun i => [Value.map (some (x.A i).1), (x.A i).2]) (fun _ _ => rfl) w2 ht
  have tga : tag ga = 13 := t13 ga rfl
  refine ⟨pw, ga, ca, lf, w2, hx.2.symm.trans w4, by omega, hwk, w6, ?_, fun V F => ?_, fun W' lf' K' F hw' hr' => ?_⟩
  · have o11 : W.ownsRow 0 225 51 (.slice (some ⟨g.g, 0, none⟩) (s.low.length + 1) cap) (s.low.length + 1) (rng (s.low.length + 1) fun k => frC (x.F k) (fAt s k)) := by have := (h.S.rows 11 h.lF).1; rw [r11] at this; exact this
    have om : W.ownsRow 0 306 4 (x.F s.low.length).sv (l.length + 1) (stkC (x.F s.low.length).pw (l ++ [⟨true, v, a, K⟩])) := by have := (h.S.rows _ lm).1; rw [rm, hlen, hs] at this; exact this
    obtain ⟨gs, cs, hsv, hcs, hgs⟩ := own_some om (by omega)
    rw [hsv] at om hxx
    have e := fun t (ht : t < 4) => stkC_last (x.F s.low.length).pw l ⟨true, v, a, K⟩ t ht
    rw [← hpw]
    exact top_any g.g (s.low.length * 51) gs l.length cs 0 0 ⟨#[]⟩ (some ⟨(x.F s.low.length).pw l.length, 0, none⟩) W (own_cell o11 hxx) (by omega) (own_cell om ((e 0 (by decide)).trans rfl)) (own_cell om ((e 1 (by decide)).trans rfl)) (own_cell om ((e 2 (by decide)).trans rfl)) (own_cell om ((e 3 (by decide)).trans rfl))
  · have hga : ga ∉ [pw] := by simp; rintro rfl; omega
    have hbm : (x.A a).1 ∉ [pw] := by simp; intro e; rw [e] at tb; omega
    have hgl := (o13.lt ga rfl).2
    exact ⟨(x.A a).1, (x.A a).2, (F.cell (p := ⟨ga, a * 2, none⟩) hgl hga).trans (own_cell o13 ((e 0 (by decide)).trans rfl)), (F.cell (p := ⟨ga, a * 2 + 1, none⟩) hgl hga).trans (own_cell o13 ((e 1 (by decide)).trans rfl)), hmap.of_block (F.block _ hmap.lt hbm)⟩
  · have hc : Chg tag [10000 + 1024 * s.low.length + l.length] W W' := ⟨F.os, F.tape, F.output, F.size, fun k hk hn => F.block k hk (by simp; rintro rfl; exact hn (by simp [tpw]))⟩
    have S' := h.S.turn (i := 10000 + 1024 * s.low.length + l.length) (tag' := tag) (h.S.far _ w3) (by omega) hc (fun _ _ => rfl) (r := ⟨.slice (some ⟨pw, 0, none⟩) 1 1, 315, 2, 1, [.pointer (some ⟨ga, a * 2, none⟩), lf']⟩) (own_one hw' rfl) (fun b hb => by
      have : pw = b := by simpa [Value.ownBlock] using hb
      rw [← this]; exact tpw)
    rw [up_true w3] at S'
    have K0 : Kp tag tag W W' := Kp.chg hc (fun _ _ => rfl) (by simp; omega)
    refine ⟨⟨Nat.le_trans h6 K0.size, lv, _, mp, onF x s.low.length _, hx, h.restack h6 (l := l ++ [⟨true, v, a, K'⟩]) (pw := (x.F s.low.length).pw) (sv := (x.F s.low.length).sv) K0 S' (fun _ h => h) ?_ ?_ ?_ ?_⟩, K0⟩
    · rw [up_off _ _ (by omega), h.rF, set_id hxx]
    · rw [up_off _ _ (by omega), rm, hs, stkC_push, stkC_push, List.length_append, List.length_append]
      rfl
    · intro i h1 h2 h3
      rw [up_off _ _ (by omega)]
    · intro j c hj' hc'
      rcases Nat.lt_or_ge j l.length with c1 | c1
      · rw [List.getElem?_append_left c1] at hj'
        obtain ⟨q1, q2, q3, ga', ca', lf0, q4, q5, q6⟩ := h.wlk s.low.length j c (Nat.le_refl _) (by rw [fAt_top, hs, List.getElem?_append_left c1]; exact hj') hc'
        exact ⟨q1, q2, q3, ga', ca', lf0, q4, by rw [up_off _ _ (by omega)]; exact q5, q6.kp K0⟩
      · rw [List.getElem?_append_right c1] at hj'
        have e0 : j = l.length := by
          rcases e : j - l.length with _ | q
          · omega
          · rw [e] at hj'; simp at hj'
        subst e0
        have : c = ⟨true, v, a, K'⟩ := by simpa using hj'.symm
        subst this
        refine ⟨w1, w2, w3, ga, ca, lf', w4, ?_, hr'⟩
        rw [up_same, hpw]
end
end Go.Proofs.YtmolfmgchbjnbaaGreatDoor
namespace Go.Proofs.YtmolfmgchbjnbaaGreatDoor
open Go.RowKit
open Wire Flow Mach
section
variable {E : Env} {X : Nat} {g : Pl} {s : Ms} {W W' : World} {tag tag' : Nat → Nat}
theorem MM.nextKey (h : MM E X g s W tag) {l : List Cell} {v : Val} {a : Nat} {K : List ByteArray} (hs : s.fr.stk = l ++ [⟨true, v, a, K⟩]) (ho : ArrOk (s.w.arrs.getD a [])) (hK : ∀ k ∈ K, k.size ≤ 1048576) :
  ∃ pw, Calls Tryz.prog 201 #[fp g s] W (fun e W1 => e = .returned (.agg #[.int .u8 0, .int .i64 0, .string ⟨#[]⟩, ptr pw]) ∧
   Calls Tryz.prog 202 #[ptr pw] W1 (fun e W' => (match nextK (s.w.arrs.getD a []) K with
    | none => e = .returned (.tuple #[.string ⟨#[]⟩, .bool false])
    | some kl => e = .returned (.tuple #[.string kl.1, .bool true])) ∧ ∃ t', MM E X g (onStk s (l ++ [⟨true, v, a, match nextK (s.w.arrs.getD a []) K with | none => [] | some kl => kl.2⟩])) W' t' ∧ Kp tag t' W W')) := by
 obtain ⟨pw, ga, c, lf, ha, hg, tpw, hw, hr, H113, hB, hN⟩ := h.walkAt hs
 refine ⟨pw, H113.mono ?_⟩
 rintro e W1 ⟨rfl, F1⟩
 refine ⟨rfl, ?_⟩
 have F1' : Fr [pw] W W1 := F1.mono (by simp)
 refine (next_key pw ga (a * 2) (l := s.w.arrs.getD a []) K W1 (tag := tag) (hw.fr F1) (hr.fr F1 (by simp)) (by omega) hK (fun V k FV hk => ?_)).mono ?_
 ·obtain ⟨b, ov, c0, c1, hm⟩ := hB V (F1'.trans FV)
  exact hasA_any ga (a * 2) b k V c0 hm ho.1 ho.2 hk
 ·rintro e W' ⟨F', he, lf', hw', hr'⟩
  exact ⟨he, tag, hN W' lf' _ (F1'.trans F') hw' hr'⟩
set_option maxRecDepth 100000 in
set_option maxHeartbeats 4000000 in
theorem MM.eachSome (h : MM E X g s W tag) {l : List Cell} {v : Val} {a : Nat} {K : List ByteArray} (hs : s.fr.stk = l ++ [⟨true, v, a, K⟩]) (hl : s.fr.stk.length < 1024) (ho : ArrOk (s.w.arrs.getD a [])) (hK : ∀ k ∈ K, k.size ≤ 1048576) {k : ByteArray} {rest : List ByteArray} (hn : nextK (s.w.arrs.getD a []) K = some (k, rest)) (t : Int) :
  Calls Tryz.prog 118 #[fp g s, .int .i64 t] W (MP E X g (onStk s (l ++ [⟨true, v, a, rest⟩, cv (words k)])) tag W unit) := by
 obtain ⟨pw, H⟩ := h.nextKey hs ho hK
 rw [hn] at H
 simp only at H
 have hlen : l.length + 1 < 1024 := by rw [hs] at hl; simpa using hl
 have HT : Hid _ := fun (W1 : World) (t1 : Nat → Nat) (h1 : MM E X g (onStk s (l ++ [(⟨true, v, a, rest⟩ : Cell)])) W1 t1) => MM.pushText h1 (show (l ++ [(⟨true, v, a, rest⟩ : Cell)]).length < 1024 by simp; omega) k
 have hfin : Hid ((l ++ [(⟨true, v, a, rest⟩ : Cell)]) ++ [cv (words k)] = l ++ [⟨true, v, a, rest⟩, cv (words k)]) := by show _ = _; simp
 have HQ : Hid _ := fun (_ : Unit) => H
 have hfd := field_keys 0 0 ⟨#[]⟩ (some ⟨pw, 0, none⟩)
 clear H h hs
 go_enter Tryz.func118, Tryz.ntmps118
 go_wp2_with fail
 refine (HQ.out ()).mono ?_
 rintro e W1 ⟨rfl, H⟩
 have HN : Hid _ := fun (_ : Unit) => H
 clear H HQ
 go_wp2_with fail
 refine (HN.out ()).mono ?_
 rintro e W2 ⟨rfl, t2, h2, k2⟩
 have HM2 : Hid _ := And.intro h2 k2
 clear h2 k2 HN
 go_wp2_with fail
 refine (HT.out W2 t2 HM2.out.1).mono ?_
 rintro e W3 ⟨rfl, t3, h3, k3⟩
 have HM3 : Hid _ := And.intro h3 (HM2.out.2.trans k3)
 clear h3 k3 HT
 go_wp2_with fail
 refine bodyPost_ret (results_none rfl _ _ _) rfl ?_
 rw [← hfin.out]
 exact ⟨rfl, t3, HM3.out.1, HM3.out.2⟩
set_option maxRecDepth 100000 in
set_option maxHeartbeats 4000000 in
theorem MM.eachNone (h : MM E X g s W tag) {l : List Cell} {v : Val} {a : Nat} {K : List ByteArray} (hs : s.fr.stk = l ++ [⟨true, v, a, K⟩]) (hl : s.fr.stk.length ≤ 1024) (ho : ArrOk (s.w.arrs.getD a [])) (hK : ∀ k ∈ K, k.size ≤ 1048576) (hn : nextK (s.w.arrs.getD a []) K = none) {t p : Nat} (ht : ∀ L, Reads E.mo s.fr.f (locsOf E.mo s.fr.f) (codeOf E.mo s.fr.f) L → PlcAt E.mo s.fr.f L t p) :
  Calls Tryz.prog 118 #[fp g s, .int .i64 (t : Nat)] W (MP E X g (onAt (onStk s l) p) tag W unit) := by
 obtain ⟨pw, H⟩ := h.nextKey hs ho hK
 rw [hn] at H
 simp only at H
 have hlen : (l ++ [(⟨true, v, a, []⟩ : Cell)]).length ≤ 1024 := by rw [hs] at hl; simpa using hl
 have HP : Hid _ := fun (W1 : World) (t1 : Nat → Nat) (h1 : MM E X g (onStk s (l ++ [(⟨true, v, a, []⟩ : Cell)])) W1 t1) => MM.pop h1 (l := l) (c := ⟨true, v, a, []⟩) rfl hlen
 have HA : Hid _ := fun (W2 : World) (t2 : Nat → Nat) (h2 : MM E X g (onStk s l) W2 t2) => MM.setAt h2 (t := t) (a := p) ht
 have HQ : Hid _ := fun (_ : Unit) => H
 have hfd := field_keys 0 0 ⟨#[]⟩ (some ⟨pw, 0, none⟩)
 have hcel : celV ⟨true, v, a, []⟩ = vlV 0 0 ⟨#[]⟩ := rfl
 rw [hcel] at HP
 replace HP : Hid (∀ (W1 : World) (t1 : Nat → Nat), MM E X g (onStk s (l ++ [⟨true, v, a, []⟩])) W1 t1 → Calls Tryz.prog 196 #[fp g s] W1 (MP E X g (onStk s l) t1 W1 (vlV 0 0 ⟨#[]⟩))) := HP
 clear H h hs hcel
 go_enter Tryz.func118, Tryz.ntmps118
 go_wp2_with fail
 refine (HQ.out ()).mono ?_
 rintro e W1 ⟨rfl, H⟩
 have HN : Hid _ := fun (_ : Unit) => H
 clear H HQ
 go_wp2_with fail
 refine (HN.out ()).mono ?_
 rintro e W2 ⟨rfl, t2, h2, k2⟩
 have HM2 : Hid _ := And.intro h2 k2
 clear h2 k2 HN
 go_wp2_with fail
 refine (HP.out W2 t2 HM2.out.1).mono ?_
 rintro e W3 ⟨rfl, t3, h3, k3⟩
 have HM3 : Hid _ := And.intro h3 (HM2.out.2.trans k3)
 clear h3 k3 HP
 obtain ⟨z1, ⟨u, x1⟩, M4, K4⟩ := HA.out W3 t3 HM3.out.1
 obtain ⟨W4, hW4⟩ : ∃ W4, W3.setCell ⟨g.g, s.low.length * 51 + 1, none⟩ (.int .i64 (t : Nat)) = W4 := ⟨_, rfl⟩
 replace M4 : MM E X g (onAt (onStk s l) p) (W3.setCell ⟨g.g, s.low.length * 51 + 1, none⟩ (.int .i64 (t : Nat))) t3 := M4
 replace K4 : Kp t3 t3 W3 (W3.setCell ⟨g.g, s.low.length * 51 + 1, none⟩ (.int .i64 (t : Nat))) := K4
 replace z1 : W3.frozen? ⟨g.g, s.low.length * 51 + 1, none⟩ = false := z1
 replace x1 : W3.cell? ⟨g.g, s.low.length * 51 + 1, none⟩ = some u := x1
 rw [hW4] at M4 K4
 have HM4 : Hid _ := And.intro M4 (HM3.out.2.trans K4)
 clear M4 K4 HA
 go_wp2_with fail
 refine bodyPost_end (results_none rfl _ _ _) rfl ?_
 exact ⟨rfl, t3, HM4.out.1, HM4.out.2⟩
end
end Go.Proofs.YtmolfmgchbjnbaaGreatDoor
namespace Go.Proofs.YtmolfmgchbjnbaaGreatDoor
open Go.RowKit
theorem byteHi (c : Nat) : 128 ≤ (UInt8.ofNat (128 + c % 64)).toNat := by
 rw [UInt8.toNat_ofNat']
 omega
theorem enc2 (r : Int) (h1 : 128 ≤ r) (h2 : r < 2048) : ∃ b0 b1 : UInt8, Utf8.encode r = ⟨#[b0, b1]⟩ ∧ 128 ≤ b1.toNat := by
 have hv : Utf8.valid r = true := by unfold Utf8.valid; simp; left; omega
 refine ⟨UInt8.ofNat (0xC0 + r.toNat / 64), UInt8.ofNat (0x80 + r.toNat % 64), ?_, byteHi _⟩
 unfold Utf8.encode
 simp only [hv, if_true]
 rw [if_neg (by omega), if_pos (by omega)]
theorem enc3 (r : Int) (h1 : 2048 ≤ r) (h2 : r < 65536) (hv : Utf8.valid r = true) : ∃ b0 b1 b2 : UInt8, Utf8.encode r = ⟨#[b0, b1, b2]⟩ ∧ 128 ≤ b2.toNat := by
 refine ⟨UInt8.ofNat (0xE0 + r.toNat / 4096), UInt8.ofNat (0x80 + r.toNat / 64 % 64), UInt8.ofNat (0x80 + r.toNat % 64), ?_, byteHi _⟩
 unfold Utf8.encode
 simp only [hv, if_true]
 rw [if_neg (by omega), if_neg (by omega), if_pos (by omega)]
theorem enc4 (r : Int) (h1 : 65536 ≤ r) (hv : Utf8.valid r = true) : ∃ b0 b1 b2 b3 : UInt8, Utf8.encode r = ⟨#[b0, b1, b2, b3]⟩ := by
 refine ⟨UInt8.ofNat (0xF0 + r.toNat / 262144), UInt8.ofNat (0x80 + r.toNat / 4096 % 64), UInt8.ofNat (0x80 + r.toNat / 64 % 64), UInt8.ofNat (0x80 + r.toNat % 64), ?_⟩
 unfold Utf8.encode
 simp only [hv, if_true]
 rw [if_neg (by omega), if_neg (by omega), if_neg (by omega)]
set_option maxRecDepth 100000 in
set_option maxHeartbeats 4000000 in
theorem ir_bad (r : Int) (h1 : 128 ≤ r) (h2 : r ≠ 65533) (hv : Lib.validRune r = false) (w : World) :
  Calls Tryz.prog 360 #[.string ⟨#[32, 9, 10]⟩, .int .i32 r] w fun e w' => e = .returned (.int .i64 (-1)) ∧ w' = w := by
 have HV : Hid _ := fun (_ : Unit) => Tryz.utf8_ValidRune r w
 rw [hv] at HV
 have g1 : (0 : Int) ≤ r := by omega
 have g2 : ¬ (r < 128) := by omega
 have g3 : (r == 65533) = false := by simp [h2]
 clear hv
 go_enter Tryz.func360, Tryz.ntmps360
 go_wp2_with fail
 refine (HV.out ()).mono ?_
 rintro e w' ⟨rfl, rfl⟩
 go_wp2_with fail
 go_ret
 exact ⟨rfl, rfl⟩
set_option maxRecDepth 100000 in
set_option maxHeartbeats 4000000 in
theorem ir_four (r : Int) (h1 : 65536 ≤ r) (hv : Lib.validRune r = true) (w : World) :
  Calls Tryz.prog 360 #[.string ⟨#[32, 9, 10]⟩, .int .i32 r] w fun e w' => e = .returned (.int .i64 (-1)) ∧ w' = w := by
 have HV : Hid _ := fun (_ : Unit) => Tryz.utf8_ValidRune r w
 rw [hv] at HV
 have g1 : (0 : Int) ≤ r := by omega
 have g2 : ¬ (r < 128) := by omega
 have g3 : (r == 65533) = false := by simp; omega
 have hv' : Utf8.valid r = true := by unfold Utf8.valid; unfold Lib.validRune at hv; simp at hv ⊢; omega
 obtain ⟨b0, b1, b2, b3, he⟩ := enc4 r h1 hv'
 have hcv : ∀ w, (convert 21 9 (.int .i32 r)).run Tryz.prog w = .ok (.string ⟨#[b0, b1, b2, b3]⟩) w := fun w => by
  rw [← he]
  rfl
 clear hv hv' he
 go_enter Tryz.func360, Tryz.ntmps360
 go_wp2_with fail
 refine (HV.out ()).mono ?_
 rintro e w' ⟨rfl, rfl⟩
 clear h1 g1 g2 g3
 go_wp2_with fail
 go_step3
 go_wp2_with fail
 go_loop [9, 10] (fun i f => i = .int .i64 3 ∧ f = .int .i64 0) (fun _ _ => 0)
 case atStart => exact ⟨rfl, rfl⟩
 case round =>
  obtain ⟨rfl, rfl⟩ := hrel
  go_wp2_with fail
  go_ret
  exact ⟨rfl, rfl⟩
set_option maxRecDepth 100000 in
set_option maxHeartbeats 4000000 in
theorem ir_two (r : Int) (h1 : 128 ≤ r) (h2 : r < 2048) (w : World) :
  Calls Tryz.prog 360 #[.string ⟨#[32, 9, 10]⟩, .int .i32 r] w fun e w' => e = .returned (.int .i64 (-1)) ∧ Below w.heap.size w w' := by
 have hm : Tryz.prog.follows Departure.mixedOrders = true := by kernel_rfl
 have HV : Hid _ := fun (_ : Unit) => Tryz.utf8_ValidRune r w
 rw [show Lib.validRune r = true by unfold Lib.validRune; simp; omega] at HV
 have g1 : (0 : Int) ≤ r := by omega
 have g2 : ¬ (r < 128) := by omega
 have g3 : (r == 65533) = false := by simp; omega
 obtain ⟨b0, b1, he, hb⟩ := enc2 r h1 h2
 have hcv : ∀ w, (convert 21 9 (.int .i32 r)).run Tryz.prog w = .ok (.string ⟨#[b0, b1]⟩) w := fun w => by
  rw [← he]
  rfl
 have HI : Hid _ := fun (w : World) => Tryz.strings_IndexByte ⟨#[10]⟩ (b1.toNat : Int) w
 rw [show Lib.indexByte [10] (b1.toNat : Int).toNat.toUInt8 = -1 by
  unfold Lib.indexByte Lib.indexByte
  rw [if_neg (by
   simp
   intro e
   rw [← e] at hb
   exact absurd hb (by decide))]
  rfl] at HI
 have hx : ((((⟨#[32, 9, 10]⟩ : ByteArray)[1]'(by decide)).toNat : Int) != (((⟨#[b0, b1]⟩ : ByteArray)[1]'(by show 1 < 2; decide)).toNat : Int)) = true := by
  show ((9 : Int) != (b1.toNat : Int)) = true
  simp; omega
 clear he hb h2
 go_enter Tryz.func360, Tryz.ntmps360
 go_wp2_with fail
 refine (HV.out ()).mono ?_
 rintro e w' ⟨rfl, rfl⟩
 clear h1 g1 g2 g3 HV
 go_wp2_with fail
 go_step3
 go_wp2_with fail
 go_loop [9, 10] (fun i f => i = .int .i64 1 ∧ f = .int .i64 0) (fun _ _ => 0)
 case atStart => exact ⟨rfl, rfl⟩
 case round =>
  obtain ⟨rfl, rfl⟩ := hrel
  go_wp2_with fail
  go_step3
  go_wp2_with fail
  refine wp_region_lex hm (by kernel_rfl) ?_
  repeat still_step
  refine wpStill_nil ?_
  go_wp2_with fail
  refine wp_region_heldD (fun _ => True) hm ?_
  have HB : Hid (Below w'.heap.size w' w'.drew.drew) := ((Below.refl _ w').drew).drew
  generalize w'.drew.drew = WD at HB ⊢
  refine wpAnyH_takes (fun _ _ _ _ _ h => h) trivial [0, 1, 2, 3, 4, 5, 6] (by kernel_rfl) ?_
  iterate 7
   refine Yls.cons (v := ?_) rfl (.inl ⟨rfl, fun w1 hS1 => ?_⟩) ?_
   rotate_left
   ·go_simp
    first | rfl | (refine (if_neg (by omega)).trans ?_; rfl)
   simp only [Act.put, List.setIfInBounds_toArray, List.set_cons_zero, List.set_cons_succ, List.getElem_toArray, List.getElem_cons_succ, List.getElem_cons_zero]
  refine Yls.nil ?_
  refine wpAnyH_ready (rs := [7]) (by kernel_rfl) (by simp) ?_
  refine AllReadyH.cons rfl (fun K hK => ?_) AllReadyH.nil
  go_simp
  refine (HI.out _).mono ?_
  rintro e W4 ⟨rfl, rfl⟩
  refine hK _ _ trivial ?_
  clear hK K
  intro _
  try simp only [Act.put, List.setIfInBounds_toArray, List.set_cons_zero, List.set_cons_succ, List.getElem_toArray, List.getElem_cons_succ, List.getElem_cons_zero]
  refine wpAnyH_ready (rs := [8]) (by kernel_rfl) (by simp) ?_
  refine AllReadyH.cons rfl (fun K hK => ?_) AllReadyH.nil
  go_simp
  refine hK _ _ trivial ?_
  clear hK K
  intro _
  try simp only [Act.put, List.setIfInBounds_toArray, List.set_cons_zero, List.set_cons_succ, List.getElem_toArray, List.getElem_cons_succ, List.getElem_cons_zero]
  refine wpAnyH_done (by kernel_rfl) ?_ _
  go_wp2_with fail
  rw [Exit.noGoto_ret]
  dsimp +zetaDelta only [Exit.inBlock, Exit.then]
  rw [Exit.noGoto_ret]
  try dsimp +zetaDelta only [Exit.inBlock, Exit.then]
  go_ret
  exact ⟨rfl, HB.out⟩
set_option maxRecDepth 100000 in
set_option maxHeartbeats 4000000 in
theorem ir_three (r : Int) (h1 : 2048 ≤ r) (h2 : r < 65536) (h3 : r ≠ 65533) (hv : Lib.validRune r = true) (w : World) :
  Calls Tryz.prog 360 #[.string ⟨#[32, 9, 10]⟩, .int .i32 r] w fun e w' => e = .returned (.int .i64 (-1)) ∧ Below w.heap.size w w' := by
 have hm : Tryz.prog.follows Departure.mixedOrders = true := by kernel_rfl
 have HV : Hid _ := fun (_ : Unit) => Tryz.utf8_ValidRune r w
 rw [hv] at HV
 have hv' : Utf8.valid r = true := by unfold Utf8.valid; unfold Lib.validRune at hv; simp at hv ⊢; omega
 have g1 : (0 : Int) ≤ r := by omega
 have g2 : ¬ (r < 128) := by omega
 have g3 : (r == 65533) = false := by simp; omega
 obtain ⟨b0, b1, b2, he, hb⟩ := enc3 r h1 h2 hv'
 have hcv : ∀ w, (convert 21 9 (.int .i32 r)).run Tryz.prog w = .ok (.string ⟨#[b0, b1, b2]⟩) w := fun w => by
  rw [← he]
  rfl
 have HI : Hid _ := fun (w : World) => Tryz.strings_IndexByte ⟨#[]⟩ (b2.toNat : Int) w
 rw [show Lib.indexByte (⟨#[]⟩ : ByteArray).data.toList (b2.toNat : Int).toNat.toUInt8 = -1 from rfl] at HI
 have hx : ((((⟨#[32, 9, 10]⟩ : ByteArray)[2]'(by decide)).toNat : Int) != (((⟨#[b0, b1, b2]⟩ : ByteArray)[2]'(by show 2 < 3; decide)).toNat : Int)) = true := by
  show ((10 : Int) != (b2.toNat : Int)) = true
  simp; omega
 clear he hb h2 h3 hv hv'
 go_enter Tryz.func360, Tryz.ntmps360
 go_wp2_with fail
 refine (HV.out ()).mono ?_
 rintro e w' ⟨rfl, rfl⟩
 clear h1 g1 g2 g3 HV
 go_wp2_with fail
 go_step3
 go_wp2_with fail
 go_loop [9, 10] (fun i f => i = .int .i64 2 ∧ f = .int .i64 0) (fun _ _ => 0)
 case atStart => exact ⟨rfl, rfl⟩
 case round =>
  obtain ⟨rfl, rfl⟩ := hrel
  go_wp2_with fail
  go_step3
  go_wp2_with fail
  refine wp_region_lex hm (by kernel_rfl) ?_
  repeat still_step
  refine wpStill_nil ?_
  go_wp2_with fail
  refine wp_region_heldD (fun _ => True) hm ?_
  have HB : Hid (Below w'.heap.size w' w'.drew.drew) := ((Below.refl _ w').drew).drew
  generalize w'.drew.drew = WD at HB ⊢
  refine wpAnyH_takes (fun _ _ _ _ _ h => h) trivial [0, 1, 2, 3, 4, 5, 6] (by kernel_rfl) ?_
  iterate 7
   refine Yls.cons (v := ?_) rfl (.inl ⟨rfl, fun w1 hS1 => ?_⟩) ?_
   rotate_left
   ·go_simp
    first | rfl | (refine (if_neg (by omega)).trans ?_; rfl)
   simp only [Act.put, List.setIfInBounds_toArray, List.set_cons_zero, List.set_cons_succ, List.getElem_toArray, List.getElem_cons_succ, List.getElem_cons_zero]
  refine Yls.nil ?_
  refine wpAnyH_ready (rs := [7]) (by kernel_rfl) (by simp) ?_
  refine AllReadyH.cons rfl (fun K hK => ?_) AllReadyH.nil
  go_simp
  refine (HI.out _).mono ?_
  rintro e W4 ⟨rfl, rfl⟩
  refine hK _ _ trivial ?_
  clear hK K
  intro _
  try simp only [Act.put, List.setIfInBounds_toArray, List.set_cons_zero, List.set_cons_succ, List.getElem_toArray, List.getElem_cons_succ, List.getElem_cons_zero]
  refine wpAnyH_ready (rs := [8]) (by kernel_rfl) (by simp) ?_
  refine AllReadyH.cons rfl (fun K hK => ?_) AllReadyH.nil
  go_simp
  refine hK _ _ trivial ?_
  clear hK K
  intro _
  try simp only [Act.put, List.setIfInBounds_toArray, List.set_cons_zero, List.set_cons_succ, List.getElem_toArray, List.getElem_cons_succ, List.getElem_cons_zero]
  refine wpAnyH_done (by kernel_rfl) ?_ _
  go_wp2_with fail
  rw [Exit.noGoto_ret]
  dsimp +zetaDelta only [Exit.inBlock, Exit.then]
  rw [Exit.noGoto_ret]
  try dsimp +zetaDelta only [Exit.inBlock, Exit.then]
  go_ret
  exact ⟨rfl, HB.out⟩
end Go.Proofs.YtmolfmgchbjnbaaGreatDoor
namespace Go.Proofs.YtmolfmgchbjnbaaGreatDoor
open Go.RowKit
abbrev blk3 : ByteArray := ⟨#[32, 9, 10]⟩
theorem next3 (w : World) (ty : TypeId) : (Instr.next (.pointer (some ⟨w.heap.size, 0, none⟩)) true ty).run Tryz.prog (w.iter blk3 0) = .ok (.tuple #[.bool true, .int .i64 0, .int .i32 32]) (w.iter blk3 1) ∧
  (Instr.next (.pointer (some ⟨w.heap.size, 0, none⟩)) true ty).run Tryz.prog (w.iter blk3 1) = .ok (.tuple #[.bool true, .int .i64 1, .int .i32 9]) (w.iter blk3 2) ∧
  (Instr.next (.pointer (some ⟨w.heap.size, 0, none⟩)) true ty).run Tryz.prog (w.iter blk3 2) = .ok (.tuple #[.bool true, .int .i64 2, .int .i32 10]) (w.iter blk3 3) ∧
  (Instr.next (.pointer (some ⟨w.heap.size, 0, none⟩)) true ty).run Tryz.prog (w.iter blk3 3) = .ok (.tuple #[.bool false]) (w.iter blk3 3) := by
 refine ⟨?_, ?_, ?_, ?_⟩
 ·exact run_next_any w blk3 0 ty (by decide)
 ·exact run_next_any w blk3 1 ty (by decide)
 ·exact run_next_any w blk3 2 ty (by decide)
 ·exact run_next_end w blk3 3 ty (by decide)
set_option maxRecDepth 100000 in
set_option maxHeartbeats 4000000 in
theorem ir_err (w : World) :
  Calls Tryz.prog 360 #[.string ⟨#[32, 9, 10]⟩, .int .i32 65533] w fun e w' => e = .returned (.int .i64 (-1)) ∧ Below w.heap.size w w' := by
 obtain ⟨n0, n1, n2, n3⟩ : (∀ ty, _) ∧ (∀ ty, _) ∧ (∀ ty, _) ∧ (∀ ty, _) := ⟨fun ty => (next3 w ty).1, fun ty => (next3 w ty).2.1, fun ty => (next3 w ty).2.2.1, fun ty => (next3 w ty).2.2.2⟩
 go_enter Tryz.func360, Tryz.ntmps360
 go_wp2_with fail
 go_loopw [5, 6] (fun _ _ wr => Hid (∃ pos, pos ≤ 3 ∧ wr = w.iter blk3 pos)) (fun _ _ wr => 3 - wr.iterPos w.heap.size)
 case atStart => exact ⟨0, by decide, rfl⟩
 case round =>
  obtain ⟨pos, hp, rfl⟩ := hrel.out
  clear hrel
  rcases (by omega : pos = 0 ∨ pos = 1 ∨ pos = 2 ∨ pos = 3) with rfl | rfl | rfl | rfl
  ·obtain ⟨V, hV⟩ : ∃ V, w.iter blk3 1 = V := ⟨_, rfl⟩
   have HR : Hid (∃ pos, pos ≤ 3 ∧ V = w.iter blk3 pos) := ⟨1, by decide, hV.symm⟩
   have HM : Hid (3 - V.iterPos w.heap.size < 3 - (w.iter blk3 0).iterPos w.heap.size) := by
    show _ < _
    rw [← hV, World.iterPos_iter, World.iterPos_iter]
    decide
   rw [hV] at n0
   clear hV
   clear n1 n2 n3
   go_wp2_with fail
   exact ⟨HR, HM.out⟩
  ·obtain ⟨V, hV⟩ : ∃ V, w.iter blk3 2 = V := ⟨_, rfl⟩
   have HR : Hid (∃ pos, pos ≤ 3 ∧ V = w.iter blk3 pos) := ⟨2, by decide, hV.symm⟩
   have HM : Hid (3 - V.iterPos w.heap.size < 3 - (w.iter blk3 1).iterPos w.heap.size) := by
    show _ < _
    rw [← hV, World.iterPos_iter, World.iterPos_iter]
    decide
   rw [hV] at n1
   clear hV
   clear n0 n2 n3
   go_wp2_with fail
   exact ⟨HR, HM.out⟩
  ·obtain ⟨V, hV⟩ : ∃ V, w.iter blk3 3 = V := ⟨_, rfl⟩
   have HR : Hid (∃ pos, pos ≤ 3 ∧ V = w.iter blk3 pos) := ⟨3, by decide, hV.symm⟩
   have HM : Hid (3 - V.iterPos w.heap.size < 3 - (w.iter blk3 2).iterPos w.heap.size) := by
    show _ < _
    rw [← hV, World.iterPos_iter, World.iterPos_iter]
    decide
   rw [hV] at n2
   clear hV
   clear n0 n1 n3
   go_wp2_with fail
   exact ⟨HR, HM.out⟩
  ·have HB : Hid (Below w.heap.size w (w.iter blk3 3)) := (Below.refl _ w).alloc (Nat.le_refl _) _
   clear n0 n1 n2
   generalize w.iter blk3 3 = V at n3 HB ⊢
   go_wp2_with fail
   go_ret
   exact ⟨rfl, HB.out⟩
end Go.Proofs.YtmolfmgchbjnbaaGreatDoor
namespace Go.Proofs.YtmolfmgchbjnbaaGreatDoor
open Go.RowKit
def blankR (x : Nat) : Bool := decide (x = 32 ∨ x = 9 ∨ x = 10)
theorem ir_high (x : Nat) (h0 : 128 ≤ x) (h1 : x ≤ 1114111) (w : World) :
  Calls Tryz.prog 360 #[.string ⟨#[32, 9, 10]⟩, .int .i32 (x : Int)] w fun e w' => e = .returned (.int .i64 (-1)) ∧ Below w.heap.size w w' := by
 rcases Decidable.em (x = 65533) with rfl | hx
 ·exact ir_err w
 cases hv : Lib.validRune (x : Int) with
 | false => exact (ir_bad x (by omega) (by omega) hv w).mono fun e w' ⟨h, hw⟩ => ⟨h, by rw [hw]; exact Below.refl _ _⟩
 | true =>
  rcases Nat.lt_or_ge x 2048 with c | c
  ·exact ir_two x (by omega) (by omega) w
  rcases Nat.lt_or_ge x 65536 with c' | c'
  ·exact ir_three x (by omega) (by omega) (by omega) hv w
  ·exact (ir_four x (by omega) hv w).mono fun e w' ⟨h, hw⟩ => ⟨h, by rw [hw]; exact Below.refl _ _⟩
set_option maxRecDepth 100000 in
set_option maxHeartbeats 4000000 in
theorem contains_high (x : Nat) (h0 : 128 ≤ x) (h1 : x ≤ 1114111) (w : World) :
  Calls Tryz.prog 349 #[.string ⟨#[32, 9, 10]⟩, .int .i32 (x : Int)] w fun e w' => e = .returned (.bool false) ∧ Below w.heap.size w w' := by
 have HI : Hid _ := fun (_ : Unit) => ir_high x h0 h1 w
 clear h0 h1
 go_enter Tryz.func349, Tryz.ntmps349
 go_wp2_with fail
 refine (HI.out ()).mono ?_
 rintro e w' ⟨rfl, hb⟩
 have HB : Hid _ := hb
 clear hb HI
 go_wp2_with fail
 go_ret
 exact ⟨rfl, HB.out⟩
theorem contains_any (x : Nat) (h1 : x ≤ 1114111) (w : World) :
    Calls Tryz.prog 349 #[.string ⟨#[32, 9, 10]⟩, .int .i32 (x : Int)] w fun e w' => e = .returned (.bool (blankR x)) ∧ Below w.heap.size w w' := by
  rcases Nat.lt_or_ge x 128 with c | c
  · refine (Tryz.strings_ContainsRune_ascii ⟨#[32, 9, 10]⟩ x w (by omega) (by omega)).mono ?_
    rintro e w' ⟨rfl, rfl⟩
    refine ⟨?_, Below.refl _ _⟩
    have : ∀ x : Fin 128, decide (0 ≤ Lib.indexByte (⟨#[32, 9, 10]⟩ : ByteArray).data.toList ((x.val : Nat) : Int).toNat.toUInt8) = blankR x.val := by decide
    rw [this ⟨x, c⟩]
  · have e : blankR x = false := by unfold blankR; simp; omega
    rw [e]
    exact contains_high x c h1 w
set_option maxRecDepth 100000 in
set_option maxHeartbeats 4000000 in
theorem isBlank_any (x : Nat) (h1 : x ≤ 1114111) (w : World) :
  Calls Tryz.prog 321 #[.int .i32 (x : Int)] w fun e w' => e = .returned (.bool (blankR x)) ∧ Below w.heap.size w w' := by
 have HI : Hid _ := fun (_ : Unit) => contains_any x h1 w
 generalize blankR x = b at HI ⊢
 clear h1
 go_enter Tryz.func321, Tryz.ntmps321
 go_wp2_with fail
 refine (HI.out ()).mono ?_
 rintro e w' ⟨rfl, hb⟩
 have HB : Hid _ := hb
 clear hb HI
 go_wp2_with fail
 go_ret
 exact ⟨rfl, HB.out⟩
theorem blank_grows (w : World) : PredGrows Tryz.prog 321 #[] blankR w := fun W x hx _ => isBlank_any x hx W
end Go.Proofs.YtmolfmgchbjnbaaGreatDoor
