import Derived.Test.YtmolfmgchbjnbaaGreatDoorM50
import Derived.Test.YtmolfmgchbjnbaaGreatDoorM45
import Derived.Test.YtmolfmgchbjnbaaGreatDoorM46
set_option linter.unusedSimpArgs false
set_option linter.unusedVariables false
namespace Go.Proofs.YtmolfmgchbjnbaaGreatDoor
open Go.RowKit
open Wire Flow Mach
def lineB (e : ByteArray × Nat) : ByteArray := ⟨(joinF [e.1, itoaB (e.2 : Int)]).toArray⟩
theorem lineB_eq (e : ByteArray × Nat) : e.1 ++ ⟨#[32]⟩ ++ itoaB (e.2 : Int) = lineB e := by
 apply ByteArray.ext
 rw [ByteArray.data_append, ByteArray.data_append]
 show e.1.data ++ #[32] ++ (itoaB (e.2 : Int)).data = (bl e.1 ++ 32 :: bl (itoaB (e.2 : Int))).toArray
 apply Array.ext'
 simp [bl]
theorem itoaB_size (n : Nat) (h : n ≤ 1000) : (itoaB (n : Int)).size ≤ 100 := by
 have := Lib.itoa_length_le (n : Int) (by omega) (by omega)
 show (Lib.itoa _).toArray.size ≤ 100
 simp
 omega
theorem lineB_size (e : ByteArray × Nat) (h : e.2 ≤ 1000 ∧ e.1.size ≤ 100) : (lineB e).size ≤ 1000 := by
 rw [← lineB_eq, ByteArray.size_append, ByteArray.size_append]
 have := itoaB_size e.2 h.1
 have h1 : (⟨#[32]⟩ : ByteArray).size = 1 := rfl
 omega
structure OwnS (W0 : World) (L : List ByteArray) (v : Value) (w : World) : Prop where
 own : w.ownsRow W0.heap.size 9 1 v L.length (L.map .string)
 fr : Fr [] W0 w
theorem OwnS.more {W0 w w' : World} {L : List ByteArray} {v : Value} (h : OwnS W0 L v w) (F : Fr [] w w') : OwnS W0 L v w' := ⟨own_of_block h.own fun g hg => F.block g (h.own.lt g hg).2 (by simp), h.fr.trans F⟩
theorem OwnS.arg {W0 w : World} {L : List ByteArray} {v : Value} (h : OwnS W0 L v w) : ArgL w v (L.map .string) := by
 obtain ⟨own, -⟩ := h
 have hl : (L.map Value.string).length = L.length := List.length_map _
 rcases own.2 with ⟨hv, h0⟩ | ⟨g, cap, cur, hv, hb, hg, hnc, hcm, r⟩
 ·exact ⟨none, 0, by rw [hv, hl, h0], by rw [hl]; omega, by omega, fun h => absurd h (by rw [hl]; omega)⟩
 ·subst hv
  refine ⟨_, cap, by rw [hl], by rw [hl]; exact hnc, by unfold maxLen at hcm; omega, fun _ => ⟨g, 0, rfl, (Array.getElem?_eq_some_iff.1 hg).1, fun j u hu => ?_⟩⟩
  rw [Nat.zero_add]
  exact own_cell own hu
set_option maxRecDepth 100000 in
set_option maxHeartbeats 4000000 in
theorem tell_any {L : Tl} (hL : L.length ≤ 30) (hb : ∀ x ∈ L, x.2 ≤ 1000 ∧ x.1.size ≤ 100) {v : Value} (W : World) (hp : PowTab W) (h : CntAt W v L) : Calls Tryz.prog 14 #[v] W fun e w => e = .returned (.tuple #[.string (linesL none0 (L.map lineB)).1, .int .i64 ((linesL none0 (L.map lineB)).2 : Nat)]) ∧ Fr [] W w := by
  have hm : Tryz.prog.follows Departure.mixedOrders = true := by kernel_rfl
  obtain ⟨i0, hi, hz0, hz1, hz2⟩ := info_parts infoA9
  obtain ⟨o, c, rfl, hc, hx⟩ := h
  have HX : Hid _ := hx
  have HB : Hid _ := hb
  have HP : Hid (∀ V, Fr [] W V → ∀ n : Nat, n ≤ 1000 → Calls Tryz.prog 12 #[.int .i64 (n : Int)] V fun e w' => e = .returned (.string (itoaB (n : Int))) ∧ Fr [] V w') := fun V F n hn => itoa_any n V (by omega) (by omega) (hp.fr F)
  have HLn : Hid (∀ (V : World) (u : Value), OwnS W (L.map lineB) u V → Calls Tryz.prog 10 #[u] V fun e w => e = .returned (.tuple #[.string (linesL none0 (L.map lineB)).1, .int .i64 ((linesL none0 (L.map lineB)).2 : Nat)]) ∧ w = V) := fun V u hu => lines_any (L.map lineB) (by rw [List.length_map]; omega) (fun s hs => by
    obtain ⟨e, he, rfl⟩ := List.mem_map.1 hs
    have := lineB_size e (hb e he)
    omega) V hu.arg
  generalize (linesL none0 (L.map lineB)).1 = R1 at *
  generalize (linesL none0 (L.map lineB)).2 = R2 at *
  clear hx hb hp
  go_enter Tryz.func14, Tryz.ntmps14
  go_wp2_with fail
  go_loopw [4, 5] (fun l q wr => ∃ (k : Nat), k ≤ L.length ∧ q = .int .i64 k ∧ Hid (OwnS W ((L.take k).map lineB) l wr)) (fun l q _ => L.length - (intOf q).toNat)
  case atStart => exact ⟨0, by omega, rfl, ⟨World.ownsRow_nil _ _ _ _, Fr.refl [] W⟩⟩
  case round =>
    obtain ⟨k, hk, rfl, J⟩ := hrel
    obtain ⟨lo, lc, rfl⟩ := own_form J.out.own
    have htk : ((L.take k).map lineB).length = k := by rw [List.length_map, List.length_take]; omega
    rw [htk]
    by_cases hlt : k < L.length
    · have g1 : (k : Int) < L.length := by omega
      have g2 : IntKind.i64.wrap ((k : Int) + 1) = ((k + 1 : Nat) : Int) := by rw [IntKind.wrap_i64]; omega
      obtain ⟨x, hx⟩ : ∃ x, L[k]? = some x := ⟨_, List.getElem?_eq_getElem hlt⟩
      obtain ⟨g, rfl, hgl, hcell⟩ := HX.out (by omega)
      obtain ⟨hb1, hb2⟩ := HB.out x (List.mem_of_getElem? hx)
      have c0 : wr.cell? ⟨g, k * 2, none⟩ = some (.string x.1) := (J.out.fr.cell (p := ⟨g, k * 2, none⟩) hgl (by simp)).trans (hcell k x hx).1
      have c1 : wr.cell? ⟨g, k * 2 + 1, none⟩ = some (.int .i64 (x.2 : Nat)) := (J.out.fr.cell (p := ⟨g, k * 2 + 1, none⟩) hgl (by simp)).trans (hcell k x hx).2
      have hi1 := itoaB_size x.2 hb1
      have hline := lineB_eq x
      have hnext : (L.take (k + 1)).map lineB = (L.take k).map lineB ++ [lineB x] := by
        rw [List.take_add_one, hx]
        simp
      have HN : Hid _ := hnext
      have Hgl : Hid _ := hgl
      clear hcell HX hx HB HLn hnext hgl
      generalize hY : lineB x = Y at *
      obtain ⟨t, n⟩ := x
      simp only at *
      clear hY
      obtain ⟨WD, hWD⟩ : ∃ WD, wr.drew = WD := ⟨_, rfl⟩
      have FD : Fr [] wr WD := by rw [← hWD]; exact (Fr.refl [] wr).drew
      have hS : WD.cell? ⟨g, k * 2, none⟩ = some (.string t) ∧ WD.cell? ⟨g, k * 2 + 1, none⟩ = some (.int .i64 (n : Nat)) := by rw [← hWD]; exact ⟨c0, c1⟩
      have HJ : Hid _ := J.out.more FD
      have HC : Hid _ := HP.out WD HJ.out.fr n hb1
      clear J FD c0 c1 HP
      go_wp2_with fail
      refine wp_region_noPanic ?_
      refine wp_region_heldD (fun V => V.cell? ⟨g, k * 2, none⟩ = some (.string t) ∧ V.cell? ⟨g, k * 2 + 1, none⟩ = some (.int .i64 (n : Nat))) hm ?_
      rw [hWD]
      refine wpAnyH_takes (fun _ _ _ _ _ h => h) hS [0, 1, 2, 3, 4, 5, 6, 7, 8, 9, 10, 11] (by kernel_rfl) ?_
      iterate 12
        refine Yls.cons (v := ?_) rfl (.inl ⟨rfl, fun w1 hS1 => ?_⟩) ?_
        rotate_left
        · obtain ⟨p0, p1⟩ := hS1
          go_simp
          first | rfl | (refine (if_neg (by omega)).trans ?_; rfl)
        simp only [Act.put, List.setIfInBounds_toArray, List.set_cons_zero, List.set_cons_succ, List.getElem_toArray, List.getElem_cons_succ, List.getElem_cons_zero]
      refine Yls.nil ?_
      refine wpAnyH_ready (rs := [12]) (by kernel_rfl) (by simp) ?_
      refine AllReadyH.cons rfl (fun K hK => ?_) AllReadyH.nil
      go_simp
      refine Calls.mono HC.out ?_
      rintro e V ⟨rfl, FV⟩
      have hS2 : V.cell? ⟨g, k * 2, none⟩ = some (.string t) ∧ V.cell? ⟨g, k * 2 + 1, none⟩ = some (.int .i64 (n : Nat)) := ⟨(FV.cell (p := ⟨g, k * 2, none⟩) (lt_of_cell hS.1) (by simp)).trans hS.1, (FV.cell (p := ⟨g, k * 2 + 1, none⟩) (lt_of_cell hS.2) (by simp)).trans hS.2⟩
      have HJ2 : Hid _ := HJ.out.more FV
      clear hS HJ HC FV
      refine hK _ _ hS2 ?_
      clear hK K
      intro _
      try simp only [Act.put, List.setIfInBounds_toArray, List.set_cons_zero, List.set_cons_succ, List.getElem_toArray, List.getElem_cons_succ, List.getElem_cons_zero]
      refine wpAnyH_takes (fun _ _ _ _ _ h => h) hS2 [13] (by kernel_rfl) ?_
      iterate 1
        refine Yls.cons (v := ?_) rfl (.inl ⟨rfl, fun w1 hS1 => ?_⟩) ?_
        rotate_left
        · obtain ⟨p0, p1⟩ := hS1
          go_simp
          first | rfl | (refine (if_neg (by omega)).trans ?_; rfl)
        simp only [Act.put, List.setIfInBounds_toArray, List.set_cons_zero, List.set_cons_succ, List.getElem_toArray, List.getElem_cons_succ, List.getElem_cons_zero]
      refine Yls.nil ?_
      refine wpAnyH_ready (rs := [14]) (by kernel_rfl) (by simp) ?_
      refine AllReadyH.cons rfl (fun K hK => ?_) AllReadyH.nil
      try rw [hline]
      have hbs := buildS22 Y V
      obtain ⟨V3, hV3⟩ : ∃ V3, V.alloc (.cells #[.string Y] 9) = V3 := ⟨_, rfl⟩
      have F3 : Fr [] V V3 := by rw [← hV3]; exact (Fr.refl [] V).alloc _
      have hS3 : V3.cell? ⟨g, k * 2, none⟩ = some (.string t) ∧ V3.cell? ⟨g, k * 2 + 1, none⟩ = some (.int .i64 (n : Nat)) := ⟨(F3.cell (p := ⟨g, k * 2, none⟩) (lt_of_cell hS2.1) (by simp)).trans hS2.1, (F3.cell (p := ⟨g, k * 2 + 1, none⟩) (lt_of_cell hS2.2) (by simp)).trans hS2.2⟩
      have hown : V3.ownsRow W.heap.size 9 1 (.slice lo k lc) k (((L.take k).map lineB).map .string) := by
        have := (HJ2.out.more F3).own
        rw [htk] at this
        exact this
      have hc3 := cells_new V #[.string Y] 9
      rw [hV3] at hc3
      obtain ⟨v', W4, hr4, hown', hgrow, -, -⟩ := run_append_own_at (P := Tryz.prog) (w := V3) W.heap.size 22 22 9 i0 _ 1 16 Tryz.underlying22 hi hz0 hz1 hz2 rfl (by decide) _ _ _ hown ⟨V.heap.size, 0, none⟩ 1 1 [.string Y] rfl hc3 (by intro u hu; simp at hu; subst hu; rfl) (by unfold maxLen; omega) (by omega) (Nat.le_trans HJ2.out.fr.size F3.size)
      have HJ4 : Hid (OwnS W ((L.take (k + 1)).map lineB) v' W4) := by
        refine ⟨?_, ?_⟩
        · rw [HN.out, List.length_append, List.map_append, htk]
          exact hown'
        · have hf := (HJ2.out.more F3).fr
          exact ⟨hgrow.os.trans hf.os, hgrow.tape.trans hf.tape, hgrow.output.trans hf.output, Nat.le_trans hf.size hgrow.size, fun q hq hn => (hgrow.block q (Nat.lt_of_lt_of_le hq hf.size) (fun z => by have := (hown.lt q z.symm).1; omega)).trans (hf.block q hq hn)⟩
      have hS4 : W4.cell? ⟨g, k * 2, none⟩ = some (.string t) ∧ W4.cell? ⟨g, k * 2 + 1, none⟩ = some (.int .i64 (n : Nat)) := by
        have hgb : W4.heap[g]? = V3.heap[g]? := hgrow.block g (lt_of_cell hS3.1) (fun z => by have := (hown.lt g z.symm).1; have := Hgl.out; omega)
        exact ⟨(World.cell?_of_block (a := ⟨g, k * 2, none⟩) hgb).trans hS3.1, (World.cell?_of_block (a := ⟨g, k * 2 + 1, none⟩) hgb).trans hS3.2⟩
      have Hr4 : Hid _ := hr4
      clear hr4 hown hown' hgrow HJ2 F3 hc3 hS2 hline
      go_simp
      refine hK _ _ hS3 ?_
      clear hK K
      intro _
      try simp only [Act.put, List.setIfInBounds_toArray, List.set_cons_zero, List.set_cons_succ, List.getElem_toArray, List.getElem_cons_succ, List.getElem_cons_zero]
      refine wpAnyH_ready (rs := [15]) (by kernel_rfl) (by simp) ?_
      refine AllReadyH.cons rfl (fun K hK => ?_) AllReadyH.nil
      refine oper_appendB (.tmp 12) (.tmp 26) 22 rfl _ _ _ rfl rfl Hr4.out ?_
      refine hK _ _ hS4 ?_
      clear hK K Hr4
      intro _
      try simp only [Act.put, List.setIfInBounds_toArray, List.set_cons_zero, List.set_cons_succ, List.getElem_toArray, List.getElem_cons_succ, List.getElem_cons_zero]
      refine wpAnyH_takes (fun _ _ _ _ _ h => h) hS4 [16] (by kernel_rfl) ?_
      iterate 1
        refine Yls.cons (v := ?_) rfl (.inl ⟨rfl, fun w1 hS1 => ?_⟩) ?_
        rotate_left
        · obtain ⟨p0, p1⟩ := hS1
          go_simp
          first | rfl | (refine (if_neg (by omega)).trans ?_; rfl)
        simp only [Act.put, List.setIfInBounds_toArray, List.set_cons_zero, List.set_cons_succ, List.getElem_toArray, List.getElem_cons_succ, List.getElem_cons_zero]
      refine Yls.nil ?_
      refine wpAnyH_done (by kernel_rfl) ?_ _
      refine NoPanic.normal ?_
      obtain ⟨vo, vc, rfl⟩ := own_form HJ4.out.own
      go_wp2
      exact ⟨⟨k + 1, by omega, by go_num, HJ4⟩, by simp [intOf]; omega⟩
    · have g1 : ¬ ((k : Int) < L.length) := by omega
      obtain rfl : k = L.length := by omega
      rw [List.take_length] at J
      have HE : Hid _ := HLn.out wr _ J.out
      rw [List.length_map] at HE
      clear HX HB HP HLn
      go_wp2_with fail
      refine Calls.mono HE.out ?_
      rintro e V ⟨rfl, hV⟩
      replace hV := hV.symm
      subst hV
      go_wp2_with fail
      go_ret2
      exact ⟨rfl, J.out.fr⟩
end Go.Proofs.YtmolfmgchbjnbaaGreatDoor
namespace Go.Proofs.YtmolfmgchbjnbaaGreatDoor
open Go.RowKit
open Wire Flow Mach
theorem cntC_take (L : Tl) : ∀ j, (cntC L).take (j * 2) = cntC (L.take j) := by
 induction L with
 | nil => intro j; simp [cntC]
 | cons a L ih =>
  intro j
  cases j with
  | zero => simp [cntC]
  | succ j =>
   show (.string a.1 :: .int .i64 (a.2 : Nat) :: cntC L).take ((j + 1) * 2) = .string a.1 :: .int .i64 (a.2 : Nat) :: cntC (L.take j)
   rw [show (j + 1) * 2 = j * 2 + 1 + 1 by omega, List.take_succ_cons, List.take_succ_cons, ih]
theorem cntC_drop (L : Tl) : ∀ j, (cntC L).drop (j * 2) = cntC (L.drop j) := by
 induction L with
 | nil => intro j; simp [cntC]
 | cons a L ih =>
  intro j
  cases j with
  | zero => simp
  | succ j =>
   show (.string a.1 :: .int .i64 (a.2 : Nat) :: cntC L).drop ((j + 1) * 2) = cntC (L.drop j)
   rw [show (j + 1) * 2 = j * 2 + 1 + 1 by omega, List.drop_succ_cons, List.drop_succ_cons, ih]
theorem cntC_len (L : Tl) : (cntC L).length = L.length * 2 := by
 induction L with
 | nil => rfl
 | cons a L ih =>
  show (cntC L).length + 1 + 1 = _
  rw [ih, List.length_cons]
  omega
theorem cntC_app (L M : Tl) : cntC (L ++ M) = cntC L ++ cntC M := by simp [cntC]
theorem dropT_none {L : Tl} {t : ByteArray} (h : t ∉ L.map Prod.fst) : dropT L t = L := by
 unfold dropT
 rw [List.filter_eq_self]
 intro e he
 simp only [decide_eq_true_eq]
 rintro rfl
 exact h (List.mem_map.2 ⟨e, he, rfl⟩)
theorem dropT_at {L : Tl} {t : ByteArray} : ∀ {j : Nat}, (L.map Prod.fst).Nodup → whr L t = (j : Int) → dropT L t = L.take j ++ L.drop (j + 1) ∧ hasT L t = true := by
 induction L with
 | nil => intro j _ h; simp [whr] at h
 | cons a L ih =>
  intro j hn h
  simp only [List.map_cons, List.nodup_cons] at hn
  simp only [whr] at h
  by_cases c : a.1 = t
  ·rw [if_pos c] at h
   obtain rfl : j = 0 := by omega
   refine ⟨?_, ?_⟩
   ·have : dropT (a :: L) t = dropT L t := by
     unfold dropT
     rw [List.filter_cons_of_neg (by simp [c])]
    rw [this, dropT_none (by rw [← c]; exact hn.1)]
    rfl
   ·show (decide (a.1 = t) || hasT L t) = true
    simp [c]
  ·rw [if_neg c] at h
   by_cases hneg : whr L t < 0
   ·rw [if_pos hneg] at h; omega
   ·rw [if_neg hneg] at h
    obtain ⟨j', rfl⟩ : ∃ j', j = j' + 1 := ⟨j - 1, by omega⟩
    obtain ⟨h1, h2⟩ := ih (j := j') hn.2 (by omega)
    refine ⟨?_, ?_⟩
    ·have : dropT (a :: L) t = a :: dropT L t := by
      unfold dropT
      rw [List.filter_cons_of_pos (by simp [c])]
     rw [this, h1]
     rfl
    ·show (decide (a.1 = t) || hasT L t) = true
     simp [h2]
theorem nodup_drop {L : Tl} {t : ByteArray} (h : (L.map Prod.fst).Nodup) : ((dropT L t).map Prod.fst).Nodup := h.sublist (List.Sublist.map _ List.filter_sublist)
theorem nodup_snoc {L : Tl} {t : ByteArray} {i : Nat} (h : (L.map Prod.fst).Nodup) (hh : hasT L t = false) : ((L ++ [(t, i)]).map Prod.fst).Nodup := by
 rw [List.map_append, List.nodup_append]
 refine ⟨h, by simp, ?_⟩
 intro a ha b hb q
 simp at hb
 subst hb
 subst q
 obtain ⟨e, he, rfl⟩ := List.mem_map.1 ha
 have := hasT_mem (L := L) (t := e.1) (n := e.2) he
 rw [hh] at this
 cases this
theorem addr_add (g o q : Nat) : (⟨g, o, none⟩ : Addr).add q = ⟨g, o + q, none⟩ := by cases q <;> simp [Addr.add]
theorem sl_to (gl n lc j : Nat) (h : j ≤ lc) (W : World) : (Instr.slice 34 (.slice (some ⟨gl, 0, none⟩) n lc) none (some (.int .i64 (j : Int))) none).run Tryz.prog W = .ok (.slice (some ⟨gl, 0, none⟩) j lc) W := by
 have h2 : (j : Int) ≤ lc := by omega
 simp [Instr.slice, Sem.run_bind, run_underlying Tryz.underlying34, go_sem, h2]
theorem sl_from (gl n lc j : Nat) (h : j ≤ n) (hc : n ≤ lc) (W : World) : (Instr.slice 34 (.slice (some ⟨gl, 0, none⟩) n lc) (some (.int .i64 (j : Int))) none none).run Tryz.prog W = .ok (.slice (some (if lc = j then ⟨gl, 0, none⟩ else ⟨gl, j * 2, none⟩)) (n - j) (lc - j)) W := by
 have h2 : (j : Int) ≤ n := by omega
 have h3 : (n : Int) ≤ lc := by omega
 by_cases c : lc = j
 ·subst c
  simp [Instr.slice, Sem.run_bind, run_underlying Tryz.underlying34, go_sem, h2, h3]
 ·simp [Instr.slice, Sem.run_bind, run_underlying Tryz.underlying34, go_sem, h2, h3, c]
theorem OwnC.cut {W w : World} {L : Tl} {g cap j : Nat} (J : OwnC W L (.slice (some ⟨g, 0, none⟩) L.length cap) w) (hj : j < L.length) (hL : L.length ≤ 30) {a2 : Addr} (ha : a2 = ⟨g, (j + 1) * 2, none⟩ ∨ j + 1 = L.length) (c1 c2 : Nat) :
  ∃ v1 w1, (Builtin.append_ #[34, 34] 34 #[.slice none 0 0, .slice (some ⟨g, 0, none⟩) j c1]).run Tryz.prog w = .ok v1 w1 ∧ (∃ o1 k1, v1 = .slice o1 j k1) ∧
   ∃ v2 w2, (Builtin.append_ #[34, 34] 34 #[v1, .slice (some a2) (L.length - (j + 1)) c2]).run Tryz.prog w1 = .ok v2 w2 ∧ OwnC W (L.take j ++ L.drop (j + 1)) v2 w2 := by
 obtain ⟨i0, hi, hz0, hz1, hz2⟩ := info_parts info54
 have hown := J.own
 have hc : ∀ q u, (cntC L)[q]? = some u → w.cell? ⟨g, q, none⟩ = some u := fun q u hu => own_cell hown hu
 have hone : ∀ u ∈ cntC L, u.oneCell' = true := by
  intro u hu
  obtain ⟨e, -, he⟩ := List.mem_flatMap.1 hu
  simp only [cntE, List.mem_cons, List.not_mem_nil, or_false] at he
  rcases he with rfl | rfl <;> rfl
 have hgl := (hown.lt g rfl)
 obtain ⟨v1, w1, hr1, hown1, hgrow1, -, -⟩ := run_append_own_at (P := Tryz.prog) (w := w) W.heap.size 34 34 54 i0 _ 2 24 Tryz.underlying34 hi hz0 hz1 hz2 rfl (by decide) (.slice none 0 0) 0 [] (World.ownsRow_nil _ _ _ _) ⟨g, 0, none⟩ j c1 ((cntC L).take (j * 2)) (by rw [List.length_take, cntC_len]; omega) (fun q u hu => by
   rw [add_plainA]
   rw [List.getElem?_take] at hu
   split at hu
   ·exact hc q u hu
   ·cases hu) (fun u hu => hone u (List.mem_of_mem_take hu)) (by unfold maxLen; omega) (by omega) J.fr.size
 simp only [Nat.zero_add, List.nil_append] at hown1
 have hblk : w1.heap[g]? = w.heap[g]? := hgrow1.block g hgl.2 (by simp [Value.ownBlock])
 obtain ⟨o1, k1, hv1⟩ := own_form hown1
 refine ⟨v1, w1, hr1, ⟨o1, k1, hv1⟩, ?_⟩
 have hf1 : Fr [] W w1 := ⟨hgrow1.os.trans J.fr.os, hgrow1.tape.trans J.fr.tape, hgrow1.output.trans J.fr.output, Nat.le_trans J.fr.size hgrow1.size, fun q hq hn => (hgrow1.block q (Nat.lt_of_lt_of_le hq J.fr.size) (by simp [Value.ownBlock])).trans (J.fr.block q hq hn)⟩
 obtain ⟨v2, w2, hr2, hown2, hgrow2, -, -⟩ := run_append_own_at (P := Tryz.prog) (w := w1) W.heap.size 34 34 54 i0 _ 2 24 Tryz.underlying34 hi hz0 hz1 hz2 rfl (by decide) v1 j ((cntC L).take (j * 2)) hown1 a2 (L.length - (j + 1)) c2 ((cntC L).drop ((j + 1) * 2)) (by rw [List.length_drop, cntC_len]; omega) (fun q u hu => by
   rw [List.getElem?_drop] at hu
   rcases ha with rfl | ha
   ·rw [addr_add]
    refine (World.cell?_of_block (a := ⟨g, (j + 1) * 2 + q, none⟩) hblk).trans (hc _ u hu)
   ·have := (List.getElem?_eq_some_iff.1 hu).1
    rw [cntC_len] at this
    omega) (fun u hu => hone u (List.mem_of_mem_drop hu)) (by unfold maxLen; omega) (by omega) hf1.size
 refine ⟨v2, w2, hr2, ?_, ?_⟩
 ·rw [cntC_take, cntC_drop, ← cntC_app] at hown2
  have : (L.take j ++ L.drop (j + 1)).length = j + (L.length - (j + 1)) := by simp; omega
  rw [this]
  exact hown2
 ·exact ⟨hgrow2.os.trans hf1.os, hgrow2.tape.trans hf1.tape, hgrow2.output.trans hf1.output, Nat.le_trans hf1.size hgrow2.size, fun q hq hn => (hgrow2.block q (Nat.lt_of_lt_of_le hq hf1.size) (fun z => by have := (hown1.lt q z.symm).1; omega)).trans (hf1.block q hq hn)⟩
set_option maxRecDepth 100000 in
set_option maxHeartbeats 4000000 in
theorem toggled_any {recs : List ByteArray} (hn : recs.length ≤ 50) (hsz : ∀ s ∈ recs, s.size ≤ 100) {v : Value} (W : World) (h : ArgL W v (recs.map .string)) : Calls Tryz.prog 15 #[v] W (CntR (togF 0 [] recs) W) := by
  have hm : Tryz.prog.follows Departure.mixedOrders = true := by kernel_rfl
  obtain ⟨i0, hi, hz0, hz1, hz2⟩ := info_parts info54
  obtain ⟨o, c, rfl, hc, hc2, hx⟩ := h
  rw [List.length_map] at hc hx ⊢
  have HX : Hid _ := hx
  have HZ : Hid _ := hsz
  obtain ⟨R, hR⟩ : ∃ R, togF 0 [] recs = R := ⟨_, rfl⟩
  rw [hR]
  have HR : Hid (togF 0 [] (recs.drop 0) = R) := hR
  clear hx hR hsz
  go_enter Tryz.func15, Tryz.ntmps15
  go_wp2_with fail
  go_loopw [4, 5] (fun l q wr => ∃ (k : Nat) (L : Tl), k ≤ recs.length ∧ q = .int .i64 k ∧ L.length ≤ 30 ∧ Hid (OwnC W L l wr) ∧ Hid (∀ x ∈ L, x.2 ≤ k ∧ x.1.size ≤ 100) ∧ Hid ((L.map Prod.fst).Nodup) ∧ Hid (togF k L (recs.drop k) = R)) (fun l q _ => recs.length - (intOf q).toNat)
  case atStart => exact ⟨0, [], by omega, rfl, by simp, OwnC.start (Fr.refl [] W), (fun x hx => by cases hx), List.nodup_nil, HR.out⟩
  case round =>
    clear HR
    obtain ⟨k, L, hk, rfl, hL, J, HB, HD, HC⟩ := hrel
    obtain ⟨lo, lc, rfl⟩ := own_form J.out.own
    by_cases hlt : k < recs.length
    · have g1 : (k : Int) < recs.length := by omega
      have g2 : IntKind.i64.wrap ((k : Int) + 1) = ((k + 1 : Nat) : Int) := by rw [IntKind.wrap_i64]; omega
      obtain ⟨x, hx⟩ : ∃ x, recs[k]? = some x := ⟨_, List.getElem?_eq_getElem hlt⟩
      obtain ⟨g, off, rfl, hgl, hcell⟩ := HX.out (by omega)
      have c1 : wr.cell? ⟨g, off + k, none⟩ = some (.string x) := (J.out.fr.cell (p := ⟨g, off + k, none⟩) hgl (by simp)).trans (hcell k _ (by rw [List.getElem?_map, hx]; rfl))
      have hxs := HZ.out x (List.mem_of_getElem? hx)
      have hd : recs.drop k = x :: recs.drop (k + 1) := by
        rw [List.drop_eq_getElem_cons hlt]
        congr 1
        rw [List.getElem?_eq_getElem hlt] at hx
        exact Option.some.inj hx
      have HS : Hid (togF k L (x :: recs.drop (k + 1)) = R) := by rw [← hd]; exact HC.out
      have HW : Hid _ := word_any x (by omega) wr
      have HH : Hid _ := where_any (L := L) (by omega) wr (cnt_of_own J.out.own) (wordL x)
      have hts : (wordL x).size ≤ 100 := Nat.le_trans (wordL_size x) hxs
      have HCS : Hid (togF k L (x :: recs.drop (k + 1)) = (togS L (wordL x) (k + 1)).bind fun L' => togF (k + 1) L' (recs.drop (k + 1))) := rfl
      clear hcell HX hx hd HZ HC hgl
      generalize wordL x = t at *
      go_wp2_with fail
      refine Calls.mono HW.out ?_
      rintro e W1 ⟨rfl, hW1⟩
      replace hW1 := hW1.symm
      subst hW1
      go_wp2_with fail
      refine Calls.mono HH.out ?_
      rintro e W1 ⟨rfl, hW1⟩
      replace hW1 := hW1.symm
      subst hW1
      clear HW HH
      rcases whr_cases L t with ⟨hw, hh⟩ | ⟨j, hw, hj⟩
      · rw [hw]
        by_cases hf : 30 ≤ L.length
        · have g3 : (30 : Int) ≤ L.length := by omega
          have Hnone : Hid (R = none) := by
            have e := HS.out
            rw [HCS.out] at e
            unfold togS at e
            rw [if_neg (by rw [hh]; decide), if_pos hf] at e
            exact e.symm
          go_wp2_with fail
          go_ret2
          have := Hnone.out
          subst this
          exact ⟨_, rfl, J.out.fr, ⟨none, 0, rfl, Nat.le_refl _, fun h => by simp at h⟩, by simp, fun x hx => by cases hx⟩
        · have g3 : ¬ (30 : Int) ≤ L.length := by omega
          have Hnext : Hid (togF (k + 1) (L ++ [(t, k + 1)]) (recs.drop (k + 1)) = R) := by
            have e := HS.out
            rw [HCS.out] at e
            unfold togS at e
            rw [if_neg (by rw [hh]; decide), if_neg hf] at e
            exact e
          have Hnd : Hid _ := nodup_snoc (i := k + 1) HD.out hh
          have hbd := build54 t ((k + 1 : Nat) : Int)
          have hbs := buildS34 t ((k + 1 : Nat) : Int)
          have hown := J.out.own
          have hsz2 := J.out.fr.size
          go_wp2_with (at_builtin; refine wpList_append_own _ rfl _ _ 34 rfl W.heap.size 54 i0 (.agg #[.string ⟨#[]⟩, .int .i64 0]) 2 24 Tryz.underlying34 hi hz0 hz1 hz2 rfl (by decide) _ _ _ rfl (hown.alloc _) ⟨wr.heap.size, 0, none⟩ 1 1 [.string t, .int .i64 ((k + 1 : Nat) : Int)] rfl rfl (cells_new wr #[.string t, .int .i64 ((k + 1 : Nat) : Int)] 54) (by intro u hu; simp at hu; rcases hu with rfl | rfl <;> rfl) (by unfold maxLen; omega) (by omega) (by simp; omega) ?_)
          intro v' w3 hown' hgrow _
          have J3 : OwnC W (L ++ [(t, k + 1)]) v' w3 := (J.out.more ((Fr.refl [] wr).alloc _)).grown (e := (t, k + 1)) hown' hgrow
          have HJ3 : Hid _ := J3
          clear hown hown' hgrow J3 J
          obtain ⟨b0, cap3, rfl⟩ := own_form HJ3.out.own
          go_wp2
          refine ⟨⟨k + 1, L ++ [(t, k + 1)], by omega, by go_num, by simp; omega, HJ3, fun y hy => ?_, Hnd, Hnext⟩, by simp [intOf]; omega⟩
          rcases List.mem_append.1 hy with hy | hy
          · have := HB.out y hy; exact ⟨by omega, this.2⟩
          · simp at hy
            subst hy
            exact ⟨Nat.le_refl _, hts⟩
      · rw [hw]
        obtain ⟨hdt, hhas⟩ := dropT_at HD.out hw
        have Hnext : Hid (togF (k + 1) (dropT L t) (recs.drop (k + 1)) = R) := by
          have e := HS.out
          rw [HCS.out] at e
          unfold togS at e
          rw [if_pos hhas] at e
          exact e
        have Hnd : Hid _ := nodup_drop (t := t) HD.out
        have Hdt : Hid _ := hdt
        obtain ⟨gl, cap, hv, hcap, hgl⟩ := own_some J.out.own (by omega)
        cases hv
        have g3 : (0 : Int) ≤ j := by omega
        have g4 : (j : Int) ≤ lc := by omega
        have g5 : IntKind.i64.wrap ((j : Int) + 1) = ((j + 1 : Nat) : Int) := by rw [IntKind.wrap_i64]; omega
        clear hdt hhas hw HD hgl
        obtain ⟨a2, ha2⟩ : ∃ a2 : Addr, (if lc = j + 1 then ⟨gl, 0, none⟩ else ⟨gl, (j + 1) * 2, none⟩) = a2 := ⟨_, rfl⟩
        obtain ⟨v1, w1, hr1, ⟨o1, k1, rfl⟩, v2, w2, hr2, hJ2⟩ := (J.out.more ((Fr.refl [] wr).drew)).cut hj hL (a2 := a2) (by
          by_cases hcc : lc = j + 1
          · exact .inr (by omega)
          · rw [if_neg hcc] at ha2
            exact .inl ha2.symm) lc (lc - (j + 1))
        have hs1 := sl_to gl L.length lc j (by omega)
        have hs2 := sl_from gl L.length lc (j + 1) (by omega) hcap
        rw [ha2] at hs2
        clear ha2
        generalize hj1 : j + 1 = j1 at *
        have Hj1 : Hid _ := hj1
        clear hj1
        have Hr1 : Hid _ := hr1
        have Hr2 : Hid _ := hr2
        have HJ2 : Hid _ := hJ2
        clear hr1 hr2 hJ2 J HS HCS
        go_wp2_with fail
        refine wp_region_noPanic ?_
        refine wp_region_heldD (fun _ => True) hm ?_
        refine wpAnyH_takes (fun _ _ _ _ _ h => h) trivial [0, 1, 2, 4, 5, 6, 7] (by kernel_rfl) ?_
        iterate 7
          refine Yls.cons (v := ?_) rfl (.inl ⟨rfl, fun w1 hS1 => ?_⟩) ?_
          rotate_left
          · skip
            go_simp
            first | rfl | (refine (if_neg (by omega)).trans ?_; rfl)
          simp only [Act.put, List.setIfInBounds_toArray, List.set_cons_zero, List.set_cons_succ, List.getElem_toArray, List.getElem_cons_succ, List.getElem_cons_zero]
        refine Yls.nil ?_
        refine wpAnyH_ready (rs := [3]) (by kernel_rfl) (by simp) ?_
        refine AllReadyH.cons rfl (fun K hK => ?_) AllReadyH.nil
        refine oper_appendB (.const (.slice none 0 0)) (.tmp 26) 34 rfl _ _ _ rfl rfl Hr1.out ?_
        refine hK _ _ trivial ?_
        clear hK K
        intro _
        try simp only [Act.put, List.setIfInBounds_toArray, List.set_cons_zero, List.set_cons_succ, List.getElem_toArray, List.getElem_cons_succ, List.getElem_cons_zero]
        refine wpAnyH_ready (rs := [8]) (by kernel_rfl) (by simp) ?_
        refine AllReadyH.cons rfl (fun K hK => ?_) AllReadyH.nil
        refine oper_appendB (.tmp 27) (.tmp 31) 34 rfl _ _ _ rfl rfl Hr2.out ?_
        refine hK _ _ trivial ?_
        clear hK K
        intro _
        try simp only [Act.put, List.setIfInBounds_toArray, List.set_cons_zero, List.set_cons_succ, List.getElem_toArray, List.getElem_cons_succ, List.getElem_cons_zero]
        refine wpAnyH_takes (fun _ _ _ _ _ h => h) trivial [9] (by kernel_rfl) ?_
        iterate 1
          refine Yls.cons (v := ?_) rfl (.inl ⟨rfl, fun w1 hS1 => ?_⟩) ?_
          rotate_left
          · skip
            go_simp
            first | rfl | (refine (if_neg (by omega)).trans ?_; rfl)
          simp only [Act.put, List.setIfInBounds_toArray, List.set_cons_zero, List.set_cons_succ, List.getElem_toArray, List.getElem_cons_succ, List.getElem_cons_zero]
        refine Yls.nil ?_
        refine wpAnyH_done (by kernel_rfl) ?_ _
        refine NoPanic.normal ?_
        obtain ⟨vo, vc, rfl⟩ := own_form HJ2.out.own
        rw [← Hdt.out] at HJ2 ⊢
        go_wp2
        refine ⟨⟨k + 1, dropT L t, by omega, by go_num, ?_, HJ2, fun y hy => ?_, Hnd, Hnext⟩, by simp [intOf]; omega⟩
        · exact Nat.le_trans (List.length_filter_le _ _) hL
        · have := HB.out y (List.mem_filter.1 hy).1
          exact ⟨by omega, this.2⟩
    · have g1 : ¬ ((k : Int) < recs.length) := by omega
      have Hend : Hid (R = some L) := by
        have e := HC.out
        rw [List.drop_eq_nil_of_le (by omega)] at e
        exact e.symm
      go_wp2_with fail
      go_ret2
      have := Hend.out
      subst this
      exact ⟨_, rfl, J.out.fr, cnt_of_own J.out.own, hL, fun y hy => by have := HB.out y hy; exact ⟨by omega, this.2⟩⟩
end Go.Proofs.YtmolfmgchbjnbaaGreatDoor
namespace Go.Proofs.YtmolfmgchbjnbaaGreatDoor
open Go.RowKit
open Wire Flow
theorem entered328 : ∃ fn, Ev.entered Tryz.prog 328 = some fn := by
 have h : (Ev.entered Tryz.prog 328).isSome = true := by kernel_rfl
 exact Option.isSome_iff_exists.1 h
theorem both_ok : ∀ f args h r, Ev.bothX 58 328 f args h = some (some r) → (∃ fn, Ev.entered Tryz.prog f = some fn) ∧ ∀ m w args', Ev.Rel Tryz.prog 2 m h w → Ev.L2 (Ev.S3 m) args args'.toList → Calls Tryz.prog f args' w fun
  | .returned v', w' => Ev.Wrote Tryz.prog 2 m h w r v' w'
  | _, _ => False :=
 Ev.bothX_ok Ev.entered58 (fun s w hs => (clone_any s w hs).mono fun e w' h => ⟨h.1, h.2.kept⟩) entered328 (fun s c w h1 h2 => (Tryz.strings_Repeat s c w (by omega) (by omega)).mono fun e w' h => ⟨h.1, (Fr.of_below h.2).kept⟩)
theorem count_src : SrcOk Ev.countS ⟨Ev.countB.toArray⟩ countM 1 1 := ⟨count_closed, fun W ht => Ev.closedModX Ev.mixed ht both_ok (args := [.string ⟨Ev.countB.toArray⟩]) rfl count_read, fun w ht => Ev.count_compiles ht⟩
theorem toggle_src : SrcOk Ev.toggleS ⟨Ev.toggleB.toArray⟩ toggleM 1 1 := ⟨toggle_closed, fun W ht => Ev.closedModX Ev.mixed ht both_ok (args := [.string ⟨Ev.toggleB.toArray⟩]) rfl toggle_read, fun w ht => Ev.toggle_compiles ht⟩
theorem scr_goodT {m : Mo} (hM : Mach.ModOk m) {recs : List ByteArray} (hs : Scr recs []) : Mach.Good (envP m) (Mach.begin_ m recs []) := by
 obtain ⟨h1, h2, h3, h4⟩ := hs
 refine Mach.good_begin (E := envP m) hM h1 (fun s hs => ?_) h2 (fun n hn => by cases hn)
 by_cases c : s.size ≤ 100
 ·exact c
 ·exact absurd ⟨s, hs, show 100 < s.size by omega⟩ h3
theorem talE_st (E : Mach.Env) (out : ByteArray) (R : Option Mach.Tl) : (Mach.talE E out R).2 ≠ 0 := by
 cases R with
 | none => show (7 : Nat) ≠ 0; decide
 | some L =>
  have := Mach.linesL_st out (L.map (Mach.lineT E))
  show (Mach.linesL out (L.map (Mach.lineT E))).2 ≠ 0
  omega
theorem count_run {recs : List ByteArray} (hs : Scr recs []) {D : Mach.St} (h : Mach.Plays (envP countM) 100000 (Mach.begin_ countM recs []) D) : D.st = (Mach.talE (envP countM) Mach.none0 (Mach.cntF [] recs)).2 ∧ D.code = 0 ∧ D.w.out = (Mach.talE (envP countM) Mach.none0 (Mach.cntF [] recs)).1 := by
 have hE := goE_closed count_closed
 have hl := hs.1
 obtain ⟨n, D', h1, h2, h3, h4, h5⟩ := Mach.count_rest (recs := recs) (draws := []) (drawn := 0) hE.sm hE.mod rfl recs 0 Mach.none0 [] [] Mach.none0 Mach.nothing ⟨0, 0, [], []⟩ 0 0 rfl (.inl rfl) (fun x hx => by cases hx) (by omega) (scr_goodT hE.mod hs)
 have := Mach.Plays.unique h (h2.till (by rw [h3]; exact talE_st _ _ _) (N := 100000) (by omega))
 subst this
 exact ⟨h3, h4, h5⟩
theorem toggle_run {recs : List ByteArray} (hs : Scr recs []) {D : Mach.St} (h : Mach.Plays (envP toggleM) 100000 (Mach.begin_ toggleM recs []) D) : D.st = (Mach.talE (envP toggleM) Mach.none0 (Mach.togF 0 [] recs)).2 ∧ D.code = 0 ∧ D.w.out = (Mach.talE (envP toggleM) Mach.none0 (Mach.togF 0 [] recs)).1 := by
 have hE := goE_closed toggle_closed
 have hl := hs.1
 obtain ⟨n, D', h1, h2, h3, h4, h5⟩ := Mach.toggle_rest (recs := recs) (draws := []) (drawn := 0) hE.sm hE.mod rfl recs 0 Mach.none0 [] [] Mach.none0 Mach.nothing ⟨0, 0, [], []⟩ 0 rfl (.inl rfl) (scr_goodT hE.mod hs)
 have := Mach.Plays.unique h (h2.till (by rw [h3]; exact talE_st _ _ _) (N := 100000) (by omega))
 subst this
 exact ⟨h3, h4, h5⟩
set_option maxRecDepth 100000 in
set_option maxHeartbeats 2000000 in
theorem shows_int (q : Int) (out : ByteArray) (u : Int) (W : World) :
  Calls Tryz.prog 11 #[.agg #[.int .i64 q, .int .i64 0, .string out, .int .i64 u], .string out, .int .i64 q] W fun e w => e = .returned (.bool true) ∧ Fr [] W w := by
 have F1 : Fr [] W (W.alloc (.cells #[.int .i64 q, .int .i64 0, .string out, .int .i64 u] 26)) := (Fr.refl [] W).alloc _
 have HF : Hid _ := F1
 clear F1
 go_enter Tryz.func11, Tryz.ntmps11
 go_wp2_with fail
 go_ret
 exact ⟨rfl, HF.out⟩
def Said (R : Option Mach.Tl) (o : ByteArray) (s q : Int) (b : Bool) : Prop := b = R.isSome ∧ (Mach.linesL Mach.none0 ((R.getD []).map lineB)).1 = o ∧ (((Mach.linesL Mach.none0 ((R.getD []).map lineB)).2 : Nat) : Int) = s ∧ ((b = true ∧ s = q) ∨ (b = false ∧ q = 7))
theorem said_of {m : Mo} (R : Option Mach.Tl) : ∃ s b, Said R (Mach.talE (envP m) Mach.none0 R).1 s (((Mach.talE (envP m) Mach.none0 R).2 : Nat) : Int) b := by
 cases R with
 | none => exact ⟨_, false, rfl, rfl, rfl, .inr ⟨rfl, rfl⟩⟩
 | some L => exact ⟨_, true, rfl, rfl, rfl, .inl ⟨rfl, rfl⟩⟩
section
variable {W : World} {recs : List ByteArray}
set_option maxRecDepth 100000 in
set_option maxHeartbeats 8000000 in
theorem tallies_any (hb : Base W) (ht : Ev.TabS Ev.signs W) {v : Value} (hr : ArgL W v (recs.map .string)) : Calls Tryz.prog 4 #[v] W fun e w => e = .returned (.bool true) ∧ Fr [] W w := by
 have HC : Hid _ := scripted_any hr (nilD W)
 have HB : Hid (¬ Scr recs [] → Calls Tryz.prog 8 #[.string Ev.countS, v] W fun e w => e = .returned (.bool true) ∧ Fr [] W w) := fun hs => barred_any count_src hb ht hr hs
 obtain ⟨s1, b1, S1⟩ := said_of (m := countM) (Mach.cntF [] recs)
 obtain ⟨s2, b2, S2⟩ := said_of (m := toggleM) (Mach.togF 0 [] recs)
 have HP1 : Hid (Scr recs [] → Calls Tryz.prog 9 #[.string Ev.countS, v] W fun e w => Fr [] W w ∧ ∃ u : Int, e = .returned (.tuple #[.agg #[.int .i64 (((Mach.talE (envP countM) Mach.none0 (Mach.cntF [] recs)).2 : Nat) : Int), .int .i64 0, .string (Mach.talE (envP countM) Mach.none0 (Mach.cntF [] recs)).1, .int .i64 u], .bool true])) := fun hs => by
  refine (played_any count_src hb ht hr hs).mono ?_
  rintro e w ⟨F, D, hP, rfl⟩
  obtain ⟨h1, h2, h3⟩ := count_run hs hP
  exact ⟨F, _, by unfold stV; rw [h1, h2, h3]⟩
 have HP2 : Hid (Scr recs [] → ∀ V, Fr [] W V → Calls Tryz.prog 9 #[.string Ev.toggleS, v] V fun e w => Fr [] V w ∧ ∃ u : Int, e = .returned (.tuple #[.agg #[.int .i64 (((Mach.talE (envP toggleM) Mach.none0 (Mach.togF 0 [] recs)).2 : Nat) : Int), .int .i64 0, .string (Mach.talE (envP toggleM) Mach.none0 (Mach.togF 0 [] recs)).1, .int .i64 u], .bool true])) := fun hs V FV => by
  refine (played_any toggle_src (hb.fr FV) (ht.fr FV) (hr.fr FV) hs).mono ?_
  rintro e w ⟨F, D, hP, rfl⟩
  obtain ⟨h1, h2, h3⟩ := toggle_run hs hP
  exact ⟨F, _, by unfold stV; rw [h1, h2, h3]⟩
 generalize (Mach.talE (envP countM) Mach.none0 (Mach.cntF [] recs)).1 = o1 at *
 generalize (((Mach.talE (envP countM) Mach.none0 (Mach.cntF [] recs)).2 : Nat) : Int) = q1 at *
 generalize (Mach.talE (envP toggleM) Mach.none0 (Mach.togF 0 [] recs)).1 = o2 at *
 generalize (((Mach.talE (envP toggleM) Mach.none0 (Mach.togF 0 [] recs)).2 : Nat) : Int) = q2 at *
 obtain ⟨hb1, ho1, hs1, hq1⟩ := S1
 obtain ⟨hb2, ho2, hs2, hq2⟩ := S2
 have hsz : Scr recs [] → recs.length ≤ 50 ∧ ∀ s ∈ recs, s.size ≤ 100 := fun hs => ⟨hs.1, fun s hm => by
  by_cases c : s.size ≤ 100
  ·exact c
  ·exact absurd ⟨s, hm, show 100 < s.size by omega⟩ hs.2.2.1⟩
 have HT1 : Hid (Scr recs [] → ∀ V, Fr [] W V → Calls Tryz.prog 13 #[v] V fun e w => ∃ l, e = .returned (.tuple #[l, .bool b1]) ∧ Fr [] V w ∧ ∀ U, Fr [] w U → Calls Tryz.prog 14 #[l] U fun e w => e = .returned (.tuple #[.string o1, .int .i64 s1]) ∧ Fr [] U w) := fun hs V FV => by
  refine (counted_any (hsz hs).1 (hsz hs).2 V (hr.fr FV)).mono ?_
  rintro e w ⟨l, rfl, F, hC, hL, hB⟩
  refine ⟨l, by rw [hb1], F, fun U FU => ?_⟩
  refine (tell_any hL hB U ((hb.fr ((FV.trans F).trans FU)).pow) (hC.fr FU)).mono ?_
  rintro e w ⟨rfl, F2⟩
  exact ⟨by rw [ho1, hs1], F2⟩
 have HT2 : Hid (Scr recs [] → ∀ V, Fr [] W V → Calls Tryz.prog 15 #[v] V fun e w => ∃ l, e = .returned (.tuple #[l, .bool b2]) ∧ Fr [] V w ∧ ∀ U, Fr [] w U → Calls Tryz.prog 14 #[l] U fun e w => e = .returned (.tuple #[.string o2, .int .i64 s2]) ∧ Fr [] U w) := fun hs V FV => by
  refine (toggled_any (hsz hs).1 (hsz hs).2 V (hr.fr FV)).mono ?_
  rintro e w ⟨l, rfl, F, hC, hL, hB⟩
  refine ⟨l, by rw [hb2], F, fun U FU => ?_⟩
  refine (tell_any hL hB U ((hb.fr ((FV.trans F).trans FU)).pow) (hC.fr FU)).mono ?_
  rintro e w ⟨rfl, F2⟩
  exact ⟨by rw [ho2, hs2], F2⟩
 obtain ⟨o, c, rfl, hc, hc2, hx⟩ := hr
 rw [List.length_map] at *
 clear hb ht hx hb1 hb2 ho1 ho2 hs1 hs2 hsz
 unfold Ev.countS Ev.toggleS at *
 generalize recs.length = n at *
 generalize Scr recs [] = SC at *
 go_enter Tryz.func4, Tryz.ntmps4
 go_wp2_with fail
 refine Calls.mono HC.out ?_
 rintro e V ⟨bb, rfl, hbb, hV⟩
 replace hV := hV.symm
 subst hV
 cases bb with
 | false =>
  have hs : ¬ SC := fun h => (by have := hbb.2 h; cases this)
  have HB1 : Hid _ := HB.out hs
  clear hbb HC HB HP1 HP2 HT1 HT2 hq1 hq2
  go_wp2_with fail
  refine Calls.mono HB1.out ?_
  rintro e V2 ⟨rfl, F2⟩
  have HF : Hid _ := F2
  clear F2 HB1
  go_wp2_with fail
  go_ret
  exact ⟨rfl, HF.out⟩
 | true =>
  have hs := hbb.1 rfl
  have HP1' : Hid _ := HP1.out hs
  have HP2' : Hid _ := HP2.out hs
  have HT1' : Hid _ := HT1.out hs
  have HT2' : Hid _ := HT2.out hs
  have Hq2 : Hid _ := hq2
  have Hq1 : Hid _ := hq1
  clear hbb HC HB HP1 HP2 HT1 HT2 hs hq1 hq2
  go_wp2_with fail
  refine Calls.mono HP1'.out ?_
  rintro e V2 ⟨F2, u, rfl⟩
  obtain ⟨V3, hV3⟩ : ∃ V3, V2.alloc (.cells #[.int .i64 q1, .int .i64 0, .string o1, .int .i64 u] 26) = V3 := ⟨_, rfl⟩
  have F3 : Fr [] V2 V3 := by rw [← hV3]; exact (Fr.refl [] V2).alloc _
  have k3 : V3.heap[V2.heap.size]? = some (.cells #[.int .i64 q1, .int .i64 0, .string o1, .int .i64 u] 26) := by rw [← hV3]; exact World.alloc_heap_new V2 _
  obtain ⟨b6, hb6⟩ : ∃ b6, V2.heap.size = b6 := ⟨_, rfl⟩
  rw [hb6] at k3
  have l3 := (Array.getElem?_eq_some_iff.1 k3).1
  have H3 : Hid _ := And.intro (F2.trans F3) (And.intro k3 (And.intro l3 (show W.heap.size ≤ b6 by rw [← hb6]; exact F2.size)))
  clear F2 F3 k3 l3 HP1'
  go_wp2_with fail
  refine Calls.mono (HT1'.out V3 H3.out.1) ?_
  rintro e V4 ⟨l1, rfl, F4, HL1⟩
  have HL1' : Hid _ := HL1 V4 (Fr.refl [] V4)
  have H4 : Hid _ := And.intro (H3.out.1.trans F4) (And.intro ((F4.block b6 H3.out.2.2.1 (by simp)).trans H3.out.2.1) (And.intro (Nat.lt_of_lt_of_le H3.out.2.2.1 F4.size) H3.out.2.2.2))
  clear F4 HL1 HT1' H3 hV3
  go_wp2_with fail
  refine Calls.mono HL1'.out ?_
  rintro e V5 ⟨rfl, F5⟩
  have k5 := (F5.block b6 H4.out.2.2.1 (by simp)).trans H4.out.2.1
  obtain ⟨⟨c0, c1, c2, c3⟩, -⟩ := cells4F k5
  have H5 : Hid _ := And.intro (H4.out.1.trans F5) (And.intro k5 (And.intro (Nat.lt_of_lt_of_le H4.out.2.2.1 F5.size) H4.out.2.2.2))
  have HSh : Hid _ := shows_int q1 o1 u V5
  clear F5 k5 H4 HL1'
  rcases Hq1.out with ⟨rfl, rfl⟩ | ⟨rfl, rfl⟩
  all_goals
   clear Hq1
   go_wp2_with fail
   refine Calls.mono HSh.out ?_
   rintro e V6 ⟨rfl, F6⟩
   have H6 : Hid _ := And.intro (H5.out.1.trans F6) (And.intro ((F6.block b6 H5.out.2.2.1 (by simp)).trans H5.out.2.1) (And.intro (Nat.lt_of_lt_of_le H5.out.2.2.1 F6.size) H5.out.2.2.2))
   clear F6 HSh H5 c0 c1 c2 c3
   go_wp2_with fail
   refine Calls.mono (HP2'.out V6 H6.out.1) ?_
   rintro e V7 ⟨F7, u2, rfl⟩
   have k7 := (F7.block b6 H6.out.2.2.1 (by simp)).trans H6.out.2.1
   obtain ⟨⟨c0, c1, c2, c3⟩, cz⟩ := cells4F k7
   have f0 := cz 0
   have f1 := cz 1
   have f2 := cz 2
   have f3 := cz 3
   obtain ⟨V8, hV8⟩ : ∃ V8, (((V7.setCell ⟨b6, 0, none⟩ (.int .i64 q2)).setCell ⟨b6, 1, none⟩ (.int .i64 0)).setCell ⟨b6, 2, none⟩ (.string o2)).setCell ⟨b6, 3, none⟩ (.int .i64 u2) = V8 := ⟨_, rfl⟩
   have k8 := set4_block k7 (.int .i64 q2) (.int .i64 0) (.string o2) (.int .i64 u2)
   rw [hV8] at k8
   have F8 : Fr [] W V8 := by
    have hB := H6.out.2.2.2
    rw [← hV8]
    exact (((((H6.out.1.trans F7).setCell (.inr hB) _).setCell (.inr hB) _).setCell (.inr hB) _).setCell (.inr hB) _)
   have l8 := (Array.getElem?_eq_some_iff.1 k8).1
   have H8 : Hid _ := And.intro F8 (And.intro k8 l8)
   clear F7 k7 cz F8 H6 HP2' k8 l8
   go_wp2_with fail
   refine Calls.mono (HT2'.out V8 H8.out.1) ?_
   rintro e V9 ⟨l2, rfl, F9, HL2⟩
   have HL2' : Hid _ := HL2 V9 (Fr.refl [] V9)
   have H9 : Hid _ := And.intro (H8.out.1.trans F9) (And.intro ((F9.block b6 H8.out.2.2 (by simp)).trans H8.out.2.1) (Nat.lt_of_lt_of_le H8.out.2.2 F9.size))
   clear F9 HL2 HT2' H8 hV8 c0 c1 c2 c3 f0 f1 f2 f3
   go_wp2_with fail
   refine Calls.mono HL2'.out ?_
   rintro e V10 ⟨rfl, F10⟩
   have k10 := (F10.block b6 H9.out.2.2 (by simp)).trans H9.out.2.1
   obtain ⟨⟨c0, c1, c2, c3⟩, -⟩ := cells4F k10
   have HF : Hid _ := H9.out.1.trans F10
   have HSh : Hid _ := shows_int q2 o2 u2 V10
   clear F10 k10 H9 HL2'
   rcases Hq2.out with ⟨rfl, rfl⟩ | ⟨rfl, rfl⟩
   all_goals
    clear Hq2
    go_wp2_with fail
    refine Calls.mono HSh.out ?_
    rintro e V11 ⟨rfl, F11⟩
    have HF2 : Hid _ := HF.out.trans F11
    clear F11 HSh HF
    go_wp2_with fail
    go_ret
    exact ⟨rfl, HF2.out⟩
end
end Go.Proofs.YtmolfmgchbjnbaaGreatDoor
