/-
  Back's own small functions: how many bytes a module takes; is it within its limits?
-/
import Derived.Test.YticaoekmlaipnaaDoorM30
set_option linter.unusedSimpArgs false
set_option linter.unusedVariables false
namespace Go.Proofs.YticaoekmlaipnaaDoor
open Go.RowKit
open Wire

theorem fnsB_take_len (L : List Wire.Fn) (k : Nat) (h : k < L.length) (hl : ∃ i, lawful L[k] i = true) : (fnsB (L.take (k + 1))).length = (fnsB (L.take k)).length + (2 + (digs L[k].code.size).length + L[k].code.size) := by
  obtain ⟨i, hi⟩ := hl
  obtain ⟨q1, q2, q3, q4, -, -⟩ := lawful_iff.1 hi
  rw [fnsB_take L k h, List.length_append, fnB, textB, List.length_append, List.length_append, List.length_append, bl_length, digs_lt (n := L[k].params.toNat) (by omega), digs_lt (n := L[k].locs.toNat) (by omega)]
  simp
  omega

set_option maxRecDepth 100000 in
set_option maxHeartbeats 2000000 in
theorem size_any (mv : Value) (m : Mo) (w : World) (hM : ModIn w mv m) (hw : within ipF m = true) :
    Calls Tryd.prog 34 #[mv] w fun e w' => e = .returned (.int .i64 (Wire.written m).length) ∧ Fr [] w w' := by
  obtain ⟨tv, pv, fv, rfl, hT1, hP1, hF1⟩ := hM.is
  obtain ⟨q1, q2, q3, q4, q5, q6, q7, q8, q9, q10, q11⟩ := Wire.within_iff.1 hw
  have f11 := lawfulAll_mem _ _ q11
  have s1 := fun (W : World) (f : Fr [] w W) => long_any tv m.texts W q9 q1 (hT1.fr f)
  have s2 := fun (W : World) (f : Fr [] w W) => long_any pv m.pats W (fun s hs => by have := (q10 s hs).1; omega) q2 (hP1.fr f)
  have hbl := body_len_le m ipF hw
  have hwl := written_length m
  have hbo := body_length m
  rw [sect_length, sect_length, sect_length, sect_length, sect_length] at hbo
  obtain ⟨l1, n1⟩ := listing_len m.texts q9 q1
  obtain ⟨l2, n2⟩ := listing_len m.pats (fun s hs => by have := (q10 s hs).1; omega) q2
  obtain ⟨l5, n5⟩ := fnsL_len m.fns (fun s hs => (f11 s hs).1) q4
  have hk1 : (digs (digs m.globs.toNat).length).length = 1 := by rw [digs_lt (by have := digs_len m.globs.toNat; omega)]; rfl
  have hk2 : (digs (digs m.arrs.toNat).length).length = 1 := by rw [digs_lt (by have := digs_len m.arrs.toNat; omega)]; rfl
  rw [hk1, hk2] at hbo
  obtain ⟨ta, tc, tg, to, rfl, -⟩ := id hT1
  obtain ⟨pa, pc, pg, po, rfl, -⟩ := id hP1
  obtain ⟨fa, fc, fg, fo, rfl, hfc, hfa, hfx⟩ := id hF1
  have HL : Hid (∀ k (h : k < m.fns.length), (fnsB (m.fns.take (k + 1))).length = (fnsB (m.fns.take k)).length + (2 + (digs m.fns[k].code.size).length + m.fns[k].code.size)) := fun k h => fnsB_take_len m.fns k h ⟨_, lawfulAll_at m.fns 0 k h q11⟩
  have HB : Hid (∀ k, (fnsB (m.fns.take k)).length ≤ 20030000) := fun k => by
    have := fnsB_len (m.fns.take k) (fun s hs => (f11 s (List.mem_of_mem_take hs)).1)
    have h2 : (m.fns.take k).length ≤ 1000 := by rw [List.length_take]; omega
    show _ ≤ _
    omega
  have hfl : (fnsL m.fns).length = (digs m.fns.length).length + (fnsB m.fns).length := by rw [fnsL, List.length_append]
  have S1 : Hid _ := s1
  have S2 : Hid _ := s2
  have Hfa : Hid _ := hfa
  have Hfx : Hid _ := hfx
  have Hc : Hid (∀ s ∈ m.fns, s.code.size ≤ 20000) := fun s hs => (f11 s hs).1
  have hd0 := digs_len m.fns.length
  have hd1 := digs_len m.globs.toNat
  have hd2 := digs_len m.arrs.toNat
  have hd3 := digs_len (listing m.texts).length
  have hd4 := digs_len (listing m.pats).length
  have hd5 := digs_len (fnsL m.fns).length
  have HWL : Hid ((Wire.written m).length = 3 + (1 + (digs (listing m.texts).length).length + (listing m.texts).length) + (1 + (digs (listing m.pats).length).length + (listing m.pats).length) + (1 + 1 + (digs m.globs.toNat).length) + (1 + 1 + (digs m.arrs.toNat).length) + (1 + (digs (fnsL m.fns).length).length + (fnsL m.fns).length) + 3) := by show _ = _; omega
  clear hwl hbo hk1 hk2
  obtain ⟨R, hR⟩ : ∃ R, (Wire.written m).length = R := ⟨_, rfl⟩
  rw [hR] at HWL ⊢
  obtain ⟨texts, pats, globs, arrs, fns⟩ := m
  simp only at *
  obtain ⟨gn, rfl⟩ := Int.eq_ofNat_of_zero_le q5
  obtain ⟨an, rfl⟩ := Int.eq_ofNat_of_zero_le q7
  simp only [Int.toNat_natCast] at *
  clear s1 s2 hfa hfx hM hT1 hP1 hF1 hR hw q9 q10 q11 f11 hbl n1 n2 n5 q5 q7
  have F0 : Fr [] w (w.alloc (.cells #[.slice ta texts.length tc, .slice pa pats.length pc, .int .i64 gn, .int .i64 an, .slice fa fns.length fc] 43)) := (Fr.refl [] w).alloc _
  have n1 := World.alloc_heap_new w (.cells #[.slice ta texts.length tc, .slice pa pats.length pc, .int .i64 gn, .int .i64 an, .slice fa fns.length fc] 43)
  have DG : Hid _ := digits_any
  go_enter Tryd.func34, Tryd.ntmps34
  go_wp2_with fail
  generalize (w.alloc (.cells #[.slice ta texts.length tc, .slice pa pats.length pc, .int .i64 gn, .int .i64 an, .slice fa fns.length fc] 43)) = W at *
  have hl1 := (Array.getElem?_eq_some_iff.1 n1).1
  have kp : ∀ {W' : World}, Fr [] W W' → W'.heap[w.heap.size]? = some (.cells #[.slice ta texts.length tc, .slice pa pats.length pc, .int .i64 gn, .int .i64 an, .slice fa fns.length fc] 43) := fun f => by
    rw [f.block _ hl1 (by simp), n1]
  have KP : Hid _ := @kp
  clear kp n1
  refine (DG.out fns.length W (by omega)).mono ?_
  rintro e W ⟨rfl, rfl⟩
  generalize hdd : (digs fns.length).length = D0 at *
  have k1 := KP.out (Fr.refl [] W)
  have v4 : W.cell? ⟨w.heap.size, 4, none⟩ = some (.slice fa fns.length fc) := by unfold World.cell?; rw [k1]; rfl
  have v0 : W.cell? ⟨w.heap.size, 0, none⟩ = some (.slice ta texts.length tc) := by unfold World.cell?; rw [k1]; rfl
  clear k1 hdd
  go_wp2
  go_loop [3, 4] (fun k i => ∃ j : Nat, j ≤ fns.length ∧ k = .int .i64 ((D0 + (fnsB (fns.take j)).length : Nat) : Int) ∧ i = .int .i64 j) (fun _ i => fns.length - (intOf i).toNat)
  case atStart => exact ⟨0, by omega, by simp [fnsB], rfl⟩
  case round =>
    obtain ⟨j, hj, rfl, rfl⟩ := hrel
    by_cases hlt : j < fns.length
    · obtain ⟨rfl, hg⟩ := Hfa.out (by omega)
      have g1 : (j : Int) < fns.length := by omega
      obtain ⟨x0, x1, x2⟩ := Hfx.out j _ (List.getElem?_eq_getElem hlt)
      have c2 := (F0.cell (p := ⟨fg, fo + j * 3 + 2, none⟩) hg (by simp)).trans x2
      have hcs := Hc.out fns[j] (List.getElem_mem hlt)
      have ht := HL.out j hlt
      have hb := HB.out j
      obtain ⟨⟨p, lc, co⟩, hsk⟩ : ∃ s, fns[j] = s := ⟨_, rfl⟩
      rw [hsk] at c2 hcs ht
      simp only at c2 hcs ht
      have hdc := digs_len co.size
      have hdg := DG.out co.size
      obtain ⟨dc, hdc2⟩ : ∃ d, (digs co.size).length = d := ⟨_, rfl⟩
      simp only [hdc2] at hdg ht hdc
      obtain ⟨T, hT⟩ : ∃ T, (fnsB (fns.take j)).length = T := ⟨_, rfl⟩
      rw [hT] at hb ht ⊢
      have HT : Hid (D0 + (fnsB (fns.take (j + 1))).length = D0 + T + 2 + dc + co.size) := by show _ = _; omega
      have HD : Hid _ := hdg
      have hq : D0 + T ≤ 20030010 := by omega
      clear hdg hdc2 hT ht hsk x0 x1 x2
      generalize D0 + T = q at *
      go_wp2_with fail
      refine (HD.out _ (by omega)).mono ?_
      rintro e W ⟨rfl, rfl⟩
      go_wp2
      refine ⟨⟨j + 1, by omega, ?_, by go_num⟩, by simp [intOf]; omega⟩
      rw [HT.out]
      go_num
    · obtain rfl : j = fns.length := by omega
      have g1 : ¬ ((fns.length : Int) < fns.length) := by omega
      rw [List.take_length, ← hfl]
      generalize (fnsL fns).length = K5 at *
      clear HL HB Hc Hfa Hfx hfl
      go_wp2_with fail
      refine (S1.out W F0).mono ?_
      rintro e W1 ⟨rfl, F1⟩
      generalize (listing texts).length = K1 at *
      have k1 := KP.out F1
      have v1 : W1.cell? ⟨w.heap.size, 1, none⟩ = some (.slice pa pats.length pc) := by unfold World.cell?; rw [k1]; rfl
      clear v0 v4 k1
      go_wp2_with fail
      refine (S2.out W1 (F0.trans F1)).mono ?_
      rintro e W2 ⟨rfl, F2⟩
      generalize (listing pats).length = K2 at *
      have F2 := F1.trans F2
      have k1 := KP.out F2
      have v2 : W2.cell? ⟨w.heap.size, 2, none⟩ = some (.int .i64 gn) := by unfold World.cell?; rw [k1]; rfl
      have v3 : W2.cell? ⟨w.heap.size, 3, none⟩ = some (.int .i64 an) := by unfold World.cell?; rw [k1]; rfl
      clear v1 k1 F1
      go_wp2_with fail
      refine (DG.out gn W2 (by omega)).mono ?_
      rintro e W2 ⟨rfl, rfl⟩
      generalize (digs gn).length = D1 at *
      go_wp2_with fail
      refine (DG.out an _ (by omega)).mono ?_
      rintro e W2 ⟨rfl, rfl⟩
      generalize (digs an).length = D2 at *
      clear v2 v3
      go_wp2_with fail
      refine (DG.out K1 _ (by omega)).mono ?_
      rintro e W2 ⟨rfl, rfl⟩
      generalize (digs K1).length = D3 at *
      go_wp2_with fail
      refine (DG.out K2 _ (by omega)).mono ?_
      rintro e W2 ⟨rfl, rfl⟩
      generalize (digs K2).length = D4 at *
      go_wp2_with fail
      refine (DG.out K5 _ (by omega)).mono ?_
      rintro e W2 ⟨rfl, rfl⟩
      generalize (digs K5).length = D5 at *
      have hRR := HWL.out
      have HRR : Hid _ := hRR
      clear hRR HWL
      go_wp2
      go_ret
      refine ⟨?_, F0.trans F2⟩
      rw [HRR.out]
      refine congrArg Ending.returned ?_
      simp only [Array.getD_eq_getD_getElem?, List.getElem?_toArray, List.getElem?_cons_succ, List.getElem?_cons_zero, Option.getD_some]
      congr 1
      omega
end Go.Proofs.YticaoekmlaipnaaDoor

namespace Go.Proofs.YticaoekmlaipnaaDoor
open Go.RowKit
open Wire

set_option maxRecDepth 100000 in
set_option maxHeartbeats 4000000 in
theorem limitedG_any (mv : Value) (m : Mo) (w : World) (hM : ModIn w mv m) (hz : ModSz m) (hT : Tab w) :
    Calls Tryd.prog 33 #[mv] w fun e w' => e = .returned (.bool (within ipF m)) ∧ Fr [] w w' := by
  obtain ⟨tv, pv, fv, rfl, hT1, hP1, hF1⟩ := hM.is
  obtain ⟨z1, z2, z3, z4, z5, z6⟩ := hz
  have hw := @Wire.within_iff ipF m
  obtain ⟨r, hr⟩ : ∃ r, within ipF m = r := ⟨_, rfl⟩
  rw [hr] at hw ⊢
  clear hr
  obtain ⟨ta, tc, tg, to, rfl, htc, hta, htx⟩ := id hT1
  obtain ⟨pa, pc, pg, po, rfl, hpc, hpa, hpx⟩ := id hP1
  obtain ⟨fa, fc, fg, fo, rfl, hfc, hfa, hfx⟩ := id hF1
  have Hta : Hid _ := hta
  have Htx : Hid _ := htx
  have Hpa : Hid _ := hpa
  have Hpx : Hid _ := hpx
  have Hfa : Hid _ := hfa
  have Hfx : Hid _ := hfx
  have HW : Hid _ := hw
  have Z2 : Hid _ := z2
  have Z4 : Hid _ := z4
  have Z6 : Hid _ := z6
  obtain ⟨texts, pats, globs, arrs, fns⟩ := m
  simp only at *
  clear hta htx hpa hpx hfa hfx hw z2 z4 z6 hM hT1 hP1 hF1
  unfold maxLen at z1 z3 z5
  have F0 : Fr [] w (w.alloc (.cells #[.slice ta texts.length tc, .slice pa pats.length pc, .int .i64 globs, .int .i64 arrs, .slice fa fns.length fc] 43)) := (Fr.refl [] w).alloc _
  have n1 := World.alloc_heap_new w (.cells #[.slice ta texts.length tc, .slice pa pats.length pc, .int .i64 globs, .int .i64 arrs, .slice fa fns.length fc] 43)
  have no : ¬ (0 ≤ globs ∧ globs ≤ 1000 ∧ 0 ≤ arrs ∧ arrs ≤ 1000 ∧ 3 ≤ fns.length ∧ texts.length ≤ 1000 ∧ pats.length ≤ 1000 ∧ fns.length ≤ 1000) → r = false := fun h => Bool.eq_false_iff.2 fun hr => by
    have := HW.out.1 hr
    exact h ⟨this.2.2.2.2.1, this.2.2.2.2.2.1, this.2.2.2.2.2.2.1, this.2.2.2.2.2.2.2.1, this.2.2.1, this.1, this.2.1, this.2.2.2.1⟩
  by_cases c1 : globs < 0
  · obtain rfl := no (by omega)
    clear no HW n1
    go_enter Tryd.func33, Tryd.ntmps33
    go_wp2
    go_ret
    exact ⟨rfl, F0⟩
  by_cases c2 : 1000 < globs
  · obtain rfl := no (by omega)
    clear no HW n1
    go_enter Tryd.func33, Tryd.ntmps33
    go_wp2
    go_ret
    exact ⟨rfl, F0⟩
  by_cases c3 : arrs < 0
  · obtain rfl := no (by omega)
    clear no HW n1
    go_enter Tryd.func33, Tryd.ntmps33
    go_wp2
    go_ret
    exact ⟨rfl, F0⟩
  by_cases c4 : 1000 < arrs
  · obtain rfl := no (by omega)
    clear no HW n1
    go_enter Tryd.func33, Tryd.ntmps33
    go_wp2
    go_ret
    exact ⟨rfl, F0⟩
  by_cases c5 : fns.length < 3
  · obtain rfl := no (by omega)
    have g5 : (fns.length : Int) < 3 := by omega
    clear no HW n1
    go_enter Tryd.func33, Tryd.ntmps33
    go_wp2
    go_ret
    exact ⟨rfl, F0⟩
  have g5 : ¬ (fns.length : Int) < 3 := by omega
  by_cases c6 : 1000 < texts.length
  · obtain rfl := no (by omega)
    have g6 : (1000 : Int) < texts.length := by omega
    clear no HW n1
    go_enter Tryd.func33, Tryd.ntmps33
    go_wp2
    go_ret
    exact ⟨rfl, F0⟩
  have g6 : ¬ (1000 : Int) < texts.length := by omega
  by_cases c7 : 1000 < pats.length
  · obtain rfl := no (by omega)
    have g7 : (1000 : Int) < pats.length := by omega
    clear no HW n1
    go_enter Tryd.func33, Tryd.ntmps33
    go_wp2
    go_ret
    exact ⟨rfl, F0⟩
  have g7 : ¬ (1000 : Int) < pats.length := by omega
  by_cases c8 : 1000 < fns.length
  · obtain rfl := no (by omega)
    have g8 : (1000 : Int) < fns.length := by omega
    clear no HW n1
    go_enter Tryd.func33, Tryd.ntmps33
    go_wp2
    go_ret
    exact ⟨rfl, F0⟩
  have g8 : ¬ (1000 : Int) < fns.length := by omega
  have T1 : Hid (∀ k (hk : k < texts.length), 100 < texts[k].size → r = false) := fun k hk h => Bool.eq_false_iff.2 fun hr => by
    have := (HW.out.1 hr).2.2.2.2.2.2.2.2.1 texts[k] (List.getElem_mem hk)
    omega
  have T2 : Hid (∀ k (hk : k < pats.length), ipF pats[k] ≠ true → r = false) := fun k hk h => Bool.eq_false_iff.2 fun hr => h ((HW.out.1 hr).2.2.2.2.2.2.2.2.2.1 pats[k] (List.getElem_mem hk)).2
  have T3 : Hid (∀ k (hk : k < fns.length), lawful fns[k] k = false → r = false) := fun k hk h => Bool.eq_false_iff.2 fun hr => by
    have := lawfulAll_at fns 0 k hk (HW.out.1 hr).2.2.2.2.2.2.2.2.2.2
    rw [Nat.zero_add, h] at this
    cases this
  have T4 : Hid ((∀ k (hk : k < texts.length), texts[k].size ≤ 100) → (∀ k (hk : k < pats.length), ipF pats[k] = true) → lawfulAll (fns.take fns.length) 0 = true → r = true) := fun h1 h2 h3 => by
    refine HW.out.2 ⟨by omega, by omega, by omega, by omega, by omega, by omega, by omega, by omega, fun s hs => ?_, fun s hs => ?_, by rwa [List.take_length] at h3⟩
    · obtain ⟨k, hk, rfl⟩ := List.getElem_of_mem hs
      exact h1 k hk
    · obtain ⟨k, hk, rfl⟩ := List.getElem_of_mem hs
      have h := h2 k hk
      refine ⟨?_, h⟩
      simp only [ipF, Bool.and_eq_true, decide_eq_true_eq] at h
      exact h.1
  have T5 : Hid (∀ k (h : k < fns.length), lawfulAll (fns.take k) 0 = true → lawfulAll (fns.take (k + 1)) 0 = lawful fns[k] k) := fun k h ha => lawfulAll_take fns k h ha
  clear no HW
  go_enter Tryd.func33, Tryd.ntmps33
  go_wp2_with fail
  generalize (w.alloc (.cells #[.slice ta texts.length tc, .slice pa pats.length pc, .int .i64 globs, .int .i64 arrs, .slice fa fns.length fc] 43)) = W at *
  have hl1 := (Array.getElem?_eq_some_iff.1 n1).1
  have kp : ∀ {W' : World}, Fr [] W W' → W'.heap[w.heap.size]? = some (.cells #[.slice ta texts.length tc, .slice pa pats.length pc, .int .i64 globs, .int .i64 arrs, .slice fa fns.length fc] 43) := fun f => by
    rw [f.block _ hl1 (by simp), n1]
  have KP : Hid _ := @kp
  clear kp n1
  have k1 := KP.out (Fr.refl [] W)
  have v0 : W.cell? ⟨w.heap.size, 0, none⟩ = some (.slice ta texts.length tc) := by unfold World.cell?; rw [k1]; rfl
  have v1 : W.cell? ⟨w.heap.size, 1, none⟩ = some (.slice pa pats.length pc) := by unfold World.cell?; rw [k1]; rfl
  clear k1
  go_loop [3] (fun i => ∃ j : Nat, j ≤ texts.length ∧ i = .int .i64 j ∧ Hid (∀ k (hk : k < texts.length), k < j → texts[k].size ≤ 100)) (fun i => texts.length - (intOf i).toNat)
  case atStart => exact ⟨0, by omega, rfl, fun k hk h => by omega⟩
  case round =>
    obtain ⟨j, hj, rfl, hA⟩ := hrel
    by_cases hlt : j < texts.length
    · obtain ⟨rfl, hg⟩ := Hta.out (by omega)
      have g1 : (j : Int) < texts.length := by omega
      have x0 := Htx.out j _ (List.getElem?_eq_getElem hlt)
      have d0 := (F0.cell (p := ⟨tg, to + j, none⟩) hg (by simp)).trans x0
      have hsz := Z2.out texts[j] (List.getElem_mem hlt)
      have hbad := T1.out j hlt
      have hnext : texts[j].size ≤ 100 → ∀ k (hk : k < texts.length), k < j + 1 → texts[k].size ≤ 100 := fun h k hk hlt => by
        by_cases e : k = j
        · subst e; exact h
        · exact hA.out k hk (by omega)
      obtain ⟨s, hsk⟩ : ∃ s, texts[j] = s := ⟨_, rfl⟩
      rw [hsk] at d0 hsz hbad hnext
      have HN : Hid _ := hnext
      unfold maxLen at hsz
      clear x0 hnext hsk
      by_cases hs : 100 < s.size
      · obtain rfl := hbad hs
        have g2 : (100 : Int) < s.size := by omega
        clear hA HN
        go_wp2
        go_ret
        exact ⟨rfl, F0⟩
      · have g2 : ¬ (100 : Int) < s.size := by omega
        have hN2 := HN.out (by omega)
        have HN2 : Hid _ := hN2
        clear hbad hA HN hN2
        go_wp2
        exact ⟨⟨j + 1, by omega, by go_num, HN2⟩, by simp [intOf]; omega⟩
    · obtain rfl : j = texts.length := by omega
      have g1 : ¬ ((texts.length : Int) < texts.length) := by omega
      have HA : Hid (∀ k (hk : k < texts.length), texts[k].size ≤ 100) := fun k hk => hA.out k hk hk
      clear hA
      go_wp2_with fail
      go_loopw [4] (fun i wr => ∃ j : Nat, j ≤ pats.length ∧ i = .int .i64 j ∧ Hid (∀ k (hk : k < pats.length), k < j → ipF pats[k] = true) ∧ Fr [] W wr) (fun i _ => pats.length - (intOf i).toNat)
      case atStart => exact ⟨0, by omega, rfl, fun k hk h => by omega, Fr.refl _ _⟩
      case round =>
        obtain ⟨j, hj, rfl, hA, F⟩ := hrel
        clear v0 v1
        have k1 := KP.out F
        have v1 : wr.cell? ⟨w.heap.size, 1, none⟩ = some (.slice pa pats.length pc) := by unfold World.cell?; rw [k1]; rfl
        have v4 : wr.cell? ⟨w.heap.size, 4, none⟩ = some (.slice fa fns.length fc) := by unfold World.cell?; rw [k1]; rfl
        clear k1
        have FW := F0.trans F
        by_cases hlt : j < pats.length
        · obtain ⟨rfl, hg⟩ := Hpa.out (by omega)
          have g1' : (j : Int) < pats.length := by omega
          have x0 := Hpx.out j _ (List.getElem?_eq_getElem hlt)
          have d0 := (FW.cell (p := ⟨pg, po + j, none⟩) hg (by simp)).trans x0
          have hsz := Z4.out pats[j] (List.getElem_mem hlt)
          have hbad := T2.out j hlt
          have hnext : ipF pats[j] = true → ∀ k (hk : k < pats.length), k < j + 1 → ipF pats[k] = true := fun h k hk hlt => by
            by_cases e : k = j
            · subst e; exact h
            · exact hA.out k hk (by omega)
          obtain ⟨s, hsk⟩ : ∃ s, pats[j] = s := ⟨_, rfl⟩
          rw [hsk] at d0 hsz hbad hnext
          have HN : Hid _ := hnext
          have HBAD : Hid _ := hbad
          have hlook := look_any s wr hsz (hT.fr FW (by simp))
          have HLO : Hid _ := hlook
          clear x0 hnext hbad hsk hsz hlook
          go_wp2_with fail
          refine Calls.mono HLO.out ?_
          rintro e W1 ⟨⟨p, er, rfl, her⟩, F1⟩
          have F2 := F.trans F1
          by_cases he : er = 0
          · subst he
            have hN2 := HN.out (her.1 rfl)
            have HN2 : Hid _ := hN2
            clear hA HN hN2 her HBAD HLO
            go_wp2
            exact ⟨⟨j + 1, by omega, by go_num, HN2, F2⟩, by simp [intOf]; omega⟩
          · obtain rfl := HBAD.out (fun h => he (her.2 h))
            have g2 : ((er : Int) != 0) = true := by simpa using he
            have F3 := F0.trans F2
            clear hA HN her HBAD HLO
            go_wp2
            go_ret
            exact ⟨rfl, F3⟩
        · obtain rfl : j = pats.length := by omega
          have g1' : ¬ ((pats.length : Int) < pats.length) := by omega
          have HA2 : Hid (∀ k (hk : k < pats.length), ipF pats[k] = true) := fun k hk => hA.out k hk hk
          clear hA
          go_wp2_with fail
          go_loopw [7] (fun i wq => ∃ j : Nat, j ≤ fns.length ∧ i = .int .i64 j ∧ Hid (lawfulAll (fns.take j) 0 = true) ∧ Fr [] W wq) (fun i _ => fns.length - (intOf i).toNat)
          case atStart => exact ⟨0, by omega, rfl, rfl, F⟩
          case round =>
            obtain ⟨j, hj, rfl, hA, FQ⟩ := hrel
            clear v1 v4 F FW
            have k1 := KP.out FQ
            have v4 : wr.cell? ⟨w.heap.size, 4, none⟩ = some (.slice fa fns.length fc) := by unfold World.cell?; rw [k1]; rfl
            clear k1
            have FW := F0.trans FQ
            by_cases hlt : j < fns.length
            · obtain ⟨rfl, hg⟩ := Hfa.out (by omega)
              have g1'' : (j : Int) < fns.length := by omega
              obtain ⟨x0, x1, x2⟩ := Hfx.out j _ (List.getElem?_eq_getElem hlt)
              have d0 := (FW.cell (p := ⟨fg, fo + j * 3, none⟩) hg (by simp)).trans x0
              have d1 := (FW.cell (p := ⟨fg, fo + j * 3 + 1, none⟩) hg (by simp)).trans x1
              have d2 := (FW.cell (p := ⟨fg, fo + j * 3 + 2, none⟩) hg (by simp)).trans x2
              have hsz := Z6.out fns[j] (List.getElem_mem hlt)
              have hbad := T3.out j hlt
              have hnext := T5.out j hlt hA.out
              have hlaw := lawfulG_any fns[j] j wr hsz (by omega)
              obtain ⟨⟨p, lc, co⟩, hsk⟩ : ∃ s, fns[j] = s := ⟨_, rfl⟩
              rw [hsk] at d0 d1 d2 hsz hbad hnext hlaw
              simp only at d0 d1 d2 hlaw
              have HN : Hid _ := hnext
              have HBAD : Hid _ := hbad
              obtain ⟨q, hq⟩ : ∃ q, lawful ⟨p, lc, co⟩ j = q := ⟨_, rfl⟩
              rw [hq] at hlaw HN HBAD
              have HLA : Hid _ := hlaw
              clear x0 x1 x2 hsz hnext hbad hsk hlaw hq
              go_wp2_with fail
              refine Calls.mono HLA.out ?_
              rintro e W1 ⟨rfl, F1⟩
              have F2 := FQ.trans F1
              cases q with
              | true =>
                clear hA HBAD HLA
                go_wp2
                exact ⟨⟨j + 1, by omega, by go_num, HN, F2⟩, by simp [intOf]; omega⟩
              | false =>
                obtain rfl := HBAD.out rfl
                have F3 := F0.trans F2
                clear hA HN HBAD HLA
                go_wp2
                go_ret
                exact ⟨rfl, F3⟩
            · obtain rfl : j = fns.length := by omega
              have g1'' : ¬ ((fns.length : Int) < fns.length) := by omega
              obtain rfl := T4.out HA.out HA2.out hA.out
              clear hA
              go_wp2
              go_ret
              exact ⟨rfl, FW⟩
end Go.Proofs.YticaoekmlaipnaaDoor

