import Derived.Test.YtmolfmgchbjnbaaGreatDoorM38
set_option linter.unusedSimpArgs false
set_option linter.unusedVariables false
namespace Go.Proofs.YtmolfmgchbjnbaaGreatDoor
open Go.RowKit
open Wire Flow Mach
def Beg (a b : ByteArray) : Prop := ∃ x, bl b = bl a ++ x
theorem Beg.refl (a : ByteArray) : Beg a a := ⟨[], by simp⟩
theorem Beg.trans {a b c : ByteArray} (h : Beg a b) (k : Beg b c) : Beg a c := by
 obtain ⟨x, hx⟩ := h
 obtain ⟨y, hy⟩ := k
 exact ⟨x ++ y, by rw [hy, hx, List.append_assoc]⟩
theorem nextR_out (w : Wd) : (nextR w).1.out = w.out := by
 unfold Mach.nextR
 split <;> rfl
theorem setField_out (w : Wd) (n : Int) (s : ByteArray) : (setFieldW w n s).1.out = w.out ∧ (setFieldW w n s).2 ≤ 9 ∧ (setFieldW w n s).2 ≠ 2 := by
 unfold setFieldW
 split
 ·exact ⟨rfl, by simp, by simp⟩
 ·split
  ·exact ⟨rfl, by simp, by simp⟩
  ·split <;> exact ⟨rfl, by simp, by simp⟩
theorem fieldW_st (w : Wd) (n : Int) : (fieldW w n).2 ≤ 9 ∧ (fieldW w n).2 ≠ 2 := by
 unfold fieldW
 split
 ·exact ⟨by simp, by simp⟩
 ·split
  ·exact ⟨by simp, by simp⟩
  ·split <;> exact ⟨by simp, by simp⟩
theorem sumOp_st (E : Env) (op : Nat) (x y : Int) : (sumOp E op x y).2 ≤ 9 ∧ (sumOp E op x y).2 ≠ 2 := by
 unfold sumOp
 dsimp only
 repeat' split
 all_goals simp
theorem printW_out (w : Wd) (l : List ByteArray) : Beg w.out (printW w l).1.out ∧ (printW w l).2 ≤ 9 ∧ (printW w l).2 ≠ 2 := by
 unfold printW
 split
 ·exact ⟨Beg.refl _, by simp, by simp⟩
 ·refine ⟨⟨joinF l ++ [10], ?_⟩, by simp, by simp⟩
  simp [bl]
theorem eff_told (E : Env) (w : Wd) (locs : List Val) (op a b : Nat) (top : List Cell) : Beg w.out (eff E w locs op a b top).w.out ∧ (eff E w locs op a b top).st ≤ 9 ∧ ((eff E w locs op a b top).st ≠ 2 → (eff E w locs op a b top).code = 0) := by
 have B := Beg.refl w.out
 unfold eff
 split
 case h_8 => exact ⟨B, (fieldW_st _ _).1, fun _ => rfl⟩
 case h_9 =>
  obtain ⟨h1, h2, -⟩ := setField_out w (top.getD 0 c0).v.n (textV E (top.getD 1 c0).v)
  exact ⟨by simp only [Eff.off]; rw [h1]; exact B, h2, fun _ => rfl⟩
 all_goals first
  | exact ⟨B, (sumOp_st _ _ _ _).1, fun _ => rfl⟩
  | exact ⟨B, by simp [Eff.put, Eff.bad, Eff.off], fun _ => rfl⟩
  | exact ⟨by rw [show (Eff.put (nextR w).1 locs (whole (truth (nextR w).2))).w.out = w.out from nextR_out w]; exact B, by simp [Eff.put], fun _ => rfl⟩
  | exact ⟨(printW_out w _).1, (printW_out w _).2.1, fun _ => rfl⟩
  | exact ⟨B, by simp, fun h => absurd rfl h⟩
  | (repeat' split) <;> exact ⟨B, by simp [Eff.put, Eff.bad, Eff.off], fun _ => rfl⟩
section
variable {E : Env} {S D : St} {low : List Frm} {fr : Frm} {i : Stp} {rest top : List Cell}
def Told (S : St) : Prop := S.st ≤ 9 ∧ (S.st ≠ 2 → S.code = 0)
theorem does_told (hG : Mach.Good E S) (hst : S.st = 0) (hT : Told S) (hR : Ready E S low fr i rest top) : Told (does E S low fr i rest top) ∧ (does E S low fr i rest top).used = S.used + 1 ∧ Beg S.w.out (does E S low fr i rest top).w.out := by
  obtain ⟨hI, -, -⟩ := hG.inv hst
  obtain ⟨low', fr', i', rest', top', hR', hh, hfar, hgo, hm⟩ := hI.ready (E := E) (s := S)
  obtain ⟨rfl, rfl, rfl, rfl, rfl⟩ := hR.unique hR'
  rw [hR.frs] at hI
  have hc : S.code = 0 := hT.2 (by omega)
  obtain ⟨e1, e2, e3⟩ := eff_told E S.w fr.locs i.op i.a i.b top
  unfold Mach.does
  split
  · split
    · exact ⟨⟨by simp, fun _ => hc⟩, rfl, Beg.refl _⟩
    · exact ⟨⟨hT.1, fun _ => hc⟩, rfl, Beg.refl _⟩
  · split
    · rename_i h51
      rcases List.eq_nil_or_concat low with h0 | ⟨low2, g, h0⟩
      · subst h0
        have := (hI.kinds 0 fr (by simp)).1 rfl
        unfold mayOp at hm
        rw [h51] at hm
        simp [this] at hm
      · have h0' : low = low2 ++ [g] := by simpa using h0
        subst h0'
        simp only [List.getLast?_append, List.getLast?_singleton, Option.some_or, List.dropLast_concat]
        exact ⟨⟨hT.1, fun _ => hc⟩, trivial, Beg.refl _⟩
    · split
      · unfold over
        split
        · exact ⟨⟨by simp, fun _ => hc⟩, rfl, Beg.refl _⟩
        · split
          · refine ⟨⟨hT.1, fun _ => hc⟩, rfl, ?_⟩
            show Beg S.w.out (nextR S.w).1.out
            rw [nextR_out]
            exact Beg.refl _
          · exact ⟨⟨hT.1, fun _ => hc⟩, rfl, Beg.refl _⟩
      · split
        · exact ⟨⟨e2, e3⟩, rfl, e1⟩
        · exact ⟨⟨hT.1, fun _ => hc⟩, rfl, e1⟩
theorem Plays.told (hE : SmE E) (hM : ModOk E.mo) {n : Nat} (hG : Mach.Good E S) (hT : Told S) (h : Plays E n S D) : Told D ∧ S.used ≤ D.used ∧ D.used ≤ S.used + n ∧ (D.st = 0 → D.used = S.used + n) ∧ Beg S.w.out D.w.out := by
 induction n generalizing S with
 | zero =>
  have e : S = D := h
  subst e
  exact ⟨hT, Nat.le_refl _, Nat.le_refl _, fun _ => rfl, Beg.refl _⟩
 | succ n ih =>
  rcases h with ⟨h1, h2⟩ | ⟨h1, low, fr, i, rest, top, h2, h3⟩
  ·subst h2
   exact ⟨hT, Nat.le_refl _, by omega, fun h => absurd h h1, Beg.refl _⟩
  ·obtain ⟨t1, t2, t3⟩ := does_told hG h1 hT h2
   obtain ⟨a1, a2, a3, a4, a5⟩ := ih (hG.does hE hM h1 h2) t1 h3
   exact ⟨a1, by omega, by omega, fun h => by rw [a4 h]; omega, t3.trans a5⟩
end
end Go.Proofs.YtmolfmgchbjnbaaGreatDoor
namespace Go.Proofs.YtmolfmgchbjnbaaGreatDoor
open Go.RowKit
open Wire Flow Mach
def Rst (E : Env) (X Y : Nat) (S : St) (W : World) (tag : Nat → Nat) : Prop := ∃ g low fr, MM E X g (msOf S low fr) W tag ∧ GM Y X W ∧ tag Y < 10 ∧ Mach.Good E S ∧ Told S ∧ (S.st = 0 → Pr S.frs ∧ S.frs = low ++ [fr] ∧ hd S.frs = some g.en)
section
variable {E : Env} {X Y : Nat} {S : St} {W W' : World} {tag tag' : Nat → Nat} {N : Nat}
theorem GM.kp {Y X : Nat} (h : GM Y X W) (ht : tag Y < 10) (K : Kp tag tag' W W') : GM Y X W' ∧ tag' Y < 10 := by
 have hl : Y < W.heap.size := lt_of_cell h
 exact ⟨(K.cell (p := ⟨Y, 0, none⟩) hl ht).trans h, by rw [K.ret Y hl]; exact ht⟩
theorem Rst.tell (h : Rst E X Y S W tag) : Calls Tryz.prog 22 #[ptr Y] W fun e w => e = .returned (stV S.st S.code S.w.out S.used) ∧ Fr [] W w := by
 obtain ⟨g, low, fr, M, hY, hT, hG, r⟩ := h
 exact tell11 M hY
theorem Rst.go (hE : GoE E) (h : Rst E X Y S W tag) (hN : N ≤ 100000) (hu : S.used + N ≤ 4611686018427387904) : Calls Tryz.prog 21 #[ptr Y, .int .i64 (N : Nat)] W fun e w => e = .returned (stI 0) ∧ ∃ D t, Plays E N S D ∧ Rst E X Y D w t ∧ Kp tag t W w := by
 obtain ⟨g, low, fr, M, hY, hT, hG, r, q⟩ := h
 refine (go14_any hE M hY hG hN hu (fun h0 => ⟨r.2 (by omega), q h0⟩) r.1).mono ?_
 rintro e w ⟨he, -, D, g', s', t, hP, hD, M', K, e1, e2, e3, e4, e5⟩
 obtain ⟨y1, y2⟩ := hY.kp hT K
 refine ⟨he, D, t, hP, ⟨g', s'.low, s'.fr, ?_, y1, y2, hD, (Plays.told hE.sm hE.mod hG r hP).1, fun h0 => ?_⟩, K⟩
 ·rw [show msOf D s'.low s'.fr = s' by cases s'; simp only at e1 e2 e3 e4; subst e1 e2 e3 e4; rfl]
  exact M'
 ·obtain ⟨a, b, c, d⟩ := e5 h0
  exact ⟨c, a.symm, b⟩
end
end Go.Proofs.YtmolfmgchbjnbaaGreatDoor
namespace Go.Proofs.YtmolfmgchbjnbaaGreatDoor
open Go.RowKit
open Wire Flow Mach
def ArgL (W : World) (v : Value) (xs : List Value) : Prop := ∃ o c, v = .slice o xs.length c ∧ xs.length ≤ c ∧ c ≤ 9223372036854775807 ∧ (0 < xs.length → ∃ g off, o = some ⟨g, off, none⟩ ∧ g < W.heap.size ∧ ∀ (i : Nat) (x : Value), xs[i]? = some x → W.cell? ⟨g, off + i, none⟩ = some x)
theorem ArgL.fr {W W' : World} {v : Value} {xs : List Value} (h : ArgL W v xs) (F : Fr [] W W') : ArgL W' v xs := by
 obtain ⟨o, c, h1, h2, h3, h4⟩ := h
 refine ⟨o, c, h1, h2, h3, fun h0 => ?_⟩
 obtain ⟨g, off, e1, e2, e3⟩ := h4 h0
 exact ⟨g, off, e1, Nat.lt_of_lt_of_le e2 F.size, fun i x hi => (F.cell (p := ⟨g, off + i, none⟩) e2 (by simp)).trans (e3 i x hi)⟩
def IsB (P : Prop) (W : World) (e : Ending) (w : World) : Prop := ∃ b : Bool, e = .returned (.bool b) ∧ (b = true ↔ P) ∧ w = W
def IsQ (P : Prop) (W : World) (e : Ending) (w : World) : Prop := ∃ q : Int, e = .returned (.int .i64 q) ∧ (0 ≤ q ↔ P) ∧ w = W
abbrev fnV (n : Nat) : Value := .func (.func n) #[] #[]
def longB (s : ByteArray) : Prop := 100 < s.size
def beyN (n : Int) : Prop := n < -1000000000 ∨ 1000000000 < n
def Scr (rs : List ByteArray) (ds : List Int) : Prop := rs.length ≤ 50 ∧ ds.length ≤ 50 ∧ (¬ ∃ s ∈ rs, longB s) ∧ ¬ ∃ n ∈ ds, beyN n
set_option maxRecDepth 100000 in
theorem islong_any (x : ByteArray) (W : World) : Calls Tryz.prog 54 #[.string x] W (IsB (longB x) W) := by
  by_cases h : 100 < x.size
  · have h' : 100 < (x.size : Int) := by omega
    go_enter Tryz.func54, Tryz.ntmps54
    go_wp2_with fail
    go_ret
    exact ⟨true, rfl, by simp [longB, h], rfl⟩
  · have h' : ¬ 100 < (x.size : Int) := by omega
    go_enter Tryz.func54, Tryz.ntmps54
    go_wp2_with fail
    go_ret
    exact ⟨false, rfl, by simp [longB, h], rfl⟩
set_option maxRecDepth 100000 in
set_option maxHeartbeats 2000000 in
theorem idxlong_any (L : List ByteArray) (hn : L.length ≤ 50) {v : Value} (W : World) (h : ArgL W v (L.map (.string))) : Calls Tryz.prog 110 #[v, fnV 54] W (IsQ (∃ x ∈ L, longB x) W) := by
  obtain ⟨o, c, rfl, hc, hc2, hx⟩ := h
  rw [List.length_map] at hc hx ⊢
  have HX : Hid _ := hx
  have J0 : Hid (¬ ∃ (j : Nat) (x : ByteArray), j < 0 ∧ L[j]? = some x ∧ longB x) := by rintro ⟨j, x, h, -⟩; omega
  clear hx
  go_enter Tryz.func110, Tryz.ntmps110
  go_wp2_with fail
  go_loop [8] (fun q => ∃ k : Nat, k ≤ L.length ∧ q = .int .i64 k ∧ Hid (¬ ∃ (j : Nat) (x : ByteArray), j < k ∧ L[j]? = some x ∧ longB x)) (fun q => L.length - (intOf q).toNat)
  case atStart => exact ⟨0, by omega, rfl, J0⟩
  case round =>
    clear J0
    obtain ⟨k, hk, rfl, J⟩ := hrel
    by_cases hlt : k < L.length
    · have g1 : (k : Int) < L.length := by omega
      obtain ⟨x, hx⟩ : ∃ x, L[k]? = some x := ⟨_, List.getElem?_eq_getElem hlt⟩
      obtain ⟨g, off, rfl, -, hcell⟩ := HX.out (by omega)
      have c1 : W.cell? ⟨g, off + k, none⟩ = some (.string x) := hcell k _ (by rw [List.getElem?_map, hx]; rfl)
      have HI : Hid _ := islong_any x W
      have Hx : Hid _ := hx
      have g2 : IntKind.i64.wrap ((k : Int) + 1) = ((k + 1 : Nat) : Int) := by rw [IntKind.wrap_i64]; omega
      clear hx hcell HX
      go_wp2_with fail
      refine Calls.mono HI.out ?_
      rintro e W1 ⟨b, rfl, hb, hW⟩
      subst hW
      have HB : Hid _ := hb
      clear hb HI
      rcases b with _ | _
      · go_wp2_with fail
        refine ⟨⟨k + 1, by omega, by go_num, ?_⟩, by simp [intOf]; omega⟩
        rintro ⟨j, y, hj, hy, hp⟩
        rcases Nat.lt_or_ge j k with c2 | c2
        · exact J.out ⟨j, y, c2, hy, hp⟩
        · have : j = k := by omega
          subst this
          have hxx := Hx.out
          rw [hxx] at hy
          cases hy
          have := HB.out.2 hp
          cases this
      · go_wp2_with fail
        go_ret
        exact ⟨k, rfl, ⟨fun _ => ⟨x, List.mem_of_getElem? Hx.out, by have := HB.out; simpa using this⟩, fun _ => by omega⟩, rfl⟩
    · have g1 : ¬ ((k : Int) < L.length) := by omega
      go_wp2_with fail
      go_ret
      refine ⟨-1, rfl, ⟨fun h => by omega, ?_⟩, rfl⟩
      rintro ⟨x, hx, hp⟩
      obtain ⟨j, hj⟩ := List.getElem?_of_mem hx
      exact absurd ⟨j, x, by have := (List.getElem?_eq_some_iff.1 hj).1; omega, hj, hp⟩ J.out
set_option maxRecDepth 100000 in
set_option maxHeartbeats 2000000 in
theorem haslong_any (L : List ByteArray) (hn : L.length ≤ 50) {v : Value} (W : World) (h : ArgL W v (L.map (.string))) : Calls Tryz.prog 53 #[v, fnV 54] W (IsB (∃ x ∈ L, longB x) W) := by
 have HI : Hid _ := idxlong_any L hn W h
 clear h
 go_enter Tryz.func53, Tryz.ntmps53
 go_wp2_with fail
 refine Calls.mono HI.out ?_
 rintro e W1 ⟨q, rfl, hq, hW⟩
 subst hW
 have HQ : Hid _ := hq
 clear hq HI
 go_wp2_with fail
 go_ret
 exact ⟨decide (0 ≤ q), rfl, by simpa using HQ.out, rfl⟩
set_option maxRecDepth 100000 in
theorem isbey_any (x : Int) (W : World) : Calls Tryz.prog 56 #[.int .i64 x] W (IsB (beyN x) W) := by
 by_cases h : x < -1000000000
 ·go_enter Tryz.func56, Tryz.ntmps56
  go_wp2_with fail
  go_ret
  exact ⟨true, rfl, by simp [beyN, h], rfl⟩
 ·by_cases h2 : 1000000000 < x
  ·go_enter Tryz.func56, Tryz.ntmps56
   go_wp2_with fail
   go_ret
   exact ⟨true, rfl, by simp [beyN, h2], rfl⟩
  ·go_enter Tryz.func56, Tryz.ntmps56
   go_wp2_with fail
   go_ret
   exact ⟨false, rfl, by simp [beyN, h, h2], rfl⟩
set_option maxRecDepth 100000 in
set_option maxHeartbeats 2000000 in
theorem idxbey_any (L : List Int) (hn : L.length ≤ 50) {v : Value} (W : World) (h : ArgL W v (L.map (.int .i64))) : Calls Tryz.prog 111 #[v, fnV 56] W (IsQ (∃ x ∈ L, beyN x) W) := by
  obtain ⟨o, c, rfl, hc, hc2, hx⟩ := h
  rw [List.length_map] at hc hx ⊢
  have HX : Hid _ := hx
  have J0 : Hid (¬ ∃ (j : Nat) (x : Int), j < 0 ∧ L[j]? = some x ∧ beyN x) := by rintro ⟨j, x, h, -⟩; omega
  clear hx
  go_enter Tryz.func111, Tryz.ntmps111
  go_wp2_with fail
  go_loop [8] (fun q => ∃ k : Nat, k ≤ L.length ∧ q = .int .i64 k ∧ Hid (¬ ∃ (j : Nat) (x : Int), j < k ∧ L[j]? = some x ∧ beyN x)) (fun q => L.length - (intOf q).toNat)
  case atStart => exact ⟨0, by omega, rfl, J0⟩
  case round =>
    clear J0
    obtain ⟨k, hk, rfl, J⟩ := hrel
    by_cases hlt : k < L.length
    · have g1 : (k : Int) < L.length := by omega
      obtain ⟨x, hx⟩ : ∃ x, L[k]? = some x := ⟨_, List.getElem?_eq_getElem hlt⟩
      obtain ⟨g, off, rfl, -, hcell⟩ := HX.out (by omega)
      have c1 : W.cell? ⟨g, off + k, none⟩ = some (.int .i64 x) := hcell k _ (by rw [List.getElem?_map, hx]; rfl)
      have HI : Hid _ := isbey_any x W
      have Hx : Hid _ := hx
      have g2 : IntKind.i64.wrap ((k : Int) + 1) = ((k + 1 : Nat) : Int) := by rw [IntKind.wrap_i64]; omega
      clear hx hcell HX
      go_wp2_with fail
      refine Calls.mono HI.out ?_
      rintro e W1 ⟨b, rfl, hb, hW⟩
      subst hW
      have HB : Hid _ := hb
      clear hb HI
      rcases b with _ | _
      · go_wp2_with fail
        refine ⟨⟨k + 1, by omega, by go_num, ?_⟩, by simp [intOf]; omega⟩
        rintro ⟨j, y, hj, hy, hp⟩
        rcases Nat.lt_or_ge j k with c2 | c2
        · exact J.out ⟨j, y, c2, hy, hp⟩
        · have : j = k := by omega
          subst this
          have hxx := Hx.out
          rw [hxx] at hy
          cases hy
          have := HB.out.2 hp
          cases this
      · go_wp2_with fail
        go_ret
        exact ⟨k, rfl, ⟨fun _ => ⟨x, List.mem_of_getElem? Hx.out, by have := HB.out; simpa using this⟩, fun _ => by omega⟩, rfl⟩
    · have g1 : ¬ ((k : Int) < L.length) := by omega
      go_wp2_with fail
      go_ret
      refine ⟨-1, rfl, ⟨fun h => by omega, ?_⟩, rfl⟩
      rintro ⟨x, hx, hp⟩
      obtain ⟨j, hj⟩ := List.getElem?_of_mem hx
      exact absurd ⟨j, x, by have := (List.getElem?_eq_some_iff.1 hj).1; omega, hj, hp⟩ J.out
set_option maxRecDepth 100000 in
set_option maxHeartbeats 2000000 in
theorem hasbey_any (L : List Int) (hn : L.length ≤ 50) {v : Value} (W : World) (h : ArgL W v (L.map (.int .i64))) : Calls Tryz.prog 55 #[v, fnV 56] W (IsB (∃ x ∈ L, beyN x) W) := by
 have HI : Hid _ := idxbey_any L hn W h
 clear h
 go_enter Tryz.func55, Tryz.ntmps55
 go_wp2_with fail
 refine Calls.mono HI.out ?_
 rintro e W1 ⟨q, rfl, hq, hW⟩
 subst hW
 have HQ : Hid _ := hq
 clear hq HI
 go_wp2_with fail
 go_ret
 exact ⟨decide (0 ≤ q), rfl, by simpa using HQ.out, rfl⟩
section
variable {rs : List ByteArray} {ds : List Int} {v u : Value} {W : World}
set_option maxRecDepth 100000 in
set_option maxHeartbeats 2000000 in
theorem isScript_many (hv : ArgL W v (rs.map .string)) (hu : ArgL W u (ds.map (.int .i64))) (hn : 50 < rs.length ∨ 50 < ds.length) : Calls Tryz.prog 32 #[v, u] W (IsB (Scr rs ds) W) := by
  obtain ⟨o, c, rfl, -, -, -⟩ := hv
  obtain ⟨o2, c2, rfl, -, -, -⟩ := hu
  rw [List.length_map, List.length_map]
  have HP : Hid (¬ Scr rs ds) := by rintro ⟨h1, h2, -⟩; omega
  by_cases h : 50 < rs.length
  · have g1 : 50 < (rs.length : Int) := by omega
    clear hn
    go_enter Tryz.func32, Tryz.ntmps32
    go_wp2_with fail
    go_ret
    exact ⟨false, rfl, by simp [HP.out], rfl⟩
  · have g1 : ¬ 50 < (rs.length : Int) := by omega
    have g2 : 50 < (ds.length : Int) := by omega
    clear hn
    go_enter Tryz.func32, Tryz.ntmps32
    go_wp2_with fail
    go_ret
    exact ⟨false, rfl, by simp [HP.out], rfl⟩
set_option maxRecDepth 100000 in
set_option maxHeartbeats 2000000 in
theorem scripted_many (hv : ArgL W v (rs.map .string)) (hu : ArgL W u (ds.map (.int .i64))) (hn : 50 < rs.length ∨ 50 < ds.length) : Calls Tryz.prog 7 #[v, u] W (IsB (Scr rs ds) W) := by
  obtain ⟨o, c, rfl, -, -, -⟩ := hv
  obtain ⟨o2, c2, rfl, -, -, -⟩ := hu
  rw [List.length_map, List.length_map]
  have HP : Hid (¬ Scr rs ds) := by rintro ⟨h1, h2, -⟩; omega
  by_cases h : 50 < rs.length
  · have g1 : 50 < (rs.length : Int) := by omega
    clear hn
    go_enter Tryz.func7, Tryz.ntmps7
    go_wp2_with fail
    go_ret
    exact ⟨false, rfl, by simp [HP.out], rfl⟩
  · have g1 : ¬ 50 < (rs.length : Int) := by omega
    have g2 : 50 < (ds.length : Int) := by omega
    clear hn
    go_enter Tryz.func7, Tryz.ntmps7
    go_wp2_with fail
    go_ret
    exact ⟨false, rfl, by simp [HP.out], rfl⟩
set_option maxRecDepth 100000 in
set_option maxHeartbeats 2000000 in
theorem isScript_any (hv : ArgL W v (rs.map .string)) (hu : ArgL W u (ds.map (.int .i64))) : Calls Tryz.prog 32 #[v, u] W (IsB (Scr rs ds) W) := by
 by_cases hn : 50 < rs.length ∨ 50 < ds.length
 ·exact isScript_many hv hu hn
 have n1 : rs.length ≤ 50 := by omega
 have n2 : ds.length ≤ 50 := by omega
 have H1 : Hid _ := haslong_any rs n1 W hv
 have H2 : Hid _ := hasbey_any ds n2 W hu
 obtain ⟨o, c, rfl, -, -, -⟩ := hv
 obtain ⟨o2, c2, rfl, -, -, -⟩ := hu
 rw [List.length_map] at H1 H2 ⊢
 rw [List.length_map]
 have g1 : ¬ 50 < (rs.length : Int) := by omega
 have g2 : ¬ 50 < (ds.length : Int) := by omega
 have HS : Hid (Scr rs ds ↔ (¬ ∃ s ∈ rs, longB s) ∧ ¬ ∃ n ∈ ds, beyN n) := ⟨fun h => ⟨h.2.2.1, h.2.2.2⟩, fun h => ⟨n1, n2, h.1, h.2⟩⟩
 clear hn n1 n2
 generalize (∃ s ∈ rs, longB s) = P1 at *
 generalize (∃ n ∈ ds, beyN n) = P2 at *
 go_enter Tryz.func32, Tryz.ntmps32
 go_wp2_with fail
 refine Calls.mono H1.out ?_
 rintro e W1 ⟨b, rfl, hb, hW⟩
 subst hW
 have HB : Hid _ := hb
 clear hb H1
 rcases b with _ | _
 ·go_wp2_with fail
  refine Calls.mono H2.out ?_
  rintro e W2 ⟨b2, rfl, hb2, hW⟩
  subst hW
  have HB2 : Hid _ := hb2
  clear hb2 H2
  go_wp2_with fail
  go_ret
  refine ⟨!b2, rfl, ?_, rfl⟩
  rw [HS.out]
  have h1 := HB.out
  have h2 := HB2.out
  cases b2 <;> simp_all
 ·go_wp2_with fail
  go_ret
  refine ⟨false, rfl, ?_, rfl⟩
  rw [HS.out]
  have h1 := HB.out
  simp_all
end
end Go.Proofs.YtmolfmgchbjnbaaGreatDoor
namespace Go.Proofs.YtmolfmgchbjnbaaGreatDoor
open Go.RowKit
open Wire Flow Mach
theorem none_more {α : Type} {P : α → Prop} {L : List α} {k : Nat} {x : α} (hx : L[k]? = some x) (hp : ¬ P x) (J : ¬ ∃ (j : Nat) (x : α), j < k ∧ L[j]? = some x ∧ P x) : ¬ ∃ (j : Nat) (x : α), j < k + 1 ∧ L[j]? = some x ∧ P x := by
  rintro ⟨j, y, hj, hy, hq⟩
  rcases Nat.lt_or_ge j k with c2 | c2
  · exact J ⟨j, y, c2, hy, hq⟩
  · have : j = k := by omega
    subst this
    rw [hx] at hy
    cases hy
    exact hp hq
theorem none_all {α : Type} {P : α → Prop} {L : List α} {k : Nat} (hk : L.length ≤ k) (J : ¬ ∃ (j : Nat) (x : α), j < k ∧ L[j]? = some x ∧ P x) : ¬ ∃ x ∈ L, P x := by
 rintro ⟨x, hx, hp⟩
 obtain ⟨j, hj⟩ := List.getElem?_of_mem hx
 exact J ⟨j, x, by have := (List.getElem?_eq_some_iff.1 hj).1; omega, hj, hp⟩
section
variable {rs : List ByteArray} {ds : List Int} {v u : Value} {W : World}
set_option maxRecDepth 100000 in
set_option maxHeartbeats 4000000 in
theorem scripted_any (hv : ArgL W v (rs.map .string)) (hu : ArgL W u (ds.map (.int .i64))) : Calls Tryz.prog 7 #[v, u] W (IsB (Scr rs ds) W) := by
  by_cases hn : 50 < rs.length ∨ 50 < ds.length
  · exact scripted_many hv hu hn
  have n1 : rs.length ≤ 50 := by omega
  have n2 : ds.length ≤ 50 := by omega
  obtain ⟨o, c, rfl, hc, hc2, hx⟩ := hv
  obtain ⟨o2, c2, rfl, hd, hd2, hy⟩ := hu
  rw [List.length_map] at hc hx hd hy ⊢
  rw [List.length_map]
  have HX : Hid _ := hx
  have HY : Hid _ := hy
  have g1 : ¬ 50 < (rs.length : Int) := by omega
  have g2 : ¬ 50 < (ds.length : Int) := by omega
  have J0 : Hid (¬ ∃ (j : Nat) (x : ByteArray), j < 0 ∧ rs[j]? = some x ∧ longB x) := by rintro ⟨j, x, h, -⟩; omega
  have I0 : Hid (¬ ∃ (j : Nat) (x : Int), j < 0 ∧ ds[j]? = some x ∧ beyN x) := by rintro ⟨j, x, h, -⟩; omega
  clear hn hx hy
  go_enter Tryz.func7, Tryz.ntmps7
  go_wp2_with fail
  go_loop [5] (fun q => ∃ k : Nat, k ≤ rs.length ∧ q = .int .i64 k ∧ Hid (¬ ∃ (j : Nat) (x : ByteArray), j < k ∧ rs[j]? = some x ∧ longB x)) (fun q => rs.length - (intOf q).toNat)
  case atStart => exact ⟨0, by omega, rfl, J0⟩
  case round =>
    clear J0
    obtain ⟨k, hk, rfl, J⟩ := hrel
    by_cases hlt : k < rs.length
    · clear I0 HY
      have g3 : (k : Int) < rs.length := by omega
      obtain ⟨x, hx⟩ : ∃ x, rs[k]? = some x := ⟨_, List.getElem?_eq_getElem hlt⟩
      obtain ⟨g, off, rfl, -, hcell⟩ := HX.out (by omega)
      have c1 : W.cell? ⟨g, off + k, none⟩ = some (.string x) := hcell k _ (by rw [List.getElem?_map, hx]; rfl)
      have Hx : Hid _ := hx
      have g4 : IntKind.i64.wrap ((k : Int) + 1) = ((k + 1 : Nat) : Int) := by rw [IntKind.wrap_i64]; omega
      clear hx hcell HX
      by_cases hp : 100 < x.size
      · have g5 : 100 < (x.size : Int) := by omega
        go_wp2_with fail
        go_ret
        exact ⟨false, rfl, ⟨fun h => (by cases h), fun h => absurd ⟨x, List.mem_of_getElem? Hx.out, hp⟩ h.2.2.1⟩, rfl⟩
      · have g5 : ¬ 100 < (x.size : Int) := by omega
        go_wp2_with fail
        exact ⟨⟨k + 1, by omega, by go_num, none_more Hx.out hp J.out⟩, by simp [intOf]; omega⟩
    · have g3 : ¬ ((k : Int) < rs.length) := by omega
      have HN : Hid _ := none_all (k := k) (by omega) J.out
      clear HX J
      go_wp2_with fail
      go_loop [6] (fun q => ∃ k : Nat, k ≤ ds.length ∧ q = .int .i64 k ∧ Hid (¬ ∃ (j : Nat) (x : Int), j < k ∧ ds[j]? = some x ∧ beyN x)) (fun q => ds.length - (intOf q).toNat)
      case atStart => exact ⟨0, by omega, rfl, I0⟩
      case round =>
        clear I0
        obtain ⟨k2, hk2, rfl, J⟩ := hrel
        by_cases hlt2 : k2 < ds.length
        · have g5 : (k2 : Int) < ds.length := by omega
          obtain ⟨x, hx⟩ : ∃ x, ds[k2]? = some x := ⟨_, List.getElem?_eq_getElem hlt2⟩
          obtain ⟨g, off, rfl, -, hcell⟩ := HY.out (by omega)
          have c1 : W.cell? ⟨g, off + k2, none⟩ = some (.int .i64 x) := hcell k2 _ (by rw [List.getElem?_map, hx]; rfl)
          have Hx : Hid _ := hx
          have g6 : IntKind.i64.wrap ((k2 : Int) + 1) = ((k2 + 1 : Nat) : Int) := by rw [IntKind.wrap_i64]; omega
          clear hx hcell HY
          by_cases hp : x < -1000000000
          · go_wp2_with fail
            go_ret
            exact ⟨false, rfl, ⟨fun h => (by cases h), fun h => absurd ⟨x, List.mem_of_getElem? Hx.out, .inl hp⟩ h.2.2.2⟩, rfl⟩
          · by_cases hq : 1000000000 < x
            · go_wp2_with fail
              go_ret
              exact ⟨false, rfl, ⟨fun h => (by cases h), fun h => absurd ⟨x, List.mem_of_getElem? Hx.out, .inr hq⟩ h.2.2.2⟩, rfl⟩
            · have hb : ¬ beyN x := by unfold beyN; omega
              have HB : Hid _ := hb
              clear hb
              go_wp2_with fail
              exact ⟨⟨k2 + 1, by omega, by go_num, none_more Hx.out HB.out J.out⟩, by simp [intOf]; omega⟩
        · have g5 : ¬ ((k2 : Int) < ds.length) := by omega
          have HM : Hid _ := none_all (k := k2) (by omega) J.out
          clear HY J
          go_wp2_with fail
          go_ret
          exact ⟨true, rfl, ⟨fun _ => ⟨n1, n2, HN.out, HM.out⟩, fun _ => rfl⟩, rfl⟩
end
end Go.Proofs.YtmolfmgchbjnbaaGreatDoor
namespace Go.Proofs.YtmolfmgchbjnbaaGreatDoor
open Go.RowKit
open Wire Flow
def envP (m : Mo) : Mach.Env := ⟨m, fun _ _ => (-1, 0), fun _ _ _ => Mach.none0, fun _ _ => [], itoaB, fun n => n⟩
theorem itoa_apart : ∀ i < 31, ∀ j < 31, Lib.itoa ((i : Nat) : Int) = Lib.itoa ((j : Nat) : Int) → i = j := by
 decide +kernel
theorem smE_of {m : Mo} (h : ∀ s ∈ m.texts, s.size ≤ 100) : Mach.SmE (envP m) where
 texts := h
 fnd := fun t x hx => by
  show (-1 : Int) ≤ -1 ∧ (-1 : Int) ≤ 100 ∧ (0 : Int) ≤ 0 ∧ (0 : Int) ≤ 100
  omega
 spl := fun t x hx s hs => by cases hs
 itoa := fun n h0 h1 => by
  have := Lib.itoa_length_le n (by omega) (by omega)
  show (Lib.itoa n).toArray.size ≤ 100
  simp
  omega
 inj := fun i j hi hj h => by
  have h : itoaB (i : Int) = itoaB (j : Int) := h
  unfold itoaB at h
  refine itoa_apart i (by omega) j (by omega) ?_
  simpa using h
 wr := fun n _ _ => rfl
theorem goE_of {m : Mo} (ht : ∀ s ∈ m.texts, s.size ≤ 100) (h1 : m.texts.length ≤ 2000000000) (h2 : m.globs.toNat ≤ 2000000000) (h3 : m.pats.length ≤ 2000000000) (h4 : m.arrs.toNat ≤ 1000) (h5 : ∀ f, f < m.fns.length → Mach.locsOf m f ≤ 16) (hM : Mach.ModOk m) : GoE (envP m) where
 env := ⟨rfl, fun _ _ _ => rfl⟩
 sm := smE_of ht
 lim := ⟨h1, h2, h3, h4, h5, fun t x hx => Nat.zero_le _⟩
 mod := hM
set_option maxHeartbeats 400000 in
theorem clone_any (s : ByteArray) (w : World) (hs : s.size ≤ 4096) : Calls Tryz.prog 58 #[.string s] w fun e w' => e = .returned (.string s) ∧ Fr [] w w' := by
 have hc := Tryz.stringslite_Clone s w (by omega)
 go_enter Tryz.func58, Tryz.ntmps58
 go_wp2_with fail
 refine hc.mono ?_
 rintro e w1 ⟨rfl, lo⟩
 go_wp2
 go_ret
 exact ⟨rfl, Fr.of_below lo⟩
end Go.Proofs.YtmolfmgchbjnbaaGreatDoor
namespace Go.Proofs.YtmolfmgchbjnbaaGreatDoor
open Go.RowKit
open Wire Flow
theorem makeMap88 (w : World) : (Instr.makeMap 144 none).run Tryz.prog w = .ok (.map (some w.heap.size)) (w.alloc (.map #[] 0)) := by
 kernel_rfl
theorem build90 (b : Nat) (w : World) : (Instr.build 146 #[(0, .map (some b))]).run Tryz.prog w = .ok (.agg #[.map (some b), .slice none 0 0]) w := by
 kernel_rfl
set_option maxRecDepth 100000 in
set_option maxHeartbeats 2000000 in
theorem newArray_any (W : World) : Calls Tryz.prog 61 #[] W fun e w => ∃ b, e = .returned (.agg #[.map (some b), .slice none 0 0]) ∧ W.heap.size ≤ b ∧ MapAt w b [] ∧ Fr [] W w := by
 have hm := makeMap88 (W.alloc (.cells #[.map none, .slice none 0 0] 146))
 have hb := build90
 go_enter Tryz.func61, Tryz.ntmps61
 go_wp2_with fail
 have k1 : ((W.alloc (.cells #[.map (some (W.heap.size + 1)), .slice none 0 0] 146)).alloc (.map #[] 0)).heap[W.heap.size]? = some (.cells #[.map (some (W.heap.size + 1)), .slice none 0 0] 146) := heap_alloc2_old W _ _
 have k2 : ((W.alloc (.cells #[.map (some (W.heap.size + 1)), .slice none 0 0] 146)).alloc (.map #[] 0)).heap[W.heap.size + 1]? = some (.map #[] 0) := heap_alloc2_new W _ _
 refine bodyPost_ret (results_cell_row rfl _ _ W.heap.size 146 #[.map (some (W.heap.size + 1)), .slice none 0 0] (0, 0) _ rfl k1 Tryz.underlying146 rfl (by kernel_rfl)) rfl ?_
 exact ⟨W.heap.size + 1, rfl, by omega, ⟨#[], 0, k2, rfl⟩, ((Fr.refl [] W).alloc _).alloc _⟩
end Go.Proofs.YtmolfmgchbjnbaaGreatDoor
namespace Go.Proofs.YtmolfmgchbjnbaaGreatDoor
open Go.RowKit
open Wire Flow
def ms0 (m : Mo) (recs : List ByteArray) (draws : List Int) : Ms := msOf (Mach.begin_ m recs draws) [] (Mach.enter m 0 [])
section
variable {E : Mach.Env} {X gF : Nat} {W : World} {tag : Nat → Nat} {recs : List ByteArray} {draws : List Int}
def lv0 (n : Nat) (i : Nat) : Bool := decide (i = 10 ∨ i = 11 ∨ i = 12 ∨ i = 13 ∨ i = 5000 ∨ (21 ≤ i ∧ i < 21 + 2 * n ∧ i % 2 = 1))
def R0 (X : Nat) (x : Mx) (s : Ms) (i : Nat) : Rw :=
 if i = 10 then ⟨.slice (some ⟨X, 0, none⟩) 1 1, 135, 16, 1, xC x s⟩
 else if i = 11 then ⟨x.frv, 225, 51, s.low.length + 1, rng (s.low.length + 1) fun k => frC (x.F k) (fAt s k)⟩
 else if i = 12 then ⟨x.gv, 221, 3, s.w.globs.length, rng s.w.globs.length fun i => vC (s.w.globs.getD i Mach.nothing)⟩
 else if i = 13 then ⟨x.av, 146, 2, s.w.arrs.length, rng s.w.arrs.length fun i => [.map (some (x.A i).1), (x.A i).2]⟩
 else if i = 5000 then ⟨.slice none 0 0, 306, 4, 0, []⟩
 else ⟨.slice none 0 0, 9, 1, 0, []⟩
def mp0 (n : Nat) (x : Mx) (i : Nat) : Option (Nat × List (Value × Value)) := if 20 ≤ i ∧ i < 20 + 2 * n ∧ i % 2 = 0 then some ((x.A ((i - 20) / 2)).1, []) else none
theorem sto0 {x : Mx} {s : Ms} (hn : s.w.arrs.length ≤ 1000) (oX : W.ownsRow 0 135 16 (.slice (some ⟨X, 0, none⟩) 1 1) 1 (xC x s)) (oF : W.ownsRow 0 225 51 x.frv (s.low.length + 1) (rng (s.low.length + 1) fun k => frC (x.F k) (fAt s k))) (oG : W.ownsRow 0 221 3 x.gv s.w.globs.length (rng s.w.globs.length fun i => vC (s.w.globs.getD i Mach.nothing))) (oA : W.ownsRow 0 146 2 x.av s.w.arrs.length (rng s.w.arrs.length fun i => [.map (some (x.A i).1), (x.A i).2]))
    (tX : tag X = 10) (tF : Tg tag x.frv 11) (tG : Tg tag x.gv 12) (tA : Tg tag x.av 13) (hA : ∀ i, i < s.w.arrs.length → MapAt W (x.A i).1 [] ∧ tag (x.A i).1 = 20 + 2 * i) : Sto W tag (lv0 s.w.arrs.length) (R0 X x s) (mp0 s.w.arrs.length x) where
  rows := fun i hi => by
    have hi' : i = 10 ∨ i = 11 ∨ i = 12 ∨ i = 13 ∨ i = 5000 ∨ (21 ≤ i ∧ i < 21 + 2 * s.w.arrs.length ∧ i % 2 = 1) := by simpa [lv0] using hi
    rcases hi' with rfl | rfl | rfl | rfl | rfl | ⟨h1, h2, h3⟩
    · exact ⟨oX, fun q hq => by
        have : X = q := by simpa [R0, Value.ownBlock] using hq
        rw [← this]; exact tX⟩
    · exact ⟨oF, tF⟩
    · exact ⟨oG, tG⟩
    · exact ⟨oA, tA⟩
    · exact ⟨⟨rfl, .inl ⟨rfl, rfl⟩⟩, Tg.nil _ _⟩
    · have e : R0 X x s i = ⟨.slice none 0 0, 9, 1, 0, []⟩ := by
        unfold R0
        rw [if_neg (by omega), if_neg (by omega), if_neg (by omega), if_neg (by omega), if_neg (by omega)]
      rw [e]
      exact ⟨⟨rfl, .inl ⟨rfl, rfl⟩⟩, Tg.nil _ _⟩
  maps := fun i b l h => by
    unfold mp0 at h
    split at h
    · rename_i c
      simp only [Option.some.injEq, Prod.mk.injEq] at h
      obtain ⟨h1, h2⟩ := h
      obtain ⟨a, t⟩ := hA ((i - 20) / 2) (by omega)
      rw [← h1, ← h2]
      exact ⟨a, by rw [t]; omega⟩
    · cases h
  far := fun i hi => by
    have hi' : i = 10 ∨ i = 11 ∨ i = 12 ∨ i = 13 ∨ i = 5000 ∨ (21 ≤ i ∧ i < 21 + 2 * s.w.arrs.length ∧ i % 2 = 1) := by simpa [lv0] using hi
    unfold mp0
    rw [if_neg (by omega)]
  num := fun i h => by
    rcases h with h | h
    · have hi' : i = 10 ∨ i = 11 ∨ i = 12 ∨ i = 13 ∨ i = 5000 ∨ (21 ≤ i ∧ i < 21 + 2 * s.w.arrs.length ∧ i % 2 = 1) := by simpa [lv0] using h
      omega
    · unfold mp0 at h
      split at h
      · omega
      · exact absurd rfl h
end
end Go.Proofs.YtmolfmgchbjnbaaGreatDoor
namespace Go.Proofs.YtmolfmgchbjnbaaGreatDoor
open Go.RowKit
open Wire Flow
section
variable {E : Mach.Env} {X gF : Nat} {W : World} {tag : Nat → Nat} {recs : List ByteArray} {draws : List Int}
theorem mm_begin {x : Mx} (h6 : 6 ≤ W.heap.size) (hm : 3 ≤ E.mo.fns.length) (hn : E.mo.arrs.toNat ≤ 1000) (hpl : PlcAt E.mo 0 (x.code 0).2 0 0)
  (sta : Sta E W tag x.tv x.pv x.fv x.code) (e0 : x.entry = 0)
  (oX : W.ownsRow 0 135 16 (.slice (some ⟨X, 0, none⟩) 1 1) 1 (xC x (ms0 E.mo recs draws)))
  (vF : x.frv = .slice (some ⟨gF, 0, none⟩) 1 1) (oF : W.ownsRow 0 225 51 x.frv 1 (frC (x.F 0) (Mach.enter E.mo 0 [])))
  (fF : (x.F 0).cv = (x.code 0).1 ∧ (x.F 0).ix = 0 ∧ (x.F 0).sv = .slice none 0 0)
  (oG : W.ownsRow 0 221 3 x.gv E.mo.globs.toNat (rng E.mo.globs.toNat fun _ => vC Mach.nothing))
  (oA : W.ownsRow 0 146 2 x.av E.mo.arrs.toNat (rng E.mo.arrs.toNat fun i => [.map (some (x.A i).1), .slice none 0 0])) (sA : ∀ i, i < E.mo.arrs.toNat → (x.A i).2 = .slice none 0 0)
  (tX : tag X = 10) (tF : Tg tag x.frv 11) (tG : Tg tag x.gv 12) (tA : Tg tag x.av 13) (hA : ∀ i, i < E.mo.arrs.toNat → MapAt W (x.A i).1 [] ∧ tag (x.A i).1 = 20 + 2 * i)
  (rcs : RoL W tag x.rv (recs.map .string)) (drw : RoL W tag x.dv (draws.map (.int .i64))) (fl : x.flv = .slice none 0 0) :
  MM E X ⟨gF, x.gv, x.av, 0, x.pv, x.code⟩ (ms0 E.mo recs draws) W tag := by
 have la : (ms0 E.mo recs draws).w.arrs.length = E.mo.arrs.toNat := by simp [ms0, msOf, Mach.begin_]
 have lg : (ms0 E.mo recs draws).w.globs.length = E.mo.globs.toNat := by simp [ms0, msOf, Mach.begin_]
 have hS := sto0 (W := W) (tag := tag) (X := X) (x := x) (s := ms0 E.mo recs draws) (by rw [la]; exact hn) oX ?_ ?_ ?_ tX tF tG tA (by rw [la]; exact hA)
 ·refine ⟨h6, lv0 (ms0 E.mo recs draws).w.arrs.length, R0 X x (ms0 E.mo recs draws), mp0 (ms0 E.mo recs draws).w.arrs.length x, x, ⟨⟨rfl, e0, rfl, rfl⟩, rfl⟩, ?_⟩
  exact {
   S := hS
   sta := sta
   lX := by simp [lv0]
   rX := rfl
   lF := by simp [lv0]
   rF := rfl
   vF := ⟨1, vF⟩
   nF := Nat.zero_le _
   lG := by simp [lv0]
   rG := rfl
   lA := by simp [lv0]
   rA := rfl
   nA := by rw [la]; exact hn
   arr := fun i hi => by
    rw [la] at hi
    have e : (ms0 E.mo recs draws).w.arrs.getD i [] = [] := by
     simp [ms0, msOf, Mach.begin_, List.getElem?_replicate]
     split <;> rfl
    refine ⟨?_, ?_, ?_⟩
    ·rw [e, la]
     unfold mp0
     rw [if_pos (by omega), show (20 + 2 * i - 20) / 2 = i by omega]
     rfl
    ·rw [la]; simp [lv0]; omega
    ·rw [e, sA i hi]
     unfold R0
     rw [if_neg (by omega), if_neg (by omega), if_neg (by omega), if_neg (by omega), if_neg (by omega)]
     rfl
   stk := fun k hk => by
    have hk0 : k = 0 := Nat.le_zero.1 hk
    subst hk0
    refine ⟨by simp [lv0], ?_⟩
    rw [fF.2.2]
    rfl
   wlk := fun k j c hk hj hc => by
    have hk0 : k = 0 := Nat.le_zero.1 hk
    subst hk0
    have : (fAt (ms0 E.mo recs draws) 0).stk = [] := rfl
    rw [this] at hj
    simp at hj
   fn := fun k hk => by
    have hk0 : k = 0 := Nat.le_zero.1 hk
    subst hk0
    refine ⟨by show 0 < _; omega, fF.1, ?_⟩
    rw [fF.2.1]
    exact hpl
   rcs := rcs
   drw := drw
   fld := ⟨none, 0, fl, Nat.le_refl _, by decide, fun h => absurd h (by simp [ms0, msOf, Mach.begin_])⟩ }
 ·exact oF
 ·rw [lg]
  refine Eq.mp (congrArg _ (rng_congr fun j hj => ?_)) oG
  congr 1
  simp [ms0, msOf, Mach.begin_, List.getElem?_replicate, hj]
 ·rw [la]
  refine Eq.mp (congrArg _ (rng_congr fun j hj => ?_)) oA
  rw [sA j hj]
end
end Go.Proofs.YtmolfmgchbjnbaaGreatDoor
namespace Go.Proofs.YtmolfmgchbjnbaaGreatDoor
open Go.RowKit
open Wire Flow
theorem cloneI_any {ds : List Int} {v : Value} (W : World) (hn : ds.length ≤ 50) (h : ArgL W v (ds.map (.int .i64))) : Calls Tryz.prog 57 #[v] W fun e w => ∃ v', e = .returned v' ∧ w.ownsRow W.heap.size 3 1 v' ds.length (ds.map (.int .i64)) ∧ Fr [] W w := by
 obtain ⟨o, c, rfl, hc, hc2, hx⟩ := h
 rw [List.length_map] at hc hx ⊢
 rcases o with _ | ⟨g, off, z⟩
 ·have h0 : ds.length = 0 := by
   rcases Nat.eq_zero_or_pos ds.length with h | h
   ·exact h
   ·obtain ⟨g, off, e, -⟩ := hx h
    cases e
  refine (Tryz.slices_Clone_int_nil ds.length c W).mono ?_
  rintro e w ⟨rfl, rfl⟩
  have : ds = [] := List.eq_nil_of_length_eq_zero h0
  subst this
  exact ⟨_, rfl, ⟨rfl, .inl ⟨rfl, rfl⟩⟩, Fr.refl [] _⟩
 ·rcases Nat.eq_zero_or_pos ds.length with h | h
  ·have : ds = [] := List.eq_nil_of_length_eq_zero h
   subst this
   refine (Tryz.slices_Clone_int_zero ⟨g, off, z⟩ c W).mono ?_
   rintro e w ⟨v', rfl, ow, -, hB⟩
   exact ⟨v', rfl, ow, Fr.of_below hB⟩
  ·obtain ⟨g', off', e, -, hcell⟩ := hx h
   cases e
   refine (Tryz.slices_Clone_int g off ds.length c ds W (Nat.le_refl _) (by omega) fun j hj => ?_).mono ?_
   ·refine hcell j _ ?_
    rw [List.getElem?_map, List.getElem?_eq_getElem hj, List.getD_eq_getElem?_getD, List.getElem?_eq_getElem hj]
    rfl
   ·rintro e w ⟨v', rfl, ow, -, hB⟩
    rw [List.take_length] at ow
    exact ⟨v', rfl, ow, Fr.of_below hB⟩
end Go.Proofs.YtmolfmgchbjnbaaGreatDoor
namespace Go.Proofs.YtmolfmgchbjnbaaGreatDoor
open Go.RowKit
open Wire Flow
end Go.Proofs.YtmolfmgchbjnbaaGreatDoor
namespace Go.Proofs.YtmolfmgchbjnbaaGreatDoor
open Go.RowKit
open Wire Flow
section
variable {W W2 : World} {tag : Nat → Nat} {lv : Nat → Bool} {R : Nat → Rw} {mp : Nat → Option (Nat × List (Value × Value))}
theorem Sto.mark (h : Sto W tag lv R mp) (F : Fr [] W W2) (t : Nat) : Sto W2 (newTag tag W.heap.size t) lv R mp ∧ Kp tag (newTag tag W.heap.size t) W W2 := ⟨h.frm F t, Kp.of_fr F fun k hk => newTag_old hk⟩
theorem Sto.app (h : Sto W tag lv R mp) {X m j n z bytes T e : Nat} {zv sv : Value} {xs ys news : List Value} (hi : (Tryz.prog.info? e).map (fun i => (i.zero, i.size, i.bytes)) = some (some zv, z, bytes)) (hu : Tryz.prog.underlying T = some (.slice e)) (hzs : zv.cells.size = z) (hz : 0 < z)
  (l10 : lv 10 = true) (r10 : R 10 = ⟨.slice (some ⟨X, 0, none⟩) 1 1, 135, 16, 1, xs⟩) (hm : m ≠ 10) (lm : lv m = true) (rm : R m = ⟨sv, e, z, n, ys⟩) (hx : xs[j]? = some sv) (hj : j < 16) (hn : n ≤ 1000) (hb : bytes ≤ 1000) (hnl : news.length = z) (hone : ∀ u ∈ news, u.oneCell' = true) (F : Fr [] W W2) :
  ∃ so sc vo vc W4 t4, sv = .slice so n sc ∧ (Builtin.append_ #[T, T] T #[.slice so n sc, .slice (some ⟨W2.heap.size, 0, none⟩) 1 1]).run Tryz.prog (W2.alloc (.cells news.toArray e)) = .ok (.slice vo (n + 1 : Nat) vc) W4 ∧ W2.cell? ⟨X, j, none⟩ = some (.slice so n sc) ∧ W4.cell? ⟨X, j, none⟩ = some (.slice so n sc) ∧ W4.frozen? ⟨X, j, none⟩ = false ∧
   Sto (W4.setCell ⟨X, j, none⟩ (.slice vo (n + 1 : Nat) vc)) t4 lv (up (up R m ⟨.slice vo (n + 1 : Nat) vc, e, z, n + 1, ys ++ news⟩) 10 ⟨.slice (some ⟨X, 0, none⟩) 1 1, 135, 16, 1, xs.set j (.slice vo (n + 1 : Nat) vc)⟩) mp ∧ Kp tag t4 W (W4.setCell ⟨X, j, none⟩ (.slice vo (n + 1 : Nat) vc)) ∧ Kp (newTag tag W.heap.size 9) t4 W2 (W4.setCell ⟨X, j, none⟩ (.slice vo (n + 1 : Nat) vc)) := by
 obtain ⟨i0, hi, hz0, hz1, hz2⟩ := info_parts hi
 have o10 : W.ownsRow 0 135 16 (.slice (some ⟨X, 0, none⟩) 1 1) 1 xs := by have := (h.rows 10 l10).1; rw [r10] at this; exact this
 have om : W.ownsRow 0 e z sv n ys := by have := (h.rows m lm).1; rw [rm] at this; exact this
 obtain ⟨so, sc, rfl⟩ := own_form om
 have hXl : X < W.heap.size := (o10.lt X rfl).2
 obtain ⟨S2, K2⟩ := h.mark F 9
 have F3 : Fr [] W2 (W2.alloc (.cells news.toArray e)) := (Fr.refl [] W2).alloc _
 obtain ⟨S3, K3⟩ := S2.mark F3 9
 have hc := cells_new W2 news.toArray e
 generalize W2.alloc (.cells news.toArray e) = W3 at *
 have om3 : W3.ownsRow 0 e z (.slice so n sc) n ys := by have := (S3.rows m lm).1; rw [rm] at this; exact this
 obtain ⟨v', W4, hr4, hown', hgrow, -, hwh⟩ := run_append_own_at (P := Tryz.prog) (w := W3) 0 T T e i0 _ z bytes hu hi hz0 hz1 hz2 hzs hz _ _ _ om3 ⟨W2.heap.size, 0, none⟩ 1 1 news (by rw [Nat.one_mul]; exact hnl) hc hone (by unfold maxLen; omega) (Nat.le_trans (Nat.mul_le_mul (show n + 1 ≤ 1001 by omega) hb) (by decide)) (Nat.zero_le _)
 obtain ⟨vo, vc, rfl⟩ := own_form hown'
 obtain ⟨S4, K4⟩ := S3.grow (i := m) lm hown' (by rw [rm]; exact hgrow) (by rw [rm]; exact hwh)
 have r10' : up R m ⟨.slice vo (n + 1) vc, e, z, n + 1, ys ++ news⟩ 10 = ⟨.slice (some ⟨X, 0, none⟩) 1 1, 135, 16, 1, xs⟩ := by rw [up_off _ _ (by omega)]; exact r10
 obtain ⟨S5, K5⟩ := S4.put l10 r10' (j := j) (by omega) (.slice vo (n + 1) vc)
 have o4 : W4.ownsRow 0 135 16 (.slice (some ⟨X, 0, none⟩) 1 1) 1 xs := by have := (S4.rows 10 l10).1; rw [r10'] at this; exact this
 exact ⟨so, sc, vo, vc, W4, _, rfl, hr4, (F.cell (p := ⟨X, j, none⟩) hXl (by simp)).trans (own_cell o10 hx), own_cell o4 hx, own_thaw o4 j, S5, ((K2.trans K3).trans K4).trans K5, (K3.trans K4).trans K5⟩
end
end Go.Proofs.YtmolfmgchbjnbaaGreatDoor
