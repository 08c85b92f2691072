import Derived.Test.YtmolfmgchbjnbaaGreatDoorM24
set_option linter.unusedSimpArgs false
set_option linter.unusedVariables false
namespace Go.Proofs.YtmolfmgchbjnbaaGreatDoor
open Go.RowKit
open Wire Flow Mach
section
variable {E : Env} {X : Nat} {g : Pl} {s : Ms} {W W' : World} {tag : Nat → Nat}
set_option maxRecDepth 100000 in
set_option maxHeartbeats 4000000 in
theorem MM.len (hE : EnvOk E) (h : MM E X g s W tag) {l : List Cell} {v : Val} (hs : s.fr.stk = l ++ [cv v]) (hl : s.fr.stk.length ≤ 1024) (hv : SmV v) :
  Calls Tryz.prog 125 #[fp g s, .int .u8 39] W (MP E X g (onStk s (l ++ [cv (whole ((textV E v).size : Nat))])) tag W unit) := by
 have hl3 : l.length < 1024 := by rw [hs] at hl; simp at hl; omega
 have HP1 : Hid _ := fun (_ : Unit) => h.popText hE hs hl hv
 have HN : Hid _ := fun (W1 : World) (t1 : Nat → Nat) (h1 : MM E X g (onStk s l) W1 t1) (n : Int) => MM.pushNumber h1 (show l.length < 1024 from hl3) n
 generalize textV E v = a at HP1 ⊢
 clear h
 go_enter Tryz.func125, Tryz.ntmps125
 go_wp2_with fail
 refine (HP1.out ()).mono ?_
 rintro e W1 ⟨rfl, t1, h1, k1⟩
 have HM1 : Hid _ := And.intro h1 (k1)
 have HK1 : Hid _ := k1
 clear h1 k1 HP1
 go_wp2_with fail
 refine (HN.out W1 t1 HM1.out.1 (a.size : Nat)).mono ?_
 rintro e W2 ⟨rfl, t2, h2, k2⟩
 have HM2 : Hid _ := And.intro h2 (HM1.out.2.trans k2)
 have HK2 : Hid _ := k2
 clear h2 k2 HN
 go_wp2_with fail
 refine bodyPost_ret (results_none rfl _ _ _) rfl ?_
 exact ⟨rfl, t2, HM2.out.1, HM2.out.2⟩
theorem MM.pop3 (h : MM E X g s W tag) {l : List Cell} {t u v : Val} (hs : s.fr.stk = l ++ [cv t, cv u, cv v]) (hl : s.fr.stk.length ≤ 1024) : s.fr.stk = (l ++ [cv t] ++ [cv u]) ++ [cv v] ∧ (onStk s (l ++ [cv t] ++ [cv u])).fr.stk = (l ++ [cv t]) ++ [cv u] ∧ (onStk s (l ++ [cv t])).fr.stk = l ++ [cv t] ∧ (onStk s (l ++ [cv t] ++ [cv u])).fr.stk.length ≤ 1024 ∧ (onStk s (l ++ [cv t])).fr.stk.length ≤ 1024 ∧ l.length < 1024 := by
 have e : s.fr.stk = (l ++ [cv t] ++ [cv u]) ++ [cv v] := by rw [hs]; simp
 rw [e] at hl
 simp only [List.length_append, List.length_cons, List.length_nil] at hl
 refine ⟨e, rfl, rfl, ?_, ?_, by omega⟩
 ·show (l ++ [cv t] ++ [cv u]).length ≤ 1024
  simp; omega
 ·show (l ++ [cv t]).length ≤ 1024
  simp; omega
set_option maxRecDepth 100000 in
set_option maxHeartbeats 4000000 in
theorem MM.part (hE : EnvOk E) (h : MM E X g s W tag) {l : List Cell} {t u v : Val} (hs : s.fr.stk = l ++ [cv t, cv u, cv v]) (hl : s.fr.stk.length ≤ 1024) (ht : SmV t) (hu : SmV u) (hv : SmV v) (st : (textV E t).size ≤ 100) :
  Calls Tryz.prog 125 #[fp g s, .int .u8 40] W (MP E X g (onStk s (l ++ [cv (words ⟨(partL (numV u) (numV u + numV v) 0 (bl (textV E t))).toArray⟩)])) tag W unit) := by
 obtain ⟨e1, e2, e3, hl1, hl2, hl3⟩ := h.pop3 hs hl
 have HP1 : Hid _ := fun (_ : Unit) => h.popNumber e1 hl hv
 have HP2 : Hid _ := fun (W1 : World) (t1 : Nat → Nat) (h1 : MM E X g (onStk s (l ++ [cv t] ++ [cv u])) W1 t1) => MM.popNumber h1 e2 hl1 hu
 have HP3 : Hid _ := fun (W1 : World) (t1 : Nat → Nat) (h1 : MM E X g (onStk s (l ++ [cv t])) W1 t1) => MM.popText hE h1 e3 hl2 ht
 have HN : Hid _ := fun (W1 : World) (t1 : Nat → Nat) (h1 : MM E X g (onStk s l) W1 t1) (n : ByteArray) => MM.pushText h1 (show l.length < 1024 from hl3) n
 have bu := numV_sm hu
 have bv := numV_sm hv
 generalize textV E t = a at HP3 st ⊢
 generalize numV u = f at HP2 bu ⊢
 generalize numV v = n at HP1 bv ⊢
 have HR : Hid _ := fun (W : World) => part_any a f n (by omega) bu.1 bu.2 bv.1 bv.2 W
 generalize (⟨(partL f (f + n) 0 (bl a)).toArray⟩ : ByteArray) = r at HR ⊢
 clear h bu bv
 go_enter Tryz.func125, Tryz.ntmps125
 go_wp2_with fail
 refine (HP1.out ()).mono ?_
 rintro e W1 ⟨rfl, t1, h1, k1⟩
 have HM1 : Hid _ := And.intro h1 (k1)
 have HK1 : Hid _ := k1
 clear h1 k1 HP1
 go_wp2_with fail
 refine (HP2.out W1 t1 HM1.out.1).mono ?_
 rintro e W2 ⟨rfl, t2, h2, k2⟩
 have HM2 : Hid _ := And.intro h2 (HM1.out.2.trans k2)
 have HK2 : Hid _ := k2
 clear h2 k2 HP2
 go_wp2_with fail
 refine (HP3.out W2 t2 HM2.out.1).mono ?_
 rintro e W3 ⟨rfl, t3, h3, k3⟩
 have HM3 : Hid _ := And.intro h3 (HM2.out.2.trans k3)
 have HK3 : Hid _ := k3
 clear h3 k3 HP3
 go_wp2_with fail
 refine (HR.out W3).mono ?_
 rintro e W4 ⟨rfl, hw4⟩
 replace hw4 := hw4.symm
 subst hw4
 go_wp2_with fail
 refine (HN.out W3 t3 HM3.out.1 r).mono ?_
 rintro e W5 ⟨rfl, t5, h5, k5⟩
 have HM5 : Hid _ := And.intro h5 (HM3.out.2.trans k5)
 have HK5 : Hid _ := k5
 clear h5 k5 HN HR
 go_wp2_with fail
 refine bodyPost_ret (results_none rfl _ _ _) rfl ?_
 exact ⟨rfl, t5, HM5.out.1, HM5.out.2⟩
set_option maxRecDepth 100000 in
set_option maxHeartbeats 4000000 in
theorem MM.index (hE : EnvOk E) (h : MM E X g s W tag) {l : List Cell} {u v : Val} (hs : s.fr.stk = l ++ [cv u, cv v]) (hl : s.fr.stk.length ≤ 1024) (hu : SmV u) (hv : SmV v) (su : (textV E u).size ≤ 100) :
  Calls Tryz.prog 125 #[fp g s, .int .u8 41] W (MP E X g (onStk s (l ++ [cv (whole (indexL (bl (textV E v)) 0 (bl (textV E u)) : Nat))])) tag W unit) := by
 obtain ⟨e1, e2, hl2, hl3⟩ := h.pop2 hs hl
 have HP1 : Hid _ := fun (_ : Unit) => h.popText hE e1 hl hv
 have HP2 : Hid _ := fun (W1 : World) (t1 : Nat → Nat) (h1 : MM E X g (onStk s (l ++ [cv u])) W1 t1) => MM.popText hE h1 e2 hl2 hu
 have HN : Hid _ := fun (W1 : World) (t1 : Nat → Nat) (h1 : MM E X g (onStk s l) W1 t1) (n : Int) => MM.pushNumber h1 (show l.length < 1024 from hl3) n
 generalize textV E u = a at HP2 su ⊢
 generalize textV E v = b at HP1 ⊢
 have HI : Hid _ := fun (W : World) (m : Int) (hm : W.cell? ⟨4, 0, none⟩ = some (.int .i64 m)) => Tryz.strings_Index a b m W (by omega) hm
 have hx : (indexL (bl b) 0 (bl a) : Int) = Lib.index a.data.toList b.data.toList + 1 := by
  rw [indexL_eq]
  have := Lib.index_ge (bl a) (bl b)
  show _ = Lib.index (bl a) (bl b) + 1
  split <;> omega
 have hle := index_le (bl b) 0 (bl a)
 rw [bl_length] at hle
 generalize indexL (bl b) 0 (bl a) = r at hx hle ⊢
 generalize Lib.index a.data.toList b.data.toList = i at HI hx
 have hw : IntKind.i64.wrap (i + 1) = i + 1 := by rw [IntKind.wrap_i64]; omega
 rw [hx]
 clear h hx hle
 go_enter Tryz.func125, Tryz.ntmps125
 go_wp2_with fail
 refine (HP1.out ()).mono ?_
 rintro e W1 ⟨rfl, t1, h1, k1⟩
 have HM1 : Hid _ := And.intro h1 (k1)
 have HK1 : Hid _ := k1
 clear h1 k1 HP1
 go_wp2_with fail
 refine (HP2.out W1 t1 HM1.out.1).mono ?_
 rintro e W2 ⟨rfl, t2, h2, k2⟩
 have HM2 : Hid _ := And.intro h2 (HM1.out.2.trans k2)
 have HK2 : Hid _ := k2
 clear h2 k2 HP2
 obtain ⟨m, hm⟩ := MM.mxl HM2.out.1
 have Hm : Hid _ := hm
 clear hm
 go_wp2_with fail
 refine (HI.out W2 m Hm.out).mono ?_
 rintro e W3 ⟨rfl, hw3⟩
 replace hw3 := hw3.symm
 subst hw3
 go_wp2_with fail
 refine (HN.out W2 t2 HM2.out.1 (i + 1)).mono ?_
 rintro e W4 ⟨rfl, t4, h4, k4⟩
 have HM4 : Hid _ := And.intro h4 (HM2.out.2.trans k4)
 have HK4 : Hid _ := k4
 clear h4 k4 HN HI
 go_wp2_with fail
 refine bodyPost_ret (results_none rfl _ _ _) rfl ?_
 exact ⟨rfl, t4, HM4.out.1, HM4.out.2⟩
end
end Go.Proofs.YtmolfmgchbjnbaaGreatDoor
namespace Go.Proofs.YtmolfmgchbjnbaaGreatDoor
open Go.RowKit
open Wire Flow Mach
theorem box5 (W : World) (op pl a b q : Int) : ∃ W1, W.alloc (.cells #[.int .u8 op, .int .i64 pl, .int .i64 a, .int .i64 b, .int .i64 q] 150) = W1 ∧ Fr [] W W1 ∧ (W1.cell? ⟨W.heap.size, 0, none⟩ = some (.int .u8 op) ∧ W1.cell? ⟨W.heap.size, 1, none⟩ = some (.int .i64 pl) ∧ W1.cell? ⟨W.heap.size, 2, none⟩ = some (.int .i64 a) ∧ W1.cell? ⟨W.heap.size, 3, none⟩ = some (.int .i64 b) ∧ W1.cell? ⟨W.heap.size, 4, none⟩ = some (.int .i64 q)) ∧ W.heap.size < W1.heap.size := by
 have k1 := World.alloc_heap_new W (.cells #[.int .u8 op, .int .i64 pl, .int .i64 a, .int .i64 b, .int .i64 q] 150)
 exact ⟨_, rfl, (Fr.refl [] W).alloc _, (cells5 k1).1, by simp⟩
set_option maxRecDepth 100000 in
theorem signed_any (a : Nat) (ha : a ≤ 2000000000) (W : World) : Calls Tryz.prog 193 #[.int .i64 (a : Nat)] W fun e W' => e = .returned (.int .i64 (signedN a)) ∧ W' = W := by
  have hm : Int.tmod (a : Int) 2 = ((a % 2 : Nat) : Int) := by rw [Int.tmod_eq_emod_of_nonneg (by omega)]; omega
  by_cases h : a % 2 = 0
  · have hs : signedN a = Int.tdiv (a : Int) 2 := by unfold signedN; rw [if_pos h, Int.tdiv_eq_ediv_of_nonneg (by omega)]; omega
    have hw : IntKind.i64.wrap (Int.tdiv (a : Int) 2) = Int.tdiv (a : Int) 2 := by rw [IntKind.wrap_i64, ← hs]; unfold signedN; rw [if_pos h]; omega
    have hw2 : IntKind.i64.wrap (Int.tmod (a : Int) 2) = 0 := by rw [hm, h]; decide
    have hm0 : Int.tmod (a : Int) 2 = 0 := by rw [hm, h]; rfl
    rw [hs]
    clear hs hm
    go_enter Tryz.func193, Tryz.ntmps193
    go_wp2_with fail
    go_ret
    exact ⟨rfl, rfl⟩
  · have h1 : a % 2 = 1 := by omega
    have hs : signedN a = Int.tdiv (-((a : Int) + 1)) 2 := by unfold signedN; rw [if_neg h, Int.neg_tdiv, Int.tdiv_eq_ediv_of_nonneg (by omega)]; omega
    have hm1 : Int.tmod (a : Int) 2 = 1 := by rw [hm, h1]; rfl
    have hw1 : IntKind.i64.wrap ((a : Int) + 1) = (a : Int) + 1 := by rw [IntKind.wrap_i64]; omega
    have hw2 : IntKind.i64.wrap (-((a : Int) + 1)) = -((a : Int) + 1) := by rw [IntKind.wrap_i64]; omega
    have hw : IntKind.i64.wrap (Int.tdiv (-((a : Int) + 1)) 2) = Int.tdiv (-((a : Int) + 1)) 2 := by rw [IntKind.wrap_i64, ← hs]; unfold signedN; rw [if_neg h]; omega
    have hsW : Hid (wrap64 (-((a : Int) + 1).tdiv 2) = signedN a) := by
      show wrap64 (-((a : Int) + 1).tdiv 2) = signedN a
      unfold wrap64
      rw [← Int.neg_tdiv, ← IntKind.wrap_i64, hw, hs]
    clear hs hm
    go_enter Tryz.func193, Tryz.ntmps193
    go_wp2_with fail
    go_ret
    refine ⟨?_, rfl⟩
    show Ending.returned (Value.int .i64 (wrap64 (-((a : Int) + 1).tdiv 2))) = _
    rw [hsW.out]
section
variable {E : Env} {X : Nat} {g : Pl} {s : Ms} {W W' : World} {tag : Nat → Nat}
theorem MR.xc {lv : Nat → Bool} {R : Nat → Rw} {mp : Nat → Option (Nat × List (Value × Value))} {x : Mx} (h : MR E X g.g s W tag lv R mp x) {j : Nat} {v : Value} (hj : (xC x s)[j]? = some v) : W.cell? ⟨X, j, none⟩ = some v := by
 have := (h.S.rows 10 h.lX).1
 rw [h.rX] at this
 exact own_cell this hj
theorem MM.text (h : MM E X g s W tag) {i : Nat} {t : ByteArray} (hi : E.mo.texts[i]? = some t) : ∃ gt off n c, W.cell? ⟨X, 0, none⟩ = some (.slice (some ⟨gt, off, none⟩) n c) ∧ i < n ∧ W.cell? ⟨gt, off + i, none⟩ = some (.string t) := by
 obtain ⟨h6, lv, R, mp, x, hx, h⟩ := h
 obtain ⟨o, c, e1, e2, e2', e3⟩ := h.sta.txt
 have hl := (List.getElem?_eq_some_iff.1 hi).1
 obtain ⟨gt, off, rfl, -, -, e4⟩ := e3 (by simp; omega)
 exact ⟨gt, off, _, c, h.xc (by rw [← e1]; rfl), by simpa using hl, e4 i _ (by rw [List.getElem?_map, hi]; rfl)⟩
theorem MM.glob (h : MM E X g s W tag) {i : Nat} (hi : i < s.w.globs.length) : ∃ gg n c, W.cell? ⟨X, 8, none⟩ = some (.slice (some ⟨gg, 0, none⟩) n c) ∧ i < n ∧ W.cell? ⟨gg, i * 3, none⟩ = some (.int .u8 (s.w.globs.getD i nothing).kind) ∧ W.cell? ⟨gg, i * 3 + 1, none⟩ = some (.int .i64 (vN (s.w.globs.getD i nothing))) ∧ W.cell? ⟨gg, i * 3 + 2, none⟩ = some (.string (vS (s.w.globs.getD i nothing))) := by
 obtain ⟨h6, lv, R, mp, x, hx, h⟩ := h
 have o := (h.S.rows 12 h.lG).1
 rw [h.rG] at o
 obtain ⟨gg, c, hv, -, -⟩ := own_some o (by show 0 < s.w.globs.length; omega)
 simp only at hv
 simp only at o
 rw [hv] at o
 have e := fun t (ht : t < 3) => rng_get (n := s.w.globs.length) (z := 3) (f := fun i => vC (s.w.globs.getD i nothing)) (fun _ _ => vC_len _) hi ht
 exact ⟨gg, _, c, h.xc (by rw [← hv]; rfl), hi, own_cell o ((e 0 (by decide)).trans rfl), own_cell o ((e 1 (by decide)).trans rfl), own_cell o ((e 2 (by decide)).trans rfl)⟩
theorem MM.loc (h : MM E X g s W tag) {i : Nat} (hi : i < 16) : W.cell? ⟨g.g, s.low.length * 51 + 2 + i * 3, none⟩ = some (.int .u8 (s.fr.locs.getD i nothing).kind) ∧ W.cell? ⟨g.g, s.low.length * 51 + 2 + i * 3 + 1, none⟩ = some (.int .i64 (vN (s.fr.locs.getD i nothing))) ∧ W.cell? ⟨g.g, s.low.length * 51 + 2 + i * 3 + 2, none⟩ = some (.string (vS (s.fr.locs.getD i nothing))) := by
 obtain ⟨h6, lv, R, mp, x, hx, h⟩ := h
 obtain ⟨⟨cap, r11, hv⟩, -⟩ := h.top
 have o := (h.S.rows 11 h.lF).1
 rw [r11] at o
 have e : ∀ t, t < 3 → (rng (s.low.length + 1) fun k => frC (x.F k) (fAt s k))[s.low.length * 51 + 2 + i * 3 + t]? = (vC (s.fr.locs.getD i nothing))[t]? := fun t ht => by
  have := rng_get (n := s.low.length + 1) (z := 51) (f := fun k => frC (x.F k) (fAt s k)) (fun _ _ => frC_len _ _) (j := s.low.length) (t := 2 + (i * 3 + t)) (by omega) (by omega)
  rw [show s.low.length * 51 + 2 + i * 3 + t = s.low.length * 51 + (2 + (i * 3 + t)) by omega, this, fAt_top]
  exact frC_loc _ _ hi ht
 exact ⟨own_cell o ((e 0 (by decide)).trans rfl), own_cell o ((e 1 (by decide)).trans rfl), own_cell o ((e 2 (by decide)).trans rfl)⟩
end
end Go.Proofs.YtmolfmgchbjnbaaGreatDoor
namespace Go.Proofs.YtmolfmgchbjnbaaGreatDoor
open Go.RowKit
open Wire Flow Mach
section
variable {E : Env} {X : Nat} {g : Pl} {s : Ms} {W W' : World} {tag : Nat → Nat}
set_option maxRecDepth 100000 in
set_option maxHeartbeats 4000000 in
theorem MM.vnum (h : MM E X g s W tag) (hl : s.fr.stk.length < 1024) (a : Nat) (ha : a ≤ 2000000000) (pl b q : Int) :
  Calls Tryz.prog 116 #[ptr X, fp g s, inV 0 pl (a : Nat) b q] W (MP E X g (onStk s (s.fr.stk ++ [cv (whole (signedN a))])) tag W unit) := by
 obtain ⟨W1, hW1, F1, ⟨b0, b1, b2, b3, b4⟩, l1⟩ := box5 W 0 pl (a : Nat) b q
 obtain ⟨t1, h1, k1, -⟩ := MM.box h F1
 have HM1 : Hid _ := And.intro h1 k1
 have HS : Hid _ := fun (W : World) => signed_any a ha W
 have HQ : Hid _ := fun (W1 : World) (t1 : Nat → Nat) (h1 : MM E X g s W1 t1) => MM.pushNumber h1 hl (signedN a)
 clear h h1 k1 F1 l1
 go_enter Tryz.func116, Tryz.ntmps116
 go_wp2_with fail
 refine (HS.out W1).mono ?_
 rintro e W2 ⟨rfl, hw2⟩
 replace hw2 := hw2.symm
 subst hw2
 go_wp2_with fail
 refine (HQ.out W1 t1 HM1.out.1).mono ?_
 rintro e W2 ⟨rfl, t2, h2, k2⟩
 have HM2 : Hid _ := And.intro h2 (HM1.out.2.trans k2)
 have HK2 : Hid _ := k2
 clear h2 k2
 go_wp2_with fail
 refine bodyPost_ret (results_none rfl _ _ _) rfl ?_
 exact ⟨rfl, t2, HM2.out.1, HM2.out.2⟩
set_option maxRecDepth 100000 in
set_option maxHeartbeats 4000000 in
theorem MM.vstr (h : MM E X g s W tag) (hl : s.fr.stk.length < 1024) {a : Nat} {t : ByteArray} (ha : E.mo.texts[a]? = some t) (pl b q : Int) :
  Calls Tryz.prog 116 #[ptr X, fp g s, inV 1 pl (a : Nat) b q] W (MP E X g (onStk s (s.fr.stk ++ [cv (words t)])) tag W unit) := by
 obtain ⟨W1, hW1, F1, ⟨b0, b1, b2, b3, b4⟩, l1⟩ := box5 W 1 pl (a : Nat) b q
 obtain ⟨t1, h1, k1, -⟩ := MM.box h F1
 have HM1 : Hid _ := And.intro h1 k1
 obtain ⟨gt, off, n, c, x0, hi, x1⟩ := h1.text ha
 have hi' : (a : Int) < n := by omega
 have HQ : Hid _ := fun (W1 : World) (t1 : Nat → Nat) (h1 : MM E X g s W1 t1) => MM.pushText h1 hl t
 clear h h1 k1 F1 l1
 go_enter Tryz.func116, Tryz.ntmps116
 go_wp2_with fail
 refine (HQ.out W1 t1 HM1.out.1).mono ?_
 rintro e W2 ⟨rfl, t2, h2, k2⟩
 have HM2 : Hid _ := And.intro h2 (HM1.out.2.trans k2)
 have HK2 : Hid _ := k2
 clear h2 k2
 go_wp2_with fail
 refine bodyPost_ret (results_none rfl _ _ _) rfl ?_
 exact ⟨rfl, t2, HM2.out.1, HM2.out.2⟩
set_option maxRecDepth 100000 in
set_option maxHeartbeats 4000000 in
theorem MM.vnil (h : MM E X g s W tag) (hl : s.fr.stk.length < 1024) (a : Int) (pl b q : Int) :
  Calls Tryz.prog 116 #[ptr X, fp g s, inV 2 pl a b q] W (MP E X g (onStk s (s.fr.stk ++ [cv nothing])) tag W unit) := by
 obtain ⟨W1, hW1, F1, ⟨b0, b1, b2, b3, b4⟩, l1⟩ := box5 W 2 pl a b q
 obtain ⟨t1, h1, k1, -⟩ := MM.box h F1
 have HM1 : Hid _ := And.intro h1 k1
 have hbd : ∀ w : World, (Instr.build 221 #[]).run Tryz.prog w = .ok (vlV 0 0 ⟨#[]⟩) w := fun w => by kernel_rfl
 have HQ : Hid _ := fun (W1 : World) (t1 : Nat → Nat) (h1 : MM E X g s W1 t1) => MM.push h1 hl nothing
 clear h h1 k1 F1 l1
 go_enter Tryz.func116, Tryz.ntmps116
 go_wp2_with fail
 refine (HQ.out W1 t1 HM1.out.1).mono ?_
 rintro e W2 ⟨rfl, t2, h2, k2⟩
 have HM2 : Hid _ := And.intro h2 (HM1.out.2.trans k2)
 have HK2 : Hid _ := k2
 clear h2 k2
 go_wp2_with fail
 refine bodyPost_ret (results_none rfl _ _ _) rfl ?_
 exact ⟨rfl, t2, HM2.out.1, HM2.out.2⟩
set_option maxRecDepth 100000 in
set_option maxHeartbeats 4000000 in
theorem MM.vload (h : MM E X g s W tag) (hl : s.fr.stk.length < 1024) {a : Nat} (ha : a < 16) (pl b q : Int) :
  Calls Tryz.prog 116 #[ptr X, fp g s, inV 3 pl (a : Nat) b q] W (MP E X g (onStk s (s.fr.stk ++ [cv (s.fr.locs.getD a nothing)])) tag W unit) := by
 obtain ⟨W1, hW1, F1, ⟨b0, b1, b2, b3, b4⟩, l1⟩ := box5 W 3 pl (a : Nat) b q
 obtain ⟨t1, h1, k1, -⟩ := MM.box h F1
 have HM1 : Hid _ := And.intro h1 k1
 obtain ⟨x0, x1, x2⟩ := h1.loc ha
 have hi' : (a : Int) < 16 := by omega
 have HQ : Hid _ := fun (W1 : World) (t1 : Nat → Nat) (h1 : MM E X g s W1 t1) => MM.push h1 hl (s.fr.locs.getD a nothing)
 unfold vV at HQ
 generalize ((s.fr.locs.getD a nothing).kind : Int) = kk at HQ x0
 generalize vN (s.fr.locs.getD a nothing) = mm at HQ x1
 generalize vS (s.fr.locs.getD a nothing) = tt at HQ x2
 clear h h1 k1 F1 l1
 go_enter Tryz.func116, Tryz.ntmps116
 go_wp2_with fail
 refine (HQ.out W1 t1 HM1.out.1).mono ?_
 rintro e W2 ⟨rfl, t2, h2, k2⟩
 have HM2 : Hid _ := And.intro h2 (HM1.out.2.trans k2)
 have HK2 : Hid _ := k2
 clear h2 k2
 go_wp2_with fail
 refine bodyPost_ret (results_none rfl _ _ _) rfl ?_
 exact ⟨rfl, t2, HM2.out.1, HM2.out.2⟩
set_option maxRecDepth 100000 in
set_option maxHeartbeats 4000000 in
theorem MM.vgload (h : MM E X g s W tag) (hl : s.fr.stk.length < 1024) {a : Nat} (ha : a < s.w.globs.length) (pl b q : Int) :
  Calls Tryz.prog 116 #[ptr X, fp g s, inV 5 pl (a : Nat) b q] W (MP E X g (onStk s (s.fr.stk ++ [cv (s.w.globs.getD a nothing)])) tag W unit) := by
 obtain ⟨W1, hW1, F1, ⟨b0, b1, b2, b3, b4⟩, l1⟩ := box5 W 5 pl (a : Nat) b q
 obtain ⟨t1, h1, k1, -⟩ := MM.box h F1
 have HM1 : Hid _ := And.intro h1 k1
 obtain ⟨gg, n, c, y0, hi, x0, x1, x2⟩ := h1.glob ha
 have hi' : (a : Int) < n := by omega
 have HQ : Hid _ := fun (W1 : World) (t1 : Nat → Nat) (h1 : MM E X g s W1 t1) => MM.push h1 hl (s.w.globs.getD a nothing)
 unfold vV at HQ
 generalize ((s.w.globs.getD a nothing).kind : Int) = kk at HQ x0
 generalize vN (s.w.globs.getD a nothing) = mm at HQ x1
 generalize vS (s.w.globs.getD a nothing) = tt at HQ x2
 clear h h1 k1 F1 l1
 go_enter Tryz.func116, Tryz.ntmps116
 go_wp2_with fail
 refine (HQ.out W1 t1 HM1.out.1).mono ?_
 rintro e W2 ⟨rfl, t2, h2, k2⟩
 have HM2 : Hid _ := And.intro h2 (HM1.out.2.trans k2)
 have HK2 : Hid _ := k2
 clear h2 k2
 go_wp2_with fail
 refine bodyPost_ret (results_none rfl _ _ _) rfl ?_
 exact ⟨rfl, t2, HM2.out.1, HM2.out.2⟩
end
end Go.Proofs.YtmolfmgchbjnbaaGreatDoor
namespace Go.Proofs.YtmolfmgchbjnbaaGreatDoor
open Go.RowKit
open Wire Flow Mach
def set3L (xs : List Value) (j : Nat) (a b c : Value) : List Value := ((xs.set j a).set (j + 1) b).set (j + 2) c
theorem set3L_app {xs ys : List Value} {j : Nat} (h : j + 3 ≤ xs.length) (a b c : Value) : set3L (xs ++ ys) j a b c = set3L xs j a b c ++ ys := by
 unfold set3L
 rw [List.set_append_left _ _ (by omega), List.set_append_left _ _ (by simp; omega), List.set_append_left _ _ (by simp; omega)]
theorem set3L_pre {xs ys : List Value} {j : Nat} (a b c : Value) : set3L (xs ++ ys) (xs.length + j) a b c = xs ++ set3L ys j a b c := by
 unfold set3L
 rw [List.set_append_right _ _ (by omega), Nat.add_sub_cancel_left, List.set_append_right _ _ (by omega), show xs.length + j + 1 - xs.length = j + 1 by omega, List.set_append_right _ _ (by omega), show xs.length + j + 2 - xs.length = j + 2 by omega]
theorem set3L_rng {n z : Nat} {f : Nat → List Value} (hf : ∀ j, j < n → (f j).length = z) {j t : Nat} (hj : j < n) (ht : t + 2 < z) (a b c : Value) : set3L (rng n f) (j * z + t) a b c = rng n (up f j (set3L (f j) t a b c)) := by
 have hup : ∀ (y : List Value), y.length = z → ∀ i, i < n → (up f j y i).length = z := fun y hy i hi => by
  by_cases e : i = j
  ·subst e; rw [up_same]; exact hy
  ·rw [up_off _ _ e]; exact hf i hi
 unfold set3L
 rw [rng_set hf hj (by omega), Nat.add_assoc (j * z) t 1, rng_set (hup _ (by rw [List.length_set]; exact hf j hj)) hj (by omega), up_same, up_up, Nat.add_assoc (j * z) t 2, rng_set (hup _ (by rw [List.length_set, List.length_set]; exact hf j hj)) hj (by omega), up_same, up_up]
theorem set3L_vC (u v : Val) : set3L (vC u) 0 (.int .u8 v.kind) (.int .i64 (vN v)) (.string (vS v)) = vC v := rfl
theorem vals_set {n : Nat} {l : List Val} {i : Nat} (hi : i < n) (hl : i < l.length) (v : Val) : set3L (rng n fun j => vC (l.getD j nothing)) (i * 3) (.int .u8 v.kind) (.int .i64 (vN v)) (.string (vS v)) = rng n fun j => vC ((l.set i v).getD j nothing) := by
 rw [show i * 3 = i * 3 + 0 by omega, set3L_rng (z := 3) (fun _ _ => vC_len _) hi (by omega), set3L_vC]
 refine rng_congr fun j hj => ?_
 by_cases e : j = i
 ·subst e
  rw [up_same, List.getD_eq_getElem?_getD, List.getElem?_set_self hl]
  rfl
 ·rw [up_off _ _ e, List.getD_eq_getElem?_getD, List.getD_eq_getElem?_getD, List.getElem?_set_ne (fun e' => e e'.symm)]
theorem frC_setLoc (x : FrX) (f : Frm) {i : Nat} (hi : i < 16) (hl : i < f.locs.length) (v : Val) : set3L (frC x f) (2 + i * 3) (.int .u8 v.kind) (.int .i64 (vN v)) (.string (vS v)) = frC x { f with locs := f.locs.set i v } := by
 unfold frC
 rw [List.append_assoc, show 2 + i * 3 = [x.cv, Value.int .i64 x.ix].length + i * 3 by rfl, set3L_pre, set3L_app (by rw [locC_len]; omega)]
 unfold locC
 rw [vals_set hi hl, List.append_assoc]
section
variable {E : Env} {X : Nat} {g : Pl} {s : Ms} {W W' : World} {tag : Nat → Nat} {lv : Nat → Bool} {R : Nat → Rw} {mp : Nat → Option (Nat × List (Value × Value))} {x : Mx}
def set3W (W : World) (b j : Nat) (u v w : Value) : World := ((W.setCell ⟨b, j, none⟩ u).setCell ⟨b, j + 1, none⟩ v).setCell ⟨b, j + 2, none⟩ w
theorem Sto.put3 (h : Sto W tag lv R mp) {i b n cap z : Nat} {e : TypeId} {xs : List Value} (hl : lv i = true) (hR : R i = ⟨.slice (some ⟨b, 0, none⟩) n cap, e, z, n, xs⟩) {j : Nat} (hj : j + 2 < n * z) (u v w : Value) :
  Sto (set3W W b j u v w) tag lv (up R i ⟨.slice (some ⟨b, 0, none⟩) n cap, e, z, n, set3L xs j u v w⟩) mp ∧ Kp tag tag W (set3W W b j u v w) := by
 obtain ⟨S1, K1⟩ := h.put hl hR (j := j) (by omega) u
 obtain ⟨S2, K2⟩ := S1.put hl (up_same _ _ _) (j := j + 1) (by omega) v
 obtain ⟨S3, K3⟩ := S2.put hl (up_same _ _ _) (j := j + 2) (by omega) w
 rw [up_up, up_up] at S3
 exact ⟨S3, (K1.trans K2).trans K3⟩
def onLoc (s : Ms) (l : List Val) : Ms := { s with fr := { s.fr with locs := l } }
theorem fAt_onLoc (s : Ms) (l : List Val) {k : Nat} (hk : k < s.low.length) : fAt (onLoc s l) k = fAt s k := by simp [fAt, onLoc, hk]
theorem fAt_onLoc_stk (s : Ms) (l : List Val) (k : Nat) : (fAt (onLoc s l) k).stk = (fAt s k).stk ∧ (fAt (onLoc s l) k).f = (fAt s k).f ∧ (fAt (onLoc s l) k).at_ = (fAt s k).at_ := by
 unfold fAt
 split
 ·rename_i h
  have h' : k < s.low.length := h
  rw [if_pos h']
  exact ⟨rfl, rfl, rfl⟩
 ·rename_i h
  have h' : ¬ k < s.low.length := h
  rw [if_neg h']
  exact ⟨rfl, rfl, rfl⟩
theorem MR.reloc (h : MR E X g.g s W tag lv R mp x) (hs : 6 ≤ W.heap.size) {l : List Val} {R' : Nat → Rw} {tag' : Nat → Nat} (k : Kp tag tag' W W') (hS : Sto W' tag' lv R' mp)
  (h11 : R' 11 = ⟨x.frv, 225, 51, s.low.length + 1, rng (s.low.length + 1) fun k => frC (x.F k) (fAt (onLoc s l) k)⟩) (hR : ∀ i, i ≠ 11 → R' i = R i) : MR E X g.g (onLoc s l) W' tag' lv R' mp x := by
 refine ⟨hS, h.sta.kp k hs, h.lX, ?_, h.lF, h11, h.vF, h.nF, h.lG, ?_, h.lA, ?_, h.nA, fun i hi => ?_, fun i hi => ?_, fun i j c hi hj hc => ?_, fun i hi => ?_, h.rcs.kp k, h.drw.kp k, h.fld.kp k⟩
 ·rw [hR 10 (by decide)]; exact h.rX
 ·rw [hR 12 (by decide)]; exact h.rG
 ·rw [hR 13 (by decide)]; exact h.rA
 ·obtain ⟨a, b, c⟩ := h.arr i hi
  exact ⟨a, b, by rw [hR _ (by omega)]; exact c⟩
 ·obtain ⟨a, b⟩ := h.stk i hi
  rw [(fAt_onLoc_stk s l i).1, hR _ (by omega)]
  exact ⟨a, b⟩
 ·rw [(fAt_onLoc_stk s l i).1] at hj
  obtain ⟨h1, h2, h3, ga, ca, lf, h4, h5, h6⟩ := h.wlk i j c hi hj hc
  exact ⟨h1, h2, h3, ga, ca, lf, h4, by rw [hR _ (by omega)]; exact h5, h6.kp k⟩
 ·obtain ⟨-, e1, e2⟩ := fAt_onLoc_stk s l i
  rw [e1, e2]
  exact h.fn i hi
theorem MM.setLoc (h : MM E X g s W tag) {i : Nat} (hi : i < 16) (hl : i < s.fr.locs.length) (v : Val) :
  (∀ t, W.frozen? ⟨g.g, t, none⟩ = false) ∧ MM E X g (onLoc s (s.fr.locs.set i v)) (set3W W g.g (s.low.length * 51 + 2 + i * 3) (.int .u8 v.kind) (.int .i64 (vN v)) (.string (vS v))) tag ∧ Kp tag tag W (set3W W g.g (s.low.length * 51 + 2 + i * 3) (.int .u8 v.kind) (.int .i64 (vN v)) (.string (vS v))) := by
 obtain ⟨h6, lv, R, mp, x, hx, h⟩ := h
 obtain ⟨⟨cap, r11, hv⟩, -⟩ := h.top
 have o := (h.S.rows 11 h.lF).1
 rw [r11] at o
 obtain ⟨S1, K1⟩ := h.S.put3 h.lF r11 (j := s.low.length * 51 + 2 + i * 3) (by omega) (.int .u8 v.kind) (.int .i64 (vN v)) (.string (vS v))
 refine ⟨fun t => own_thaw o t, ⟨Nat.le_trans h6 K1.size, lv, _, mp, x, hx, h.reloc h6 K1 S1 ?_ (fun i hi => up_off _ _ hi)⟩, K1⟩
 rw [up_same, hv, show s.low.length * 51 + 2 + i * 3 = s.low.length * 51 + (2 + i * 3) by omega, set3L_rng (fun _ _ => frC_len _ _) (by omega) (by omega)]
 congr 1
 refine rng_congr fun j hj => ?_
 by_cases e : j = s.low.length
 ·subst e
  rw [up_same, fAt_top, frC_setLoc _ _ hi hl, show fAt (onLoc s (s.fr.locs.set i v)) s.low.length = (onLoc s (s.fr.locs.set i v)).fr from fAt_top (onLoc s (s.fr.locs.set i v))]
  rfl
 ·rw [up_off _ _ e, fAt_onLoc _ _ (by omega)]
theorem MM.gvc (h : MM E X g s W tag) : W.cell? ⟨X, 8, none⟩ = some g.gv := by
 obtain ⟨h6, lv, R, mp, x, hx, h⟩ := h
 exact h.xc (by rw [← hx.1.1]; rfl)
theorem MM.avc (h : MM E X g s W tag) : W.cell? ⟨X, 9, none⟩ = some g.av := by
 obtain ⟨h6, lv, R, mp, x, hx, h⟩ := h
 exact h.xc (by rw [← hx.2]; rfl)
def onGlob (s : Ms) (l : List Val) : Ms := { s with w := { s.w with globs := l } }
theorem MM.setGlob (h : MM E X g s W tag) {i : Nat} (hi : i < s.w.globs.length) (v : Val) : ∃ gg n c, g.gv = .slice (some ⟨gg, 0, none⟩) n c ∧ i < n ∧ (∀ t, W.frozen? ⟨gg, t, none⟩ = false) ∧
  MM E X g (onGlob s (s.w.globs.set i v)) (set3W W gg (i * 3) (.int .u8 v.kind) (.int .i64 (vN v)) (.string (vS v))) tag ∧ Kp tag tag W (set3W W gg (i * 3) (.int .u8 v.kind) (.int .i64 (vN v)) (.string (vS v))) ∧
  ∃ a b c : Value, W.cell? ⟨gg, i * 3, none⟩ = some a ∧ W.cell? ⟨gg, i * 3 + 1, none⟩ = some b ∧ W.cell? ⟨gg, i * 3 + 2, none⟩ = some c := by
 obtain ⟨h6, lv, R, mp, x, hx, h⟩ := h
 have r12 := h.rG
 have o := (h.S.rows 12 h.lG).1
 rw [r12] at o
 obtain ⟨gg, c, hv, hc, -⟩ := own_some o (by show 0 < s.w.globs.length; omega)
 simp only at hv o
 rw [hv] at r12 o
 obtain ⟨S1, K1⟩ := h.S.put3 h.lG r12 (j := i * 3) (by omega) (.int .u8 v.kind) (.int .i64 (vN v)) (.string (vS v))
 have e := fun t (ht : t < 3) => rng_get (n := s.w.globs.length) (z := 3) (f := fun i => vC (s.w.globs.getD i nothing)) (fun _ _ => vC_len _) hi ht
 rw [vals_set hi hi] at S1
 have hR : ∀ q, q ≠ 12 → up R 12 ⟨.slice (some ⟨gg, 0, none⟩) s.w.globs.length c, 221, 3, s.w.globs.length, rng s.w.globs.length fun j => vC ((s.w.globs.set i v).getD j nothing)⟩ q = R q := fun q hq => up_off _ _ hq
 have M : MR E X g.g (onGlob s (s.w.globs.set i v)) (set3W W gg (i * 3) (.int .u8 v.kind) (.int .i64 (vN v)) (.string (vS v))) tag lv (up R 12 ⟨.slice (some ⟨gg, 0, none⟩) s.w.globs.length c, 221, 3, s.w.globs.length, rng s.w.globs.length fun j => vC ((s.w.globs.set i v).getD j nothing)⟩) mp x := by
  refine ⟨S1, h.sta.kp K1 h6, h.lX, ?_, h.lF, ?_, h.vF, h.nF, h.lG, ?_, h.lA, ?_, h.nA, fun q hq => ?_, fun q hq => ?_, fun q j c hq hj hc => ?_, h.fn, h.rcs.kp K1, h.drw.kp K1, h.fld.kp K1⟩
  ·rw [hR 10 (by decide)]; exact h.rX
  ·rw [hR 11 (by decide)]; exact h.rF
  ·rw [up_same, hv]
   show _ = Rw.mk _ 221 3 (s.w.globs.set i v).length (rng (s.w.globs.set i v).length _)
   rw [List.length_set]
   rfl
  ·rw [hR 13 (by decide)]; exact h.rA
  ·obtain ⟨a, b, c⟩ := h.arr q hq
   exact ⟨a, b, by rw [hR _ (by omega)]; exact c⟩
  ·obtain ⟨a, b⟩ := h.stk q hq
   rw [hR _ (by omega)]
   exact ⟨a, b⟩
  ·obtain ⟨h1, h2, h3, ga, ca, lf, h4, h5, h6⟩ := h.wlk q j c hq hj hc
   exact ⟨h1, h2, h3, ga, ca, lf, h4, by rw [hR _ (by omega)]; exact h5, h6.kp K1⟩
 exact ⟨gg, _, c, hx.1.1.symm.trans hv, hi, fun t => own_thaw o t, ⟨Nat.le_trans h6 K1.size, lv, _, mp, x, hx, M⟩, K1, _, _, _, own_cell o ((e 0 (by decide)).trans rfl), own_cell o ((e 1 (by decide)).trans rfl), own_cell o ((e 2 (by decide)).trans rfl)⟩
end
end Go.Proofs.YtmolfmgchbjnbaaGreatDoor
namespace Go.Proofs.YtmolfmgchbjnbaaGreatDoor
open Go.RowKit
open Wire Flow Mach
section
variable {E : Env} {X : Nat} {g : Pl} {s : Ms} {W W' : World} {tag : Nat → Nat}
set_option maxRecDepth 100000 in
set_option maxHeartbeats 4000000 in
theorem MM.vstore (h : MM E X g s W tag) {l : List Cell} {v : Val} (hs : s.fr.stk = l ++ [cv v]) (hl : s.fr.stk.length ≤ 1024) {a : Nat} (ha : a < 16) (hla : a < s.fr.locs.length) (pl b q : Int) :
  Calls Tryz.prog 116 #[ptr X, fp g s, inV 4 pl (a : Nat) b q] W (MP E X g (onLoc (onStk s l) (s.fr.locs.set a v)) tag W unit) := by
 have hm : Tryz.prog.follows Departure.mixedOrders = true := by kernel_rfl
 obtain ⟨W1, hW1, F1, ⟨b0, b1, b2, b3, b4⟩, l1⟩ := box5 W 4 pl (a : Nat) b q
 obtain ⟨t1, h1, k1, -⟩ := MM.box h F1
 have HM1 : Hid _ := And.intro h1 k1
 have HP : Hid _ := fun (W1 : World) (t1 : Nat → Nat) (h1 : MM E X g s W1 t1) => MM.popV h1 hs hl
 have HL : Hid _ := fun (W1 : World) (t1 : Nat → Nat) (h1 : MM E X g (onStk s l) W1 t1) => And.intro (MM.setLoc h1 ha (show a < s.fr.locs.length from hla) v) (MM.loc h1 ha)
 have hi' : (a : Int) < 16 := by omega
 generalize (v.kind : Int) = kk at HP HL
 generalize vN v = mm at HP HL
 generalize vS v = tt at HP HL
 clear h h1 k1 F1 l1
 go_enter Tryz.func116, Tryz.ntmps116
 go_wp2_with fail
 refine wp_region_heldD (fun _ => True) hm ?_
 obtain ⟨WD, hWD⟩ : ∃ WD, W1.drew = WD := ⟨_, rfl⟩
 rw [hWD]
 have F2 : Fr [] W1 WD := by rw [← hWD]; exact (Fr.refl [] W1).drew
 have hS : True := trivial
 obtain ⟨t2, h2, k2⟩ := MM.fr HM1.out.1 F2
 have HM2 : Hid _ := And.intro h2 (HM1.out.2.trans k2)
 have HK2 : Hid _ := k2
 clear h2 k2 F2
 refine wpAnyH_takes (fun _ _ _ _ _ h => h) hS [0, 1, 2, 4, 5] (by kernel_rfl) ?_
 iterate 5
  refine Yls.cons (v := ?_) rfl (.inl ⟨rfl, fun w1 hS1 => ?_⟩) ?_
  rotate_left
  ·go_simp
   first | rfl | (refine (if_neg (by omega)).trans ?_; rfl)
  simp only [Act.put, List.setIfInBounds_toArray, List.set_cons_zero, List.set_cons_succ, List.getElem_toArray, List.getElem_cons_succ, List.getElem_cons_zero]
 refine Yls.nil ?_
 refine wpAnyH_ready (rs := [3]) (by kernel_rfl) (by simp) ?_
 refine AllReadyH.cons rfl (fun K hK => ?_) AllReadyH.nil
 go_simp
 refine (HP.out WD t2 HM2.out.1).mono ?_
 rintro e W3 ⟨rfl, t3, h3, k3⟩
 have HM3 : Hid _ := And.intro h3 (HM2.out.2.trans k3)
 clear h3 k3
 refine hK _ _ trivial ?_
 clear hK K
 intro _
 try simp only [Act.put, List.setIfInBounds_toArray, List.set_cons_zero, List.set_cons_succ, List.getElem_toArray, List.getElem_cons_succ, List.getElem_cons_zero]
 refine wpAnyH_takes (fun _ _ _ _ _ h => h) hS [6] (by kernel_rfl) ?_
 iterate 1
  refine Yls.cons (v := ?_) rfl (.inl ⟨rfl, fun w1 hS1 => ?_⟩) ?_
  rotate_left
  ·go_simp
   first | rfl | (refine (if_neg (by omega)).trans ?_; rfl)
  simp only [Act.put, List.setIfInBounds_toArray, List.set_cons_zero, List.set_cons_succ, List.getElem_toArray, List.getElem_cons_succ, List.getElem_cons_zero]
 refine Yls.nil ?_
 obtain ⟨⟨hz, M4, K4⟩, x0', x1', x2'⟩ := HL.out W3 t3 HM3.out.1
 have x0 : W3.cell? ⟨g.g, s.low.length * 51 + 2 + a * 3, none⟩ = some _ := x0'
 have x1 : W3.cell? ⟨g.g, s.low.length * 51 + 2 + a * 3 + 1, none⟩ = some _ := x1'
 have x2 : W3.cell? ⟨g.g, s.low.length * 51 + 2 + a * 3 + 2, none⟩ = some _ := x2'
 clear x0' x1' x2'
 have z0 := hz (s.low.length * 51 + 2 + a * 3)
 have z1 := hz (s.low.length * 51 + 2 + a * 3 + 1)
 have z2 := hz (s.low.length * 51 + 2 + a * 3 + 2)
 obtain ⟨W4, hW4⟩ : ∃ W4, set3W W3 g.g (s.low.length * 51 + 2 + a * 3) (.int .u8 kk) (.int .i64 mm) (.string tt) = W4 := ⟨_, rfl⟩
 have M4' : MM E X g (onLoc (onStk s l) (s.fr.locs.set a v)) W4 t3 := by rw [← hW4]; exact M4
 have K4' : Kp t3 t3 W3 W4 := by rw [← hW4]; exact K4
 unfold set3W at hW4
 have HM4 : Hid _ := And.intro M4' (HM3.out.2.trans K4')
 clear M4 K4 M4' K4' hz HL
 refine wpAnyH_ready (rs := [7]) (by kernel_rfl) (by simp) ?_
 refine AllReadyH.cons rfl (fun K hK => ?_) AllReadyH.nil
 go_simp
 refine hK _ _ trivial ?_
 clear hK K
 intro _
 try simp only [Act.put, List.setIfInBounds_toArray, List.set_cons_zero, List.set_cons_succ, List.getElem_toArray, List.getElem_cons_succ, List.getElem_cons_zero]
 refine wpAnyH_done (by kernel_rfl) ?_ _
 go_wp2_with fail
 refine bodyPost_ret (results_none rfl _ _ _) rfl ?_
 exact ⟨rfl, t3, HM4.out.1, HM4.out.2⟩
set_option maxRecDepth 100000 in
set_option maxHeartbeats 4000000 in
theorem MM.vgstore (h : MM E X g s W tag) {l : List Cell} {v : Val} (hs : s.fr.stk = l ++ [cv v]) (hl : s.fr.stk.length ≤ 1024) {a : Nat} (ha : a < s.w.globs.length) (pl b q : Int) :
  Calls Tryz.prog 116 #[ptr X, fp g s, inV 6 pl (a : Nat) b q] W (MP E X g (onGlob (onStk s l) (s.w.globs.set a v)) tag W unit) := by
 have hm : Tryz.prog.follows Departure.mixedOrders = true := by kernel_rfl
 obtain ⟨W1, hW1, F1, ⟨b0, b1, b2, b3, b4⟩, l1⟩ := box5 W 6 pl (a : Nat) b q
 obtain ⟨t1, h1, k1, -⟩ := MM.box h F1
 have HM1 : Hid _ := And.intro h1 k1
 have HP : Hid _ := fun (W1 : World) (t1 : Nat → Nat) (h1 : MM E X g s W1 t1) => MM.popV h1 hs hl
 have HL : Hid _ := fun (W1 : World) (t1 : Nat → Nat) (h1 : MM E X g (onStk s l) W1 t1) => MM.setGlob h1 (show a < s.w.globs.length from ha) v
 have HG : Hid _ := fun (W1 : World) (t1 : Nat → Nat) (h1 : MM E X g s W1 t1) => MM.gvc h1
 have HG2 : Hid _ := fun (W1 : World) (t1 : Nat → Nat) (h1 : MM E X g (onStk s l) W1 t1) => MM.gvc h1
 obtain ⟨gg, gn, gc, hgv, hgn, -⟩ := MM.setGlob h1 ha v
 have HG3 : Hid _ := fun (W1 : World) (t1 : Nat → Nat) (h1 : MM E X g (onGlob (onStk s l) (s.w.globs.set a v)) W1 t1) => (MM.gvc h1).trans (congrArg some hgv)
 generalize (v.kind : Int) = kk at HP HL
 generalize vN v = mm at HP HL
 generalize vS v = tt at HP HL
 have hi' : (a : Int) < gn := by omega
 clear h h1 k1 F1 l1
 go_enter Tryz.func116, Tryz.ntmps116
 go_wp2_with fail
 have c8 := HG.out W1 t1 HM1.out.1
 rw [hgv] at c8
 refine wp_region_heldD (fun W => W.cell? ⟨X, 8, none⟩ = some (.slice (some ⟨gg, 0, none⟩) gn gc)) hm ?_
 obtain ⟨WD, hWD⟩ : ∃ WD, W1.drew = WD := ⟨_, rfl⟩
 rw [hWD]
 have F2 : Fr [] W1 WD := by rw [← hWD]; exact (Fr.refl [] W1).drew
 have hS : WD.cell? ⟨X, 8, none⟩ = some (.slice (some ⟨gg, 0, none⟩) gn gc) := by rw [← hWD]; exact c8
 obtain ⟨t2, h2, k2⟩ := MM.fr HM1.out.1 F2
 have HM2 : Hid _ := And.intro h2 (HM1.out.2.trans k2)
 have HK2 : Hid _ := k2
 clear h2 k2 F2
 refine wpAnyH_takes (fun _ _ _ _ _ h => h) hS [0, 1, 2, 3, 4, 5] (by kernel_rfl) ?_
 iterate 6
  refine Yls.cons (v := ?_) rfl (.inl ⟨rfl, fun w1 hS1 => ?_⟩) ?_
  rotate_left
  ·go_simp
   first | rfl | (refine (if_neg (by omega)).trans ?_; rfl)
  simp only [Act.put, List.setIfInBounds_toArray, List.set_cons_zero, List.set_cons_succ, List.getElem_toArray, List.getElem_cons_succ, List.getElem_cons_zero]
 refine Yls.nil ?_
 refine wpAnyH_ready (rs := [6]) (by kernel_rfl) (by simp) ?_
 refine AllReadyH.cons rfl (fun K hK => ?_) AllReadyH.nil
 go_simp
 refine (HP.out WD t2 HM2.out.1).mono ?_
 rintro e W3 ⟨rfl, t3, h3, k3⟩
 have HM3 : Hid _ := And.intro h3 (HM2.out.2.trans k3)
 clear h3 k3
 clear hS
 have hS := HG2.out W3 t3 HM3.out.1
 rw [hgv] at hS
 refine hK _ _ hS ?_
 clear hK K
 intro _
 try simp only [Act.put, List.setIfInBounds_toArray, List.set_cons_zero, List.set_cons_succ, List.getElem_toArray, List.getElem_cons_succ, List.getElem_cons_zero]
 refine wpAnyH_takes (fun _ _ _ _ _ h => h) hS [7] (by kernel_rfl) ?_
 iterate 1
  refine Yls.cons (v := ?_) rfl (.inl ⟨rfl, fun w1 hS1 => ?_⟩) ?_
  rotate_left
  ·go_simp
   first | rfl | (refine (if_neg (by omega)).trans ?_; rfl)
  simp only [Act.put, List.setIfInBounds_toArray, List.set_cons_zero, List.set_cons_succ, List.getElem_toArray, List.getElem_cons_succ, List.getElem_cons_zero]
 refine Yls.nil ?_
 obtain ⟨gg', gn', gc', hgv', -, hz, M4, K4, y0, y1, y2, x0, x1, x2⟩ := HL.out W3 t3 HM3.out.1
 rw [hgv] at hgv'
 obtain ⟨⟨rfl⟩, rfl, rfl⟩ := Value.slice.inj hgv'
 have z0 := hz (a * 3)
 have z1 := hz (a * 3 + 1)
 have z2 := hz (a * 3 + 2)
 obtain ⟨W4, hW4⟩ : ∃ W4, set3W W3 gg (a * 3) (.int .u8 kk) (.int .i64 mm) (.string tt) = W4 := ⟨_, rfl⟩
 have M4' : MM E X g (onGlob (onStk s l) (s.w.globs.set a v)) W4 t3 := by rw [← hW4]; exact M4
 have K4' : Kp t3 t3 W3 W4 := by rw [← hW4]; exact K4
 unfold set3W at hW4
 have HM4 : Hid _ := And.intro M4' (HM3.out.2.trans K4')
 clear M4 K4 M4' K4' hz HL
 refine wpAnyH_ready (rs := [8]) (by kernel_rfl) (by simp) ?_
 refine AllReadyH.cons rfl (fun K hK => ?_) AllReadyH.nil
 go_simp
 refine hK _ _ (HG3.out W4 t3 HM4.out.1) ?_
 clear hK K
 intro _
 try simp only [Act.put, List.setIfInBounds_toArray, List.set_cons_zero, List.set_cons_succ, List.getElem_toArray, List.getElem_cons_succ, List.getElem_cons_zero]
 refine wpAnyH_done (by kernel_rfl) ?_ _
 go_wp2_with fail
 refine bodyPost_ret (results_none rfl _ _ _) rfl ?_
 exact ⟨rfl, t3, HM4.out.1, HM4.out.2⟩
end
end Go.Proofs.YtmolfmgchbjnbaaGreatDoor
