import Derived.Test.YtmolfmgchbjnbaaGreatDoorM21
set_option linter.unusedSimpArgs false
set_option linter.unusedVariables false
namespace Go.Proofs.YtmolfmgchbjnbaaGreatDoor
open Go.RowKit
open Wire Flow Mach
theorem digL_len (n : Int) (k : Nat) (l : List UInt8) : (digL n k l).2.2.length ≤ l.length := by
 induction l generalizing n k with
 | nil => exact Nat.le_refl _
 | cons c l ih =>
  unfold digL
  split
  ·have := ih (more n c) (k + 1); simp; omega
  ·exact Nat.le_refl _
theorem skipL_len (l : List UInt8) : (skipL l).length ≤ l.length := by
 induction l with
 | nil => exact Nat.le_refl _
 | cons c l ih =>
  unfold skipL
  split
  ·simp; omega
  ·exact Nat.le_refl _
theorem readL_len (l : List UInt8) : (readL l).2.2.length ≤ l.length := by
 have h1 := digL_len 0 0 (signL (skipL l)).2
 have h2 : (signL (skipL l)).2.length ≤ (skipL l).length := by
  cases skipL l with
  | nil => exact Nat.le_refl _
  | cons c l =>
   by_cases h1 : c = 43
   ·simp [signL, h1]
   ·by_cases h2 : c = 45 <;> simp [signL, h1, h2]
 have h3 := skipL_len l
 unfold readL
 dsimp only
 omega
theorem mk_isEmpty (l : List UInt8) : (⟨l.toArray⟩ : ByteArray).toList.isEmpty = l.isEmpty := by rw [ByteArray.toList_eq]
theorem looks_eq (s : ByteArray) : looks s = (decide (0 < (readL (bl s)).2.1) && (readL (bl s)).2.2.all blankB && decide ((readL (bl s)).1 = clampN (readL (bl s)).1)) := by
 have h := readL_bounds (bl s)
 have hc : decide ((readL (bl s)).1 = clampN (readL (bl s)).1) = (decide (-1000000000 ≤ (readL (bl s)).1) && decide ((readL (bl s)).1 ≤ 1000000000)) := by
  unfold clampN
  by_cases h1 : (readL (bl s)).1 > 1000000000
  ·rw [if_pos h1, decide_eq_false (by omega), decide_eq_false (p := _ ≤ (1000000000 : Int)) (by omega), Bool.and_false]
  ·rw [if_neg h1]
   by_cases h2 : (readL (bl s)).1 < -1000000000
   ·rw [if_pos h2, decide_eq_false (by omega), decide_eq_false (p := (-1000000000 : Int) ≤ _) (by omega), Bool.false_and]
   ·rw [if_neg h2, decide_eq_true rfl, decide_eq_true (p := (-1000000000 : Int) ≤ _) (by omega), decide_eq_true (p := _ ≤ (1000000000 : Int)) (by omega)]; rfl
 rw [hc]
 unfold looks
 cases (readL (bl s)).2.2.all blankB <;> cases decide (0 < (readL (bl s)).2.1) <;> simp
set_option maxRecDepth 100000 in
set_option maxHeartbeats 4000000 in
theorem read_v (s : ByteArray) (hs : s.size ≤ 1048576) (W : World) : Calls Tryz.prog 276 #[.string s] W fun e W' => e = .returned (vV (readV s)) ∧ Fr [] W W' := by
  have hL := looks_eq s
  have hB := readL_bounds (bl s)
  have HS : Hid _ := fun (W : World) => scan_any s hs W
  have HT : Hid _ := fun (x : ByteArray) (hx : x.size ≤ 9223372036854775807) (W : World) => Any.strings_Trim_laid Tryz.lays160 (by kernel_rfl) x ⟨#[32, 9, 10]⟩ W hx (by decide) (ascii_of_all (by decide))
  have HC : Hid _ := fun (n : Int) (W : World) => clamp_any n W
  have HX : Hid _ := fun (x : ByteArray) (W : World) => textV_any x W
  have hl : (readL (bl s)).2.2.length ≤ 1048576 := by have := readL_len (bl s); rw [bl_length] at this; omega
  obtain ⟨n, hn⟩ : ∃ n, (readL (bl s)).1 = n := ⟨_, rfl⟩
  obtain ⟨r, hr⟩ : ∃ r, (readL (bl s)).2.2 = r := ⟨_, rfl⟩
  obtain ⟨f, hf⟩ : ∃ f, decide (0 < (readL (bl s)).2.1) = f := ⟨_, rfl⟩
  unfold ScanP at HS
  rw [hn, hr, hf] at HS
  rw [hn, hr, hf] at hL
  rw [hr] at hl
  rw [hn] at hB
  have hV : Hid (vV (readV s) = if looks s = true then vlV 3 n s else vlV 2 0 s) := by
    show vV (readV s) = _
    unfold readV
    by_cases h : looks s = true
    · rw [if_pos h, if_pos h]
      have h2 : n = clampN n := by
        rw [hL] at h
        simp only [Bool.and_eq_true, decide_eq_true_eq] at h
        exact h.2
      unfold vV vN vS numT
      rw [hn, ← h2]
      rfl
    · rw [if_neg h, if_neg h]; rfl
  have HL : Hid _ := hL
  have hre : (⟨r.toArray⟩ : ByteArray).data.toList = r := by simp
  have hrs : (⟨r.toArray⟩ : ByteArray).size ≤ 9223372036854775807 := by rw [← bl_length]; show (⟨r.toArray⟩ : ByteArray).data.toList.length ≤ _; rw [hre]; omega
  have hTr : Hid ((⟨(Lib.trimS (⟨r.toArray⟩ : ByteArray).data.toList ((⟨#[32, 9, 10]⟩ : ByteArray).data.toList)).toArray⟩ : ByteArray).toList.isEmpty = r.all blankB) := by
    show _ = _
    rw [mk_isEmpty, hre]; exact trim_all r
  obtain ⟨W1, hW1⟩ : ∃ W1, W.alloc (.cells #[.int .u8 0, .int .i64 0, .string ⟨#[]⟩] 221) = W1 := ⟨_, rfl⟩
  have F1 : Fr [] W W1 := by rw [← hW1]; exact (Fr.refl [] W).alloc _
  have k1 := World.alloc_heap_new W (.cells #[.int .u8 0, .int .i64 0, .string ⟨#[]⟩] 221)
  rw [hW1] at k1
  have l1 := (Array.getElem?_eq_some_iff.1 k1).1
  clear hn hr hf hL hre
  go_enter Tryz.func276, Tryz.ntmps276
  go_wp2_with fail
  refine (HS.out _).mono ?_
  rintro e W2 ⟨rfl, F2⟩
  cases f
  · have hno : Hid (¬ looks s = true) := by show ¬ looks s = true; rw [HL.out]; simp
    clear HS HT HC HL hTr hrs
    go_wp2_with fail
    refine (HX.out _ _).mono ?_
    rintro e W9 ⟨rfl, F9⟩
    have F8 := F2.trans F9
    obtain ⟨hy, z0, z1, z2⟩ := cells3 ((F8.block _ l1 (by simp)).trans k1)
    obtain ⟨W7, hW7, r0, r1, r2, F7⟩ := set3 (x' := .int .u8 2) (y' := .int .i64 0) (z' := .string s) hy
    obtain ⟨y0, y1, y2⟩ := hy
    have FF : Hid _ := (F1.trans F8).trans' F7 (by simp)
    clear F7 F8 F9 k1 l1 F1 hW1 F2
    go_wp2_with fail
    refine bodyPost_ret (v := vlV 2 0 s) (by simp [results, Tryz.results276, go_sem, r0, r1, r2]) rfl ?_
    exact ⟨by rw [hV.out, if_neg (hno.out)], FF.out⟩
  · go_wp2_with fail
    refine (HT.out _ hrs _).mono ?_
    rintro e W3 ⟨rfl, hB3⟩
    have F3 := F2.trans (Fr.of_below hB3)
    clear hB3 F2 HT HS hrs
    by_cases hb : r.all blankB = true
    · have t1 : Lib.trimS r [32, 9, 10] = [] := List.isEmpty_iff.1 (by rw [← mk_isEmpty]; exact hTr.out.trans hb)
      by_cases hc : n = clampN n
      · have g : (n != clampN n) = false := by simpa using hc
        have hyes : Hid (looks s = true) := by show looks s = true; rw [HL.out, hb, decide_eq_true hc]; rfl
        have HF3 : Hid _ := F3
        obtain ⟨hy, z0, z1, z2⟩ := cells3 ((F3.block _ l1 (by simp)).trans k1)
        obtain ⟨W7, hW7, r0, r1, r2, F7⟩ := set3 (x' := .int .u8 3) (y' := .int .i64 n) (z' := .string s) hy
        obtain ⟨y0, y1, y2⟩ := hy
        have FF : Hid _ := (F1.trans F3).trans' F7 (by simp)
        have HCC : Hid _ := hc
        clear F7 F3 k1 l1 F1 hW1 HL hTr hb hc HX
        go_wp2_with (refine (HC.out _ _).mono ?_; rintro e w' ⟨rfl, rfl⟩)
        refine bodyPost_ret (v := vlV 3 n s) (by simp [results, Tryz.results276, go_sem, r0, r1, r2]) rfl ?_
        exact ⟨by rw [hV.out, if_pos hyes.out], FF.out⟩
      · have g : (n != clampN n) = true := by simpa using hc
        have hno : Hid (¬ looks s = true) := by show ¬ looks s = true; rw [HL.out, decide_eq_false hc]; simp
        clear HL hTr hb hc
        go_wp2_with fail
        refine (HC.out _ _).mono ?_
        rintro e w' ⟨rfl, rfl⟩
        go_wp2_with fail
        refine (HX.out _ _).mono ?_
        rintro e W9 ⟨rfl, F9⟩
        have F8 := F3.trans F9
        obtain ⟨hy, z0, z1, z2⟩ := cells3 ((F8.block _ l1 (by simp)).trans k1)
        obtain ⟨W7, hW7, r0, r1, r2, F7⟩ := set3 (x' := .int .u8 2) (y' := .int .i64 0) (z' := .string s) hy
        obtain ⟨y0, y1, y2⟩ := hy
        have FF : Hid _ := (F1.trans F8).trans' F7 (by simp)
        clear F7 F8 F9 k1 l1 F1 hW1 F3
        go_wp2_with fail
        refine bodyPost_ret (v := vlV 2 0 s) (by simp [results, Tryz.results276, go_sem, r0, r1, r2]) rfl ?_
        exact ⟨by rw [hV.out, if_neg (hno.out)], FF.out⟩
    · have hb' : r.all blankB = false := by simpa using hb
      have t1 : ¬ Lib.trimS r [32, 9, 10] = [] := fun h => by have := hTr.out.trans hb'; rw [mk_isEmpty] at this; rw [h] at this; cases this
      have hno : Hid (¬ looks s = true) := by show ¬ looks s = true; rw [HL.out, hb']; simp
      clear HL hTr hb hb' HC
      go_wp2_with fail
      refine (HX.out _ _).mono ?_
      rintro e W9 ⟨rfl, F9⟩
      have F8 := F3.trans F9
      obtain ⟨hy, z0, z1, z2⟩ := cells3 ((F8.block _ l1 (by simp)).trans k1)
      obtain ⟨W7, hW7, r0, r1, r2, F7⟩ := set3 (x' := .int .u8 2) (y' := .int .i64 0) (z' := .string s) hy
      obtain ⟨y0, y1, y2⟩ := hy
      have FF : Hid _ := (F1.trans F8).trans' F7 (by simp)
      clear F7 F8 F9 k1 l1 F1 hW1 F3
      go_wp2_with fail
      refine bodyPost_ret (v := vlV 2 0 s) (by simp [results, Tryz.results276, go_sem, r0, r1, r2]) rfl ?_
      exact ⟨by rw [hV.out, if_neg (hno.out)], FF.out⟩
end Go.Proofs.YtmolfmgchbjnbaaGreatDoor
namespace Go.Proofs.YtmolfmgchbjnbaaGreatDoor
open Go.RowKit
open Wire Flow Mach
def rng (n : Nat) (f : Nat → List Value) : List Value := (List.range n).flatMap f
theorem rng_zero (f : Nat → List Value) : rng 0 f = [] := rfl
theorem rng_succ (n : Nat) (f : Nat → List Value) : rng (n + 1) f = rng n f ++ f n := by
 unfold rng
 rw [List.range_succ, List.flatMap_append]
 simp
theorem rng_len {n z : Nat} {f : Nat → List Value} (hf : ∀ j, j < n → (f j).length = z) : (rng n f).length = n * z := by
 induction n with
 | zero => simp [rng]
 | succ n ih => rw [rng_succ, List.length_append, ih (fun j hj => hf j (by omega)), hf n (by omega), Nat.succ_mul]
theorem rng_congr {n : Nat} {f g : Nat → List Value} (h : ∀ j, j < n → f j = g j) : rng n f = rng n g := by
 induction n with
 | zero => rfl
 | succ n ih => rw [rng_succ, rng_succ, ih (fun j hj => h j (by omega)), h n (by omega)]
theorem rng_get {n z : Nat} {f : Nat → List Value} (hf : ∀ j, j < n → (f j).length = z) {j t : Nat} (hj : j < n) (ht : t < z) : (rng n f)[j * z + t]? = (f j)[t]? := by
  induction n with
  | zero => omega
  | succ n ih =>
    have hl := rng_len (n := n) (fun j hj => hf j (by omega))
    rw [rng_succ]
    by_cases e : j < n
    · have : j * z + t < n * z := by
        have : (j + 1) * z ≤ n * z := Nat.mul_le_mul_right z e
        rw [Nat.succ_mul] at this
        omega
      rw [List.getElem?_append_left (by omega)]
      exact ih (fun j hj => hf j (by omega)) e
    · obtain rfl : j = n := by omega
      rw [List.getElem?_append_right (by omega), hl]
      congr 1
      omega
theorem rng_take {n m z : Nat} {f : Nat → List Value} (hf : ∀ j, j < n → (f j).length = z) (hm : m ≤ n) : (rng n f).take (m * z) = rng m f := by
  induction n with
  | zero => obtain rfl : m = 0 := by omega
            simp [rng]
  | succ n ih =>
    have hl := rng_len (n := n) (fun j hj => hf j (by omega))
    by_cases e : m = n + 1
    · subst e
      rw [List.take_of_length_le]
      rw [rng_len hf]
      exact Nat.le_refl _
    · rw [rng_succ, List.take_append_of_le_length (by rw [hl]; exact Nat.mul_le_mul_right z (by omega))]
      exact ih (fun j hj => hf j (by omega)) (by omega)
theorem rng_set {n z : Nat} {f : Nat → List Value} (hf : ∀ j, j < n → (f j).length = z) {j t : Nat} (hj : j < n) (ht : t < z) (u : Value) : (rng n f).set (j * z + t) u = rng n (up f j ((f j).set t u)) := by
  induction n with
  | zero => omega
  | succ n ih =>
    have hl := rng_len (n := n) (fun j hj => hf j (by omega))
    rw [rng_succ, rng_succ]
    by_cases e : j < n
    · have : j * z + t < n * z := by
        have : (j + 1) * z ≤ n * z := Nat.mul_le_mul_right z e
        rw [Nat.succ_mul] at this
        omega
      rw [List.set_append_left _ _ (by omega), ih (fun j hj => hf j (by omega)) e, up_off _ _ (by omega)]
    · obtain rfl : j = n := by omega
      rw [List.set_append_right _ _ (by omega), hl, up_same]
      rw [rng_congr (g := f) (fun i hi => up_off _ _ (by omega))]
      congr 2
      omega
def vC (v : Val) : List Value := [.int .u8 v.kind, .int .i64 (vN v), .string (vS v)]
theorem vC_len (v : Val) : (vC v).length = 3 := rfl
abbrev ptr (b : Nat) : Value := .pointer (some ⟨b, 0, none⟩)
def RoL (W : World) (tag : Nat → Nat) (v : Value) (xs : List Value) : Prop :=
 ∃ o c, v = .slice o xs.length c ∧ xs.length ≤ c ∧ c ≤ 9223372036854775807 ∧ (0 < xs.length → ∃ g off, o = some ⟨g, off, none⟩ ∧ g < W.heap.size ∧ tag g = 9 ∧ ∀ (i : Nat) (x : Value), xs[i]? = some x → W.cell? ⟨g, off + i, none⟩ = some x)
theorem RoL.kp {W W' : World} {tag tag' : Nat → Nat} {v : Value} {xs : List Value} (h : RoL W tag v xs) (k : Kp tag tag' W W') : RoL W' tag' v xs := by
 obtain ⟨o, c, h1, h2, h2', h3⟩ := h
 refine ⟨o, c, h1, h2, h2', fun h0 => ?_⟩
 obtain ⟨g, off, e1, e2, e3, e4⟩ := h3 h0
 exact ⟨g, off, e1, Nat.lt_of_lt_of_le e2 k.size, (k.ret g e2).trans e3, fun i x hx => (k.cell (p := ⟨g, off + i, none⟩) e2 (by show tag g < 10; omega)).trans (e4 i x hx)⟩
def celC (p : Value) (c : Cell) : List Value := if c.list = true then [.int .u8 0, .int .i64 0, .string ⟨#[]⟩, p] else [.int .u8 c.v.kind, .int .i64 (vN c.v), .string (vS c.v), .pointer none]
theorem celC_len (p : Value) (c : Cell) : (celC p c).length = 4 := by unfold celC; split <;> rfl
def stkC (pw : Nat → Nat) (l : List Cell) : List Value := rng l.length fun j => celC (ptr (pw j)) (l.getD j c0)
theorem stkC_len (pw : Nat → Nat) (l : List Cell) : (stkC pw l).length = l.length * 4 := rng_len fun _ _ => celC_len _ _
theorem stkC_push (pw : Nat → Nat) (l : List Cell) (c : Cell) : stkC pw (l ++ [c]) = stkC pw l ++ celC (ptr (pw l.length)) c := by
 unfold stkC
 rw [List.length_append, List.length_singleton, rng_succ]
 congr 1
 ·refine rng_congr fun j hj => ?_
  rw [List.getD_eq_getElem?_getD, List.getD_eq_getElem?_getD, List.getElem?_append_left hj]
 ·rw [List.getD_eq_getElem?_getD, List.getElem?_append_right (Nat.le_refl _)]
  simp
theorem stkC_pop (pw : Nat → Nat) (l : List Cell) (c : Cell) : (stkC pw (l ++ [c])).take (l.length * 4) = stkC pw l := by
 rw [stkC_push, List.take_append_of_le_length (by rw [stkC_len]; exact Nat.le_refl _), List.take_of_length_le (by rw [stkC_len]; exact Nat.le_refl _)]
theorem stkC_last (pw : Nat → Nat) (l : List Cell) (c : Cell) (t : Nat) (ht : t < 4) : (stkC pw (l ++ [c]))[l.length * 4 + t]? = (celC (ptr (pw l.length)) c)[t]? := by
 rw [stkC_push, List.getElem?_append_right (by rw [stkC_len]; omega), stkC_len]
 congr 1
 omega
theorem stkC_pw {pw pw' : Nat → Nat} {l : List Cell} (h : ∀ j, j < l.length → pw' j = pw j) : stkC pw' l = stkC pw l := rng_congr fun j hj => by rw [h j hj]
def locC (l : List Val) : List Value := rng 16 fun i => vC (l.getD i nothing)
theorem locC_len (l : List Val) : (locC l).length = 48 := rng_len fun _ _ => vC_len _
structure FrX where
 cv : Value
 ix : Nat
 sv : Value
 pw : Nat → Nat
def fr0 : Frm := ⟨0, 0, [], []⟩
def frC (x : FrX) (f : Frm) : List Value := [x.cv, .int .i64 x.ix] ++ locC f.locs ++ [x.sv]
theorem frC_len (x : FrX) (f : Frm) : (frC x f).length = 51 := by simp [frC, locC_len]
theorem frC_stk (x : FrX) (f : Frm) : (frC x f)[50]? = some x.sv := by
 unfold frC
 rw [List.getElem?_append_right (by simp [locC_len])]
 simp [locC_len]
theorem frC_loc (x : FrX) (f : Frm) {i t : Nat} (hi : i < 16) (ht : t < 3) : (frC x f)[2 + (i * 3 + t)]? = (vC (f.locs.getD i nothing))[t]? := by
 unfold frC
 rw [List.getElem?_append_left (by simp [locC_len]; omega), List.getElem?_append_right (by simp)]
 simp only [List.length_cons, List.length_nil, Nat.zero_add, Nat.add_sub_cancel_left]
 exact rng_get (fun _ _ => vC_len _) hi ht
end Go.Proofs.YtmolfmgchbjnbaaGreatDoor
namespace Go.Proofs.YtmolfmgchbjnbaaGreatDoor
open Go.RowKit
open Wire Flow Mach
theorem set4 {w : World} {b : Nat} {x y z u x' y' z' u' : Value} (h : w.cell? ⟨b, 0, none⟩ = some x ∧ w.cell? ⟨b, 1, none⟩ = some y ∧ w.cell? ⟨b, 2, none⟩ = some z ∧ w.cell? ⟨b, 3, none⟩ = some u) : ∃ w', (((w.setCell ⟨b, 0, none⟩ x').setCell ⟨b, 1, none⟩ y').setCell ⟨b, 2, none⟩ z').setCell ⟨b, 3, none⟩ u' = w' ∧ w'.cell? ⟨b, 0, none⟩ = some x' ∧ w'.cell? ⟨b, 1, none⟩ = some y' ∧ w'.cell? ⟨b, 2, none⟩ = some z' ∧ w'.cell? ⟨b, 3, none⟩ = some u' ∧ Fr [b] w w' := by
 obtain ⟨h0, h1, h2, h3⟩ := h
 refine ⟨_, rfl, ?_, ?_, ?_, ?_, ((((Fr.refl [b] w).setCell (.inl (by simp)) _).setCell (.inl (by simp)) _).setCell (.inl (by simp)) _).setCell (.inl (by simp)) _⟩
 ·rw [setCell_off (by decide), setCell_off (by decide), setCell_off (by decide)]; exact cell_setA h0
 ·rw [setCell_off (by decide), setCell_off (by decide)]; exact cell_setA (by rw [setCell_off (by decide)]; exact h1)
 ·rw [setCell_off (by decide)]; exact cell_setA (by rw [setCell_off (by decide), setCell_off (by decide)]; exact h2)
 ·exact cell_setA (by rw [setCell_off (by decide), setCell_off (by decide), setCell_off (by decide)]; exact h3)
theorem cells4 {w : World} {b : Nat} {x y z u : Value} {t : TypeId} (h : w.heap[b]? = some (.cells #[x, y, z, u] t)) : (w.cell? ⟨b, 0, none⟩ = some x ∧ w.cell? ⟨b, 1, none⟩ = some y ∧ w.cell? ⟨b, 2, none⟩ = some z ∧ w.cell? ⟨b, 3, none⟩ = some u) ∧ w.frozen? ⟨b, 0, none⟩ = false ∧ w.frozen? ⟨b, 1, none⟩ = false ∧ w.frozen? ⟨b, 2, none⟩ = false ∧ w.frozen? ⟨b, 3, none⟩ = false := by
 refine ⟨⟨?_, ?_, ?_, ?_⟩, ?_, ?_, ?_, ?_⟩ <;> first | (unfold World.cell?; rw [h]; rfl) | (unfold World.frozen?; rw [h]; simp)
set_option maxRecDepth 100000 in
set_option maxHeartbeats 4000000 in
theorem top_any (g o gs n cs : Nat) (a b : Int) (s : ByteArray) (p : Option Addr) (W : World) (hs : W.cell? ⟨g, o + 50, none⟩ = some (.slice (some ⟨gs, 0, none⟩) (n + 1) cs)) (hn : n < 4000)
  (h0 : W.cell? ⟨gs, n * 4, none⟩ = some (.int .u8 a)) (h1 : W.cell? ⟨gs, n * 4 + 1, none⟩ = some (.int .i64 b)) (h2 : W.cell? ⟨gs, n * 4 + 2, none⟩ = some (.string s)) (h3 : W.cell? ⟨gs, n * 4 + 3, none⟩ = some (.pointer p)) :
  Calls Tryz.prog 201 #[.pointer (some ⟨g, o, none⟩)] W fun e W' => e = .returned (.agg #[.int .u8 a, .int .i64 b, .string s, .pointer p]) ∧ Fr [] W W' := by
 have hm : Tryz.prog.follows Departure.mixedOrders = true := by kernel_rfl
 obtain ⟨W1, hW1⟩ : ∃ W1, W.alloc (.cells #[.int .u8 0, .int .i64 0, .string ⟨#[]⟩, .pointer none] 306) = W1 := ⟨_, rfl⟩
 have F1 : Fr [] W W1 := by rw [← hW1]; exact (Fr.refl [] W).alloc _
 have k1 := World.alloc_heap_new W (.cells #[.int .u8 0, .int .i64 0, .string ⟨#[]⟩, .pointer none] 306)
 rw [hW1] at k1
 have q0 := (F1.cell (p := ⟨g, o + 50, none⟩) (lt_of_cell hs) (by simp)).trans hs
 have r0 := (F1.cell (p := ⟨gs, n * 4, none⟩) (lt_of_cell h0) (by simp)).trans h0
 have r1 := (F1.cell (p := ⟨gs, n * 4 + 1, none⟩) (lt_of_cell h1) (by simp)).trans h1
 have r2 := (F1.cell (p := ⟨gs, n * 4 + 2, none⟩) (lt_of_cell h2) (by simp)).trans h2
 have r3 := (F1.cell (p := ⟨gs, n * 4 + 3, none⟩) (lt_of_cell h3) (by simp)).trans h3
 obtain ⟨hy, z0, z1, z2, z3⟩ := cells4 k1
 obtain ⟨W2, hW2, u0, u1, u2, u3, F2⟩ := set4 (x' := .int .u8 a) (y' := .int .i64 b) (z' := .string s) (u' := .pointer p) hy
 obtain ⟨y0, y1, y2, y3⟩ := hy
 clear hs h0 h1 h2 h3
 have HF : Hid _ := (F1.trans' F2 (by simp)).drew
 clear F2
 clear F1 k1
 have hw64 : IntKind.i64.wrap (n : Int) = n := by rw [IntKind.wrap_i64]; omega
 have hlt : (n : Int) < (n : Int) + 1 := by omega
 go_enter Tryz.func201, Tryz.ntmps201
 go_wp2_with fail
 refine wp_region_tail 12 hm (by kernel_rfl) ?_
 simp only [List.take_succ_cons, List.take_zero, List.drop_succ_cons, List.drop_zero]
 repeat still_step
 refine wpStill_nil ?_
 go_wp2_with fail
 refine bodyPost_ret (v := .agg #[.int .u8 a, .int .i64 b, .string s, .pointer p]) (by simp [results, Tryz.results201, go_sem, u0, u1, u2, u3]) rfl ?_
 exact ⟨rfl, HF.out⟩
theorem field_cell (a b : Int) (s : ByteArray) (p : Option Addr) (w : World) : (Instr.field 306 (.agg #[.int .u8 a, .int .i64 b, .string s, .pointer p]) 0).run Tryz.prog w = .ok (vlV a b s) w := by
 kernel_rfl
theorem setCell_congr {W V : World} {g o : Nat} {v : Value} (h : V.heap[g]? = W.heap[g]?) : (V.setCell ⟨g, o, none⟩ v).heap[g]? = (W.setCell ⟨g, o, none⟩ v).heap[g]? := by
 unfold World.setCell
 simp only [Array.getElem?_modify, h]
def Set1 (W : World) (g o : Nat) (v : Value) (W' : World) : Prop := Fr [] (W.setCell ⟨g, o, none⟩ v) W'
theorem Set1.of {W V W' : World} {g o : Nat} {v : Value} {S : List Nat} (h : Fr [] W V) (h' : Fr S (V.setCell ⟨g, o, none⟩ v) W') (hg : g < W.heap.size) (hS : ∀ x ∈ S, W.heap.size ≤ x) : Set1 W g o v W' := by
 have hs : (W.setCell ⟨g, o, none⟩ v).heap.size = W.heap.size := by simp [World.setCell]
 have hs' : (V.setCell ⟨g, o, none⟩ v).heap.size = V.heap.size := by simp [World.setCell]
 have h1 := h.size
 refine ⟨h'.os.trans h.os, h'.tape.trans h.tape, h'.output.trans h.output, by have := h'.size; omega, fun k hk _ => ?_⟩
 refine (h'.block k (by omega) (fun hx => by have := hS k hx; omega)).trans ?_
 by_cases e : k = g
 ·subst e
  exact setCell_congr (h.block k (by omega) (by simp))
 ·rw [Below.heap_setCell _ _ _ _ (by simpa using e), Below.heap_setCell _ _ _ _ (by simpa using e)]
  exact h.block k (by omega) (by simp)
def PopP (g o gs n cs : Nat) (a b : Int) (s : ByteArray) (W : World) (e : Ending) (W' : World) : Prop :=
 e = .returned (vlV a b s) ∧ Set1 W g (o + 50) (.slice (some ⟨gs, 0, none⟩) n cs) W'
set_option maxRecDepth 100000 in
set_option maxHeartbeats 4000000 in
theorem popA_any (g o gs n cs : Nat) (a b : Int) (s : ByteArray) (p : Option Addr) (W : World) (hs : W.cell? ⟨g, o + 50, none⟩ = some (.slice (some ⟨gs, 0, none⟩) (n + 1) cs)) (hz : W.frozen? ⟨g, o + 50, none⟩ = false) (hn : n < 4000) (hc : n + 1 ≤ cs)
  (h0 : W.cell? ⟨gs, n * 4, none⟩ = some (.int .u8 a)) (h1 : W.cell? ⟨gs, n * 4 + 1, none⟩ = some (.int .i64 b)) (h2 : W.cell? ⟨gs, n * 4 + 2, none⟩ = some (.string s)) (h3 : W.cell? ⟨gs, n * 4 + 3, none⟩ = some (.pointer p)) :
  Calls Tryz.prog 196 #[.pointer (some ⟨g, o, none⟩)] W (PopP g o gs n cs a b s W) := by
 have hm : Tryz.prog.follows Departure.mixedOrders = true := by kernel_rfl
 obtain ⟨W1, hW1⟩ : ∃ W1, W.alloc (.cells #[.int .u8 0, .int .i64 0, .string ⟨#[]⟩] 221) = W1 := ⟨_, rfl⟩
 have F1 : Fr [] W W1 := by rw [← hW1]; exact (Fr.refl [] W).alloc _
 have k1 := World.alloc_heap_new W (.cells #[.int .u8 0, .int .i64 0, .string ⟨#[]⟩] 221)
 rw [hW1] at k1
 have l1 := (Array.getElem?_eq_some_iff.1 k1).1
 have HT : Hid _ := fun (_ : Unit) => top_any g o gs n cs a b s p W1 ((F1.cell (p := ⟨g, o + 50, none⟩) (lt_of_cell hs) (by simp)).trans hs) hn ((F1.cell (p := ⟨gs, n * 4, none⟩) (lt_of_cell h0) (by simp)).trans h0) ((F1.cell (p := ⟨gs, n * 4 + 1, none⟩) (lt_of_cell h1) (by simp)).trans h1) ((F1.cell (p := ⟨gs, n * 4 + 2, none⟩) (lt_of_cell h2) (by simp)).trans h2) ((F1.cell (p := ⟨gs, n * 4 + 3, none⟩) (lt_of_cell h3) (by simp)).trans h3)
 clear h0 h1 h2 h3
 have hw64 : IntKind.i64.wrap (n : Int) = n := by rw [IntKind.wrap_i64]; omega
 have hfd := field_cell a b s p
 have hcs : (n : Int) ≤ cs := by omega
 have hn0 : (0 : Int) ≤ n := by omega
 go_enter Tryz.func196, Tryz.ntmps196
 go_wp2_with fail
 refine (HT.out ()).mono ?_
 rintro e W2 ⟨rfl, F2⟩
 clear HT
 obtain ⟨W3, hW3, F3, x0, x1, x2, l3⟩ := box_cells W2 a b s
 have F13 := F2.trans F3
 have F03 := F1.trans F13
 have q0 := (F03.cell (p := ⟨g, o + 50, none⟩) (lt_of_cell hs) (by simp)).trans hs
 have q1 := (F03.frozen (p := ⟨g, o + 50, none⟩) (lt_of_cell hs) (by simp)).trans hz
 have k3 := (F13.block _ l1 (by simp)).trans k1
 have hgl := lt_of_cell hs
 simp only at hgl
 have hs2 := F1.size
 have hs3 := F2.size
 obtain ⟨W4, hW4⟩ : ∃ W4, W3.setCell ⟨g, o + 50, none⟩ (.slice (some ⟨gs, 0, none⟩) n cs) = W4 := ⟨_, rfl⟩
 have F4 : Fr [g] W3 W4 := by rw [← hW4]; exact (Fr.refl [g] W3).setCell (.inl (by simp)) _
 have y0 := (F4.cell (p := ⟨W2.heap.size, 0, none⟩) l3 (by simp; omega)).trans x0
 have y1 := (F4.cell (p := ⟨W2.heap.size, 1, none⟩) l3 (by simp; omega)).trans x1
 have y2 := (F4.cell (p := ⟨W2.heap.size, 2, none⟩) l3 (by simp; omega)).trans x2
 obtain ⟨hc4, z0, z1, z2⟩ := cells3 ((F4.block W.heap.size (by have := F13.size; omega) (by simp; omega)).trans k3)
 obtain ⟨W5, hW5, u0, u1, u2, F5⟩ := set3 (x' := .int .u8 a) (y' := .int .i64 b) (z' := .string s) hc4
 obtain ⟨c0, c1, c2⟩ := hc4
 have HR : Hid (Set1 W g (o + 50) (.slice (some ⟨gs, 0, none⟩) n cs) W5.drew) := by
  refine Set1.of F03 (S := [W.heap.size]) ?_ hgl (by simp)
  rw [hW4]
  exact F5.drew
 clear F4 F5 k3 k1 x0 x1 x2 F13 F03 F1 F2 F3 hW1 l1 l3 hs hz hgl
 go_wp2_with fail
 refine wp_region_tail 14 hm (by kernel_rfl) ?_
 simp only [List.take_succ_cons, List.take_zero, List.drop_succ_cons, List.drop_zero]
 repeat still_step
 refine wpStill_nil ?_
 go_wp2_with fail
 refine bodyPost_ret (v := vlV a b s) (by simp [results, Tryz.results196, go_sem, u0, u1, u2]) rfl ?_
 exact ⟨rfl, HR.out⟩
end Go.Proofs.YtmolfmgchbjnbaaGreatDoor
namespace Go.Proofs.YtmolfmgchbjnbaaGreatDoor
open Go.RowKit
open Wire Flow Mach
theorem infoC : (Tryz.prog.info? 306).map (fun i => (i.zero, i.size, i.bytes)) = some (some (.agg #[.int .u8 0, .int .i64 0, .string ⟨#[]⟩, .pointer none]), 4, 40) := by kernel_rfl
theorem cells_new (w : World) (vs : Array Value) (t : TypeId) : ∀ j u, vs.toList[j]? = some u → (w.alloc (.cells vs t)).cell? ((⟨w.heap.size, 0, none⟩ : Addr).add j) = some u := by
 intro j u hj
 rw [add_plainA]
 unfold World.cell?
 rw [World.alloc_heap_new w (.cells vs t)]
 simpa using hj
theorem oper_appendB {o : Oper} {a : Act} {w w' : World} {K : Act → World → Prop} {Q : Exit → Act → World → Prop} (s x : Operand) (t : TypeId) (ho : o.op = .call { callee := .builtin .append, args := #[s, x], argTypes := #[t, t] }) (v u r : Value) (hs : a.eval s = v) (hx : a.eval x = u)
  (hr : (Builtin.append_ #[t, t] o.type #[v, u]).run Tryz.prog w = .ok r w') (h : K (a.put o.dst r) w') : o.wp Tryz.prog a w K Q := by
 unfold Oper.wp execOp
 simp only [ho, resolve, invoke, builtin, Sem.run_bind, Sem.run_pure, Result.andThen_ok, List.map_toArray, List.map_cons, List.map_nil, hs, hx, hr]
 exact h
theorem wpList_appendB {ops : Array Oper} {rest : List Oper} {o : Oper} {a : Act} {w w' : World} {Q : Exit → Act → World → Prop} (hgd : o.guard = none) (s x : Operand) (t : TypeId) (ho : o.op = .call { callee := .builtin .append, args := #[s, x], argTypes := #[t, t] }) (v u r : Value) (hs : a.eval s = v) (hx : a.eval x = u)
  (hr : (Builtin.append_ #[t, t] o.type #[v, u]).run Tryz.prog w = .ok r w') (h : wpList Tryz.prog ops Q rest (a.put o.dst r) w') : wpList Tryz.prog ops Q (o :: rest) a w := by
 refine wpList_plain hgd fun K hK => ?_
 exact oper_appendB s x t ho v u r hs hx hr (hK _ _ h)
theorem build_cell (a b : Int) (s : ByteArray) (w : World) : (Instr.build 306 #[(0, vlV a b s)]).run Tryz.prog w = .ok (.agg #[.int .u8 a, .int .i64 b, .string s, .pointer none]) w := by
 kernel_rfl
theorem buildS_cell (a b : Int) (s : ByteArray) (p : Option Addr) (w : World) : (Instr.buildSlice 223 1 #[(0, .agg #[.int .u8 a, .int .i64 b, .string s, .pointer p])]).run Tryz.prog w = .ok (.slice (some ⟨w.heap.size, 0, none⟩) 1 1) (w.alloc (.cells #[.int .u8 a, .int .i64 b, .string s, .pointer p] 306)) := by
 kernel_rfl
section
variable {W : World} {tag : Nat → Nat} {lv : Nat → Bool} {R : Nat → Rw} {mp : Nat → Option (Nat × List (Value × Value))}
def PshP (W : World) (tag : Nat → Nat) (lv : Nat → Bool) (R : Nat → Rw) (mp : Nat → Option (Nat × List (Value × Value))) (m g n cap j h : Nat) (xs ys news : List Value) (e : Ending) (W' : World) : Prop :=
 e = .returned (.tuple #[]) ∧ ∃ tag' sv', Sto W' tag' lv (up (up R m ⟨sv', 306, 4, h + 1, ys ++ news⟩) 11 ⟨.slice (some ⟨g, 0, none⟩) n cap, 225, 51, n, xs.set j sv'⟩) mp ∧ Kp tag tag' W W'
set_option maxRecDepth 100000 in
set_option maxHeartbeats 4000000 in
theorem pushA_any (hS : Sto W tag lv R mp) {m k g n cap h : Nat} {xs ys : List Value} {sv : Value} (l11 : lv 11 = true) (r11 : R 11 = ⟨.slice (some ⟨g, 0, none⟩) n cap, 225, 51, n, xs⟩) (hk : k < n) (hm11 : m ≠ 11) (lm : lv m = true) (rm : R m = ⟨sv, 306, 4, h, ys⟩) (hx : xs[k * 51 + 50]? = some sv) (hh : h < 2000) (a b : Int) (s : ByteArray) :
  Calls Tryz.prog 195 #[.pointer (some ⟨g, k * 51, none⟩), vlV a b s] W (PshP W tag lv R mp m g n cap (k * 51 + 50) h xs ys [.int .u8 a, .int .i64 b, .string s, .pointer none]) := by
 have hm : Tryz.prog.follows Departure.mixedOrders = true := by kernel_rfl
 obtain ⟨i0, hi, hz0, hz1, hz2⟩ := info_parts infoC
 have o11 : W.ownsRow 0 225 51 (.slice (some ⟨g, 0, none⟩) n cap) n xs := by have := (hS.rows 11 l11).1; rw [r11] at this; exact this
 have om : W.ownsRow 0 306 4 sv h ys := by have := (hS.rows m lm).1; rw [rm] at this; exact this
 obtain ⟨so, sc, rfl⟩ := own_form om
 have hgl : g < W.heap.size := (o11.lt g rfl).2
 obtain ⟨W1, hW1, F1, x0, x1, x2, l1⟩ := box_cells W a b s
 have q0 : W1.cell? ⟨g, k * 51 + 50, none⟩ = some (.slice so h sc) := (F1.cell (p := ⟨g, k * 51 + 50, none⟩) hgl (by simp)).trans (own_cell o11 hx)
 obtain ⟨WD, hWD⟩ : ∃ WD, W1.drew = WD := ⟨_, rfl⟩
 have FD : Fr [] W1 WD := by rw [← hWD]; exact (Fr.refl [] W1).drew
 have q0' : WD.cell? ⟨g, k * 51 + 50, none⟩ = some (.slice so h sc) := by rw [← hWD]; exact q0
 have x0' : WD.cell? ⟨W.heap.size, 0, none⟩ = some (.int .u8 a) := by rw [← hWD]; exact x0
 have x1' : WD.cell? ⟨W.heap.size, 1, none⟩ = some (.int .i64 b) := by rw [← hWD]; exact x1
 have x2' : WD.cell? ⟨W.heap.size, 2, none⟩ = some (.string s) := by rw [← hWD]; exact x2
 obtain ⟨W3, hW3⟩ : ∃ W3, WD.alloc (.cells #[.int .u8 a, .int .i64 b, .string s, .pointer none] 306) = W3 := ⟨_, rfl⟩
 have F3 : Fr [] WD W3 := by rw [← hW3]; exact (Fr.refl [] WD).alloc _
 have F03 : Fr [] W W3 := (F1.trans FD).trans F3
 have hnews := cells_new WD #[.int .u8 a, .int .i64 b, .string s, .pointer none] 306
 rw [hW3] at hnews
 have S3 := hS.frm F03 6
 have om3 : W3.ownsRow 0 306 4 (.slice so h sc) h ys := by have := (S3.rows m lm).1; rw [rm] at this; exact this
 obtain ⟨v', W4, hr4, hown', hgrow, -, hwh⟩ := run_append_own_at (P := Tryz.prog) (w := W3) 0 223 223 306 i0 _ 4 40 Tryz.underlying223 hi hz0 hz1 hz2 rfl (by decide) _ _ _ om3 ⟨WD.heap.size, 0, none⟩ 1 1 [.int .u8 a, .int .i64 b, .string s, .pointer none] rfl hnews (by intro u hu; simp at hu; rcases hu with rfl | rfl | rfl | rfl <;> rfl) (by unfold maxLen; omega) (by omega) (Nat.zero_le _)
 obtain ⟨vo, vc, rfl⟩ := own_form hown'
 obtain ⟨S4, K4⟩ := S3.grow (i := m) lm hown' (by rw [rm]; exact hgrow) (by rw [rm]; exact hwh)
 have r11' : up R m ⟨.slice vo (h + 1) vc, 306, 4, h + 1, ys ++ [.int .u8 a, .int .i64 b, .string s, .pointer none]⟩ 11 = ⟨.slice (some ⟨g, 0, none⟩) n cap, 225, 51, n, xs⟩ := by rw [up_off _ _ (by omega)]; exact r11
 have hj : k * 51 + 50 < n * 51 := by omega
 obtain ⟨S5, K5⟩ := S4.put l11 r11' hj (.slice vo (h + 1) vc)
 have o4 : W4.ownsRow 0 225 51 (.slice (some ⟨g, 0, none⟩) n cap) n xs := by have := (S4.rows 11 l11).1; rw [r11'] at this; exact this
 have c4 := own_cell o4 hx
 have z4 := own_thaw o4 (k * 51 + 50)
 have K : Kp tag _ W _ := ((Kp.of_fr F03 (fun k hk => newTag_old hk)).trans K4).trans K5
 have HZ : Hid _ := And.intro S5 K
 have Hr4 : Hid _ := hr4
 have H3 : Hid _ := F3
 have HQ : Hid _ := fun (w : World) (hw : Fr [] WD w) => And.intro ((hw.cell (p := ⟨g, k * 51 + 50, none⟩) (lt_of_cell q0') (by simp)).trans q0') (And.intro ((hw.cell (p := ⟨W.heap.size, 0, none⟩) (lt_of_cell x0') (by simp)).trans x0') (And.intro ((hw.cell (p := ⟨W.heap.size, 1, none⟩) (lt_of_cell x1') (by simp)).trans x1') ((hw.cell (p := ⟨W.heap.size, 2, none⟩) (lt_of_cell x2') (by simp)).trans x2')))
 clear S5 K K5 K4 S4 S3 hown' hgrow hwh hr4 hnews om3 om o4 o11 hS r11 r11' rm lm l11 F1 F3 F03 FD hi hz0 hz1 hz2
 have hbd := build_cell a b s
 have hbs := buildS_cell a b s none
 go_enter Tryz.func195, Tryz.ntmps195
 go_wp2_with fail
 refine wp_region_L (fun w => Fr [] WD w) 8 hm ?_
 rw [hWD]
 have hS : Fr [] WD WD := Fr.refl _ _
 refine wpAnyL_takesU (fuel := 8) [0, 1, 2, 3] (by kernel_rfl) (fun _ _ _ _ _ h => h) (.inr hS) ?_
 iterate 4
  refine Yls.cons (v := ?_) rfl (.inl ⟨rfl, fun w1 hS1 => ?_⟩) ?_
  rotate_left
  ·go_simp
   first | rfl | (refine (if_neg (by omega)).trans ?_; rfl)
  simp only [Act.put, List.setIfInBounds_toArray, List.set_cons_zero, List.set_cons_succ, List.getElem_toArray, List.getElem_cons_succ, List.getElem_cons_zero]
 refine Yls.nil ?_
 refine wpAnyL_takes (fuel := 5) [4, 5, 6] (by kernel_rfl) (fun _ _ _ _ _ h => h) hS ?_
 iterate 3
  refine Yls.cons (v := ?_) rfl (.inl ⟨rfl, fun w1 hS1 => ?_⟩) ?_
  rotate_left
  ·obtain ⟨s0, s1, s2, s3⟩ := HQ.out _ hS1
   go_simp
   first | rfl | (refine (if_neg (by omega)).trans ?_; rfl)
  simp only [Act.put, List.setIfInBounds_toArray, List.set_cons_zero, List.set_cons_succ, List.getElem_toArray, List.getElem_cons_succ, List.getElem_cons_zero]
 refine Yls.nil ?_
 refine wpAnyL_ready (rs := [7]) (by kernel_rfl) (by simp) ?_
 refine AllReadyL.cons rfl (fun K hK => ?_) AllReadyL.nil
 go_simp
 refine hK _ _ (.inr H3.out) ?_
 clear hK K
 try simp only [Act.put, List.setIfInBounds_toArray, List.set_cons_zero, List.set_cons_succ, List.getElem_toArray, List.getElem_cons_succ, List.getElem_cons_zero]
 refine wpAnyL_ready (rs := [8]) (by kernel_rfl) (by simp) ?_
 refine AllReadyL.cons rfl (fun K hK => ?_) AllReadyL.nil
 refine oper_appendB (.tmp 8) (.tmp 11) 223 rfl _ _ _ rfl rfl Hr4.out ?_
 refine hK _ _ (.inl rfl) ?_
 clear hK K
 try simp only [Act.put, List.setIfInBounds_toArray, List.set_cons_zero, List.set_cons_succ, List.getElem_toArray, List.getElem_cons_succ, List.getElem_cons_zero]
 refine wpAnyL_takesU (fuel := 1) [9, 10] (by kernel_rfl) (fun _ _ _ _ _ h => h) (.inl rfl) ?_
 iterate 2
  refine Yls.cons (v := ?_) rfl (.inl ⟨rfl, fun w1 hS1 => ?_⟩) ?_
  rotate_left
  ·go_simp
   first | rfl | (refine (if_neg (by omega)).trans ?_; rfl)
  simp only [Act.put, List.setIfInBounds_toArray, List.set_cons_zero, List.set_cons_succ, List.getElem_toArray, List.getElem_cons_succ, List.getElem_cons_zero]
 refine Yls.nil ?_
 refine wpAnyL_ready (rs := [11]) (by kernel_rfl) (by simp) ?_
 refine AllReadyL.cons rfl (fun K hK => ?_) AllReadyL.nil
 go_simp
 refine hK _ _ (.inl rfl) ?_
 clear hK K
 try simp only [Act.put, List.setIfInBounds_toArray, List.set_cons_zero, List.set_cons_succ, List.getElem_toArray, List.getElem_cons_succ, List.getElem_cons_zero]
 refine wpAnyL_done (by kernel_rfl) ?_ _
 refine NoPanic.normal ?_
 go_wp2
 refine bodyPost_ret (results_none rfl _ _ _) rfl ?_
 exact ⟨rfl, _, _, HZ.out.1, HZ.out.2⟩
end
end Go.Proofs.YtmolfmgchbjnbaaGreatDoor
