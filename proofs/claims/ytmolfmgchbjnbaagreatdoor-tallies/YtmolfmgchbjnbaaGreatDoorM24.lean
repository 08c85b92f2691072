import Derived.Test.YtmolfmgchbjnbaaGreatDoorM23
set_option linter.unusedSimpArgs false
set_option linter.unusedVariables false
namespace Go.Proofs.YtmolfmgchbjnbaaGreatDoor
open Go.RowKit
open Wire Flow Mach
def beyB (n : Int) : Bool := decide (n < -1000000000) || decide (n > 1000000000)
set_option maxRecDepth 100000 in
theorem beyond_any (n : Int) (W : World) : Calls Tryz.prog 212 #[.int .i64 n] W fun e W' => e = .returned (.bool (beyB n)) ∧ W' = W := by
  by_cases h : n < -1000000000
  · have : beyB n = true := by simp [beyB, h]
    rw [this]
    go_enter Tryz.func212, Tryz.ntmps212
    go_wp2_with fail
    go_ret
    exact ⟨rfl, rfl⟩
  · by_cases h2 : n > 1000000000
    · have : beyB n = true := by simp [beyB, h2]
      rw [this]
      go_enter Tryz.func212, Tryz.ntmps212
      go_wp2_with fail
      go_ret
      exact ⟨rfl, rfl⟩
    · have : beyB n = false := by simp [beyB]; omega
      rw [this]
      go_enter Tryz.func212, Tryz.ntmps212
      go_wp2_with fail
      go_ret
      exact ⟨rfl, rfl⟩
def rawN (op : Nat) (a b : Int) : Int := if op = 18 then a + b else if op = 19 then a - b else if op = 20 then a * b else if op = 21 then a.tdiv b else a.tmod b
theorem mul_bound {a b : Int} (h1 : -1000000000 ≤ a) (h2 : a ≤ 1000000000) (h3 : -1000000000 ≤ b) (h4 : b ≤ 1000000000) : -1000000000000000000 ≤ a * b ∧ a * b ≤ 1000000000000000000 := by
 constructor
 ·rcases Int.le_total 0 a with ha | ha <;> rcases Int.le_total 0 b with hb | hb
  ·have := Int.mul_nonneg ha hb; omega
  ·have h5 : a * (-b) ≤ 1000000000 * 1000000000 := Int.mul_le_mul h2 (by omega) (by omega) (by decide)
   have e : a * (-b) = -(a * b) := by rw [Int.mul_neg]
   omega
  ·have h5 : (-a) * b ≤ 1000000000 * 1000000000 := Int.mul_le_mul (by omega) h4 hb (by decide)
   have e : (-a) * b = -(a * b) := by rw [Int.neg_mul]
   omega
  ·have h5 : 0 ≤ (-a) * (-b) := Int.mul_nonneg (by omega) (by omega)
   rw [Int.neg_mul_neg] at h5
   omega
 ·rcases Int.le_total 0 a with ha | ha <;> rcases Int.le_total 0 b with hb | hb
  ·exact Int.le_trans (Int.mul_le_mul h2 h4 hb (by decide)) (by decide)
  ·have h5 : 0 ≤ a * (-b) := Int.mul_nonneg ha (by omega)
   have e : a * (-b) = -(a * b) := by rw [Int.mul_neg]
   omega
  ·have h5 : 0 ≤ (-a) * b := Int.mul_nonneg (by omega) hb
   have e : (-a) * b = -(a * b) := by rw [Int.neg_mul]
   omega
  ·have h5 : (-a) * (-b) ≤ 1000000000 * 1000000000 := Int.mul_le_mul (by omega) (by omega) (by omega) (by decide)
   rw [Int.neg_mul_neg] at h5
   omega
theorem raw_sum {E : Env} (hE : EnvOk E) {op : Nat} (hop : op = 18 ∨ op = 19 ∨ op = 20 ∨ op = 21 ∨ op = 22) {a b : Int} (h1 : -1000000000 ≤ a) (h2 : a ≤ 1000000000) (h3 : -1000000000 ≤ b) (h4 : b ≤ 1000000000) :
    (-1000000000000000000 ≤ rawN op a b ∧ rawN op a b ≤ 1000000000000000000) ∧ (¬ ((op = 21 ∨ op = 22) ∧ b = 0) → sumOp E op a b = if beyB (rawN op a b) = true then (0, 4) else (rawN op a b, 0)) := by
  have hm := mul_bound h1 h2 h3 h4
  have hq : -1000000000 ≤ a.tdiv b ∧ a.tdiv b ≤ 1000000000 := by
    by_cases hb : b = 0
    · subst hb; simp
    · exact tdiv_sm h1 h2 hb
  have hr : a.tmod b = a - b * a.tdiv b := by have := Int.tmod_add_mul_tdiv a b; omega
  have hmr : -1000000000000000000 ≤ b * a.tdiv b ∧ b * a.tdiv b ≤ 1000000000000000000 := mul_bound h3 h4 hq.1 hq.2
  have hr2 : -1000000000 ≤ a.tmod b ∧ a.tmod b ≤ 1000000000 := by
    by_cases hb : b = 0
    · subst hb; simp; omega
    · have h5 : (a.tmod b).natAbs < b.natAbs := by rw [Int.natAbs_tmod]; exact Nat.mod_lt _ (by omega)
      omega
  refine ⟨by unfold rawN; split <;> (try split) <;> (try split) <;> (try split) <;> omega, fun hn => ?_⟩
  have hb : (op = 21 ∧ b = 0 ∨ op = 22 ∧ b = 0) ↔ False := ⟨fun h => hn (by omega), False.elim⟩
  have key : ∀ r : Int, (if r > 1000000000 ∨ r < -1000000000 then ((0 : Int), 4) else (r, 0)) = if beyB r = true then ((0 : Int), 4) else (r, 0) := fun r => by
    by_cases h : r > 1000000000 ∨ r < -1000000000
    · rw [if_pos h, if_pos (by simp [beyB]; omega)]
    · rw [if_neg h, if_neg (by simp [beyB]; omega)]
  unfold sumOp
  rw [if_neg (by rw [hb]; exact id)]
  dsimp only
  rw [← key]
  have e : (if op = 18 then E.wr (a + b) else if op = 19 then E.wr (a - b) else if op = 20 then E.wr (a * b) else if op = 21 then E.wr (a.tdiv b) else E.wr (a - E.wr (E.wr (a.tdiv b) * b))) = rawN op a b := by
    unfold rawN
    rcases hop with rfl | rfl | rfl | rfl | rfl
    · simp only [if_true]; exact hE.wr _ (by omega) (by omega)
    · simp; exact hE.wr _ (by omega) (by omega)
    · simp; exact hE.wr _ (by omega) (by omega)
    · simp; exact hE.wr _ (by omega) (by omega)
    · simp only [show ¬ (22 = 18) by decide, show ¬ (22 = 19) by decide, show ¬ (22 = 20) by decide, show ¬ (22 = 21) by decide, if_false]
      have ec : a.tdiv b * b = b * a.tdiv b := Int.mul_comm _ _
      rw [hE.wr (a.tdiv b) (by omega) (by omega), hE.wr (a.tdiv b * b) (by omega) (by omega), hE.wr _ (by omega) (by omega)]
      omega
  rw [e]
end Go.Proofs.YtmolfmgchbjnbaaGreatDoor
namespace Go.Proofs.YtmolfmgchbjnbaaGreatDoor
open Go.RowKit
open Wire Flow Mach
section
variable {E : Env} {X : Nat} {g : Pl} {s : Ms} {W W' : World} {tag : Nat → Nat}
theorem MM.pop2 (h : MM E X g s W tag) {l : List Cell} {u v : Val} (hs : s.fr.stk = l ++ [cv u, cv v]) (hl : s.fr.stk.length ≤ 1024) : s.fr.stk = (l ++ [cv u]) ++ [cv v] ∧ (onStk s (l ++ [cv u])).fr.stk = l ++ [cv u] ∧ (onStk s (l ++ [cv u])).fr.stk.length ≤ 1024 ∧ l.length < 1024 := by
 have e : s.fr.stk = (l ++ [cv u]) ++ [cv v] := by rw [hs]; simp
 refine ⟨e, rfl, ?_, ?_⟩
 ·show (l ++ [cv u]).length ≤ 1024
  rw [e] at hl; simp at hl ⊢; omega
 ·rw [e] at hl; simp at hl; omega
set_option maxRecDepth 100000 in
set_option maxHeartbeats 4000000 in
theorem MM.numbers (hE : EnvOk E) (h : MM E X g s W tag) {op : Nat} (hop : op = 18 ∨ op = 19 ∨ op = 20 ∨ op = 21 ∨ op = 22) {l : List Cell} {u v : Val} (hs : s.fr.stk = l ++ [cv u, cv v]) (hl : s.fr.stk.length ≤ 1024) (hu : SmV u) (hv : SmV v) :
  Calls Tryz.prog 120 #[fp g s, .int .u8 (op : Nat)] W (MP E X g (onStk s (l ++ if (sumOp E op (numV u) (numV v)).2 = 0 then [cv (whole (sumOp E op (numV u) (numV v)).1)] else [])) tag W (.int .i64 ((sumOp E op (numV u) (numV v)).2 : Nat))) := by
 obtain ⟨e1, e2, hl2, hl3⟩ := h.pop2 hs hl
 have HP1 : Hid _ := fun (_ : Unit) => h.popNumber e1 hl hv
 have HP2 : Hid _ := fun (W1 : World) (t1 : Nat → Nat) (h1 : MM E X g (onStk s (l ++ [cv u])) W1 t1) => MM.popNumber h1 e2 hl2 hu
 have HN : Hid _ := fun (W1 : World) (t1 : Nat → Nat) (h1 : MM E X g (onStk s l) W1 t1) (n : Int) => MM.pushNumber h1 (show l.length < 1024 from hl3) n
 have HB : Hid _ := fun (n : Int) (W : World) => beyond_any n W
 have bu := numV_sm hu
 have bv := numV_sm hv
 obtain ⟨hraw, hsum⟩ := raw_sum hE hop bu.1 bu.2 bv.1 bv.2
 obtain ⟨a, ha⟩ : ∃ a, numV u = a := ⟨_, rfl⟩
 obtain ⟨b, hb⟩ : ∃ b, numV v = b := ⟨_, rfl⟩
 rw [ha, hb] at hsum hraw ⊢
 rw [ha] at HP2 bu
 rw [hb] at HP1 bv
 have hw : IntKind.i64.wrap (rawN op a b) = rawN op a b := by rw [IntKind.wrap_i64]; omega
 by_cases h0 : (op = 21 ∨ op = 22) ∧ b = 0
 ·obtain ⟨h21, rfl⟩ := h0
  have hst : sumOp E op a 0 = (0, 3) := by unfold sumOp; rw [if_pos (by omega)]
  rw [hst]
  simp only [if_neg (show ¬ (3 = 0) by decide), List.append_nil]
  clear hraw hsum hst h hop bu bv ha hb hw HN HB
  rcases h21 with rfl | rfl
  all_goals
   go_enter Tryz.func120, Tryz.ntmps120
   go_wp2_with fail
   refine (HP1.out ()).mono ?_
   rintro e W1 ⟨rfl, t1, h1, k1⟩
   have HM : Hid _ := And.intro h1 k1
   clear h1 k1
   go_wp2_with fail
   refine (HP2.out W1 t1 HM.out.1).mono ?_
   rintro e W2 ⟨rfl, t2, h2, k2⟩
   have HM2 : Hid _ := And.intro h2 (HM.out.2.trans k2)
   clear h2 k2 HP1 HP2
   go_wp2_with fail
   go_ret
   exact ⟨rfl, t2, HM2.out.1, HM2.out.2⟩
 ·have hsum := hsum h0
  obtain ⟨r, hr⟩ : ∃ r, rawN op a b = r := ⟨_, rfl⟩
  rw [hr] at hsum hw
  replace HB : Hid _ := fun (W : World) => HB.out r W
  replace HN : Hid _ := fun (W1 : World) (t1 : Nat → Nat) (h1 : MM E X g (onStk s l) W1 t1) => HN.out W1 t1 h1 r
  have hb0 : op = 21 ∨ op = 22 → (b == 0) = false := fun h => by simpa using fun e => h0 ⟨h, e⟩
  have hr' : (op = 18 → a + b = r) ∧ (op = 19 → a - b = r) ∧ (op = 20 → a * b = r) ∧ (op = 21 → a.tdiv b = r) ∧ (op = 22 → a.tmod b = r) := by
   rw [← hr]; unfold rawN
   refine ⟨?_, ?_, ?_, ?_, ?_⟩ <;> rintro rfl <;> rfl
  rw [hsum]
  clear hsum h ha hb hraw hr h0 bu bv hu hv
  by_cases hby : beyB r = true
  ·rw [if_pos hby]
   simp only [if_neg (show ¬ (4 = 0) by decide), List.append_nil]
   rw [hby] at HB
   clear HN
   rcases hop with rfl | rfl | rfl | rfl | rfl
   all_goals
    obtain ⟨q1, q2, q3, q4, q5⟩ := hr'
    first | have hq := q1 rfl | have hq := q2 rfl | have hq := q3 rfl | have hq := q4 rfl | have hq := q5 rfl
    clear q1 q2 q3 q4 q5 hsum
    try have hb1 := hb0 (by decide)
    try have hb2 : ¬ b = 0 := by simpa using hb1
    clear hb0
    go_enter Tryz.func120, Tryz.ntmps120
    go_wp2_with fail
    refine (HP1.out ()).mono ?_
    rintro e W1 ⟨rfl, t1, h1, k1⟩
    have HM : Hid _ := And.intro h1 k1
    clear h1 k1
    go_wp2_with fail
    refine (HP2.out W1 t1 HM.out.1).mono ?_
    rintro e W2 ⟨rfl, t2, h2, k2⟩
    have HM2 : Hid _ := And.intro h2 (HM.out.2.trans k2)
    clear h2 k2 HP1 HP2
    go_wp2_with fail
    refine (HB.out W2).mono ?_
    rintro e W3 ⟨rfl, hw3⟩
    replace hw3 := hw3.symm
    subst hw3
    go_wp2_with fail
    go_ret
    exact ⟨rfl, t2, HM2.out.1, HM2.out.2⟩
  ·rw [if_neg hby]
   have hby' : beyB r = false := by simpa using hby
   simp only [if_true]
   rw [hby'] at HB
   rcases hop with rfl | rfl | rfl | rfl | rfl
   all_goals
    obtain ⟨q1, q2, q3, q4, q5⟩ := hr'
    first | have hq := q1 rfl | have hq := q2 rfl | have hq := q3 rfl | have hq := q4 rfl | have hq := q5 rfl
    clear q1 q2 q3 q4 q5 hsum
    try have hb1 := hb0 (by decide)
    try have hb2 : ¬ b = 0 := by simpa using hb1
    clear hb0
    go_enter Tryz.func120, Tryz.ntmps120
    go_wp2_with fail
    refine (HP1.out ()).mono ?_
    rintro e W1 ⟨rfl, t1, h1, k1⟩
    have HM : Hid _ := And.intro h1 k1
    clear h1 k1
    go_wp2_with fail
    refine (HP2.out W1 t1 HM.out.1).mono ?_
    rintro e W2 ⟨rfl, t2, h2, k2⟩
    have HM2 : Hid _ := And.intro h2 (HM.out.2.trans k2)
    clear h2 k2 HP1 HP2
    go_wp2_with fail
    refine (HB.out W2).mono ?_
    rintro e W3 ⟨rfl, hw3⟩
    replace hw3 := hw3.symm
    subst hw3
    go_wp2_with fail
    refine (HN.out W2 t2 HM2.out.1).mono ?_
    rintro e W4 ⟨rfl, t4, h4, k4⟩
    have HM4 : Hid _ := And.intro h4 (HM2.out.2.trans k4)
    clear h4 k4 HN HB
    go_wp2_with fail
    go_ret
    exact ⟨rfl, t4, HM4.out.1, HM4.out.2⟩
end
end Go.Proofs.YtmolfmgchbjnbaaGreatDoor
namespace Go.Proofs.YtmolfmgchbjnbaaGreatDoor
open Go.RowKit
open Wire Flow Mach
set_option maxRecDepth 100000 in
theorem isLong_any (t : ByteArray) (W : World) : Calls Tryz.prog 54 #[.string t] W fun e W' => e = .returned (.bool (decide ((t.size : Int) > 100))) ∧ W' = W := by
 go_enter Tryz.func54, Tryz.ntmps54
 go_wp2_with fail
 go_ret
 exact ⟨rfl, rfl⟩
section
variable {E : Env} {X : Nat} {g : Pl} {s : Ms} {W W' : World} {tag : Nat → Nat}
theorem MM.popV (h : MM E X g s W tag) {l : List Cell} {v : Val} (hs : s.fr.stk = l ++ [cv v]) (hl : s.fr.stk.length ≤ 1024) : Calls Tryz.prog 196 #[fp g s] W (MP E X g (onStk s l) tag W (vlV v.kind (vN v) (vS v))) := h.pop hs hl
theorem MM.box (h : MM E X g s W tag) (hf : Fr [] W W') : ∃ tag', MM E X g s W' tag' ∧ Kp tag tag' W W' ∧ ∀ b, W.heap.size ≤ b → tag' b = 6 := by
 obtain ⟨h6, lv, R, mp, x, hx, h⟩ := h
 obtain ⟨h', k⟩ := h.fr h6 hf
 exact ⟨_, ⟨Nat.le_trans h6 hf.size, lv, R, mp, x, hx, h'⟩, k, fun b hb => newTag_new hb⟩
set_option maxRecDepth 100000 in
set_option maxHeartbeats 4000000 in
theorem MM.cat (hE : EnvOk E) (h : MM E X g s W tag) {l : List Cell} {u v : Val} (hs : s.fr.stk = l ++ [cv u, cv v]) (hl : s.fr.stk.length ≤ 1024) (hu : SmV u) (hv : SmV v) (su : (textV E u).size ≤ 100) (sv : (textV E v).size ≤ 100) :
  Calls Tryz.prog 121 #[fp g s] W (MP E X g (onStk s (l ++ if (textV E u).size + (textV E v).size > 100 then [] else [cv (words (textV E u ++ textV E v))])) tag W (.int .i64 (if (textV E u).size + (textV E v).size > 100 then 6 else 0))) := by
 obtain ⟨e1, e2, hl2, hl3⟩ := h.pop2 hs hl
 have HP1 : Hid _ := fun (_ : Unit) => h.popText hE e1 hl hv
 have HP2 : Hid _ := fun (W1 : World) (t1 : Nat → Nat) (h1 : MM E X g (onStk s (l ++ [cv u])) W1 t1) => MM.popText hE h1 e2 hl2 hu
 have HN : Hid _ := fun (W1 : World) (t1 : Nat → Nat) (h1 : MM E X g (onStk s l) W1 t1) (n : ByteArray) => MM.pushText h1 (show l.length < 1024 from hl3) n
 have HB : Hid _ := fun (t : ByteArray) (W : World) => isLong_any t W
 obtain ⟨a, ha⟩ : ∃ a, textV E u = a := ⟨_, rfl⟩
 obtain ⟨b, hb⟩ : ∃ b, textV E v = b := ⟨_, rfl⟩
 rw [ha] at HP2 su
 rw [hb] at HP1 sv
 rw [ha, hb]
 have hsz : (a ++ b).size = a.size + b.size := ByteArray.size_append
 obtain ⟨c, hc⟩ : ∃ c, a ++ b = c := ⟨_, rfl⟩
 rw [hc] at hsz
 rw [hc]
 clear h ha hb hu hv
 by_cases hlong : a.size + b.size > 100
 ·rw [if_pos hlong, if_pos hlong, List.append_nil]
  have hB2 : decide ((c.size : Int) > 100) = true := by simp; omega
  replace HB : Hid _ := fun (W : World) => HB.out c W
  rw [hB2] at HB
  clear hlong hsz hB2 HN
  go_enter Tryz.func121, Tryz.ntmps121
  go_wp2_with fail
  refine (HP1.out ()).mono ?_
  rintro e W1 ⟨rfl, t1, h1, k1⟩
  have HM1 : Hid _ := And.intro h1 (k1)
  clear h1 k1
  go_wp2_with fail
  refine (HP2.out W1 t1 HM1.out.1).mono ?_
  rintro e W2 ⟨rfl, t2, h2, k2⟩
  have HM2 : Hid _ := And.intro h2 (HM1.out.2.trans k2)
  clear h2 k2 HP1 HP2
  go_wp2_with fail
  refine (HB.out W2).mono ?_
  rintro e W3 ⟨rfl, hw3⟩
  replace hw3 := hw3.symm
  subst hw3
  go_wp2_with fail
  go_ret
  exact ⟨rfl, t2, HM2.out.1, HM2.out.2⟩
 ·rw [if_neg hlong, if_neg hlong]
  have hB2 : decide ((c.size : Int) > 100) = false := by simp; omega
  replace HB : Hid _ := fun (W : World) => HB.out c W
  rw [hB2] at HB
  clear hlong hsz hB2
  go_enter Tryz.func121, Tryz.ntmps121
  go_wp2_with fail
  refine (HP1.out ()).mono ?_
  rintro e W1 ⟨rfl, t1, h1, k1⟩
  have HM1 : Hid _ := And.intro h1 (k1)
  clear h1 k1
  go_wp2_with fail
  refine (HP2.out W1 t1 HM1.out.1).mono ?_
  rintro e W2 ⟨rfl, t2, h2, k2⟩
  have HM2 : Hid _ := And.intro h2 (HM1.out.2.trans k2)
  clear h2 k2 HP1 HP2
  go_wp2_with fail
  refine (HB.out W2).mono ?_
  rintro e W3 ⟨rfl, hw3⟩
  replace hw3 := hw3.symm
  subst hw3
  go_wp2_with fail
  refine (HN.out W2 t2 HM2.out.1 c).mono ?_
  rintro e W4 ⟨rfl, t4, h4, k4⟩
  have HM4 : Hid _ := And.intro h4 (HM2.out.2.trans k4)
  clear h4 k4 HN HB
  go_wp2_with fail
  go_ret
  exact ⟨rfl, t4, HM4.out.1, HM4.out.2⟩
def oneV (E : Env) (op : Nat) (v : Val) : Val := if op = 23 then whole (-numV v) else if op = 24 then whole (truth (numV v == 0)) else if op = 26 then whole (numV v) else if op = 27 then words (textV E v) else whole (truth (holdsV v))
set_option maxRecDepth 100000 in
set_option maxHeartbeats 4000000 in
theorem MM.one (hE : EnvOk E) (h : MM E X g s W tag) {op : Nat} (hop : op = 23 ∨ op = 24 ∨ op = 26 ∨ op = 27 ∨ op = 28) {l : List Cell} {v : Val} (hs : s.fr.stk = l ++ [cv v]) (hl : s.fr.stk.length ≤ 1024) (hv : SmV v) :
  Calls Tryz.prog 122 #[fp g s, .int .u8 (op : Nat)] W (MP E X g (onStk s (l ++ [cv (oneV E op v)])) tag W unit) := by
 have hl3 : l.length < 1024 := by rw [hs] at hl; simp at hl; omega
 have HP1 : Hid _ := fun (_ : Unit) => h.popV hs hl
 have HV : Hid _ := fun (W1 : World) => num_v hv W1
 have HT : Hid _ := fun (W1 : World) (hp : PowTab W1) => text_v hE.itoa hv W1 hp
 have HH : Hid _ := fun (W1 : World) => holds_v v W1
 have HN : Hid _ := fun (W1 : World) (t1 : Nat → Nat) (h1 : MM E X g (onStk s l) W1 t1) (n : Int) => MM.pushNumber h1 (show l.length < 1024 from hl3) n
 have HS : Hid _ := fun (W1 : World) (t1 : Nat → Nat) (h1 : MM E X g (onStk s l) W1 t1) (n : ByteArray) => MM.pushText h1 (show l.length < 1024 from hl3) n
 have HB : Hid _ := fun (W1 : World) (t1 : Nat → Nat) (h1 : MM E X g (onStk s l) W1 t1) (n : Bool) => MM.pushTruth h1 (show l.length < 1024 from hl3) n
 have bv := numV_sm hv
 have hneg : IntKind.i64.wrap (-numV v) = -numV v := by rw [IntKind.wrap_i64]; omega
 have hV : Hid (vV v = vlV v.kind (vN v) (vS v)) := rfl
 unfold vV at HV HT HH
 clear h
 obtain ⟨k, hk⟩ : ∃ k : Int, (v.kind : Int) = k := ⟨_, rfl⟩
 obtain ⟨m, hm⟩ : ∃ m, vN v = m := ⟨_, rfl⟩
 obtain ⟨t, ht⟩ : ∃ t, vS v = t := ⟨_, rfl⟩
 rw [hk, hm, ht] at HV HT HH HP1
 clear hk hm ht hV
 rcases hop with rfl | rfl | rfl | rfl | rfl
 ·have ho : Hid (oneV E 23 v = whole (-numV v)) := rfl
  rw [ho.out]
  clear ho
  go_enter Tryz.func122, Tryz.ntmps122
  go_wp2_with fail
  refine (HP1.out ()).mono ?_
  rintro e W1 ⟨rfl, t1, h1, k1⟩
  have HM1 : Hid _ := And.intro h1 (k1)
  clear h1 k1 HP1
  obtain ⟨W2, hW2, F2, c0, c1, c2, l2⟩ := box_cells W1 k m t
  obtain ⟨t2, h2, k2, -⟩ := MM.box HM1.out.1 F2
  have HM2 : Hid _ := And.intro h2 (HM1.out.2.trans k2)
  clear h2 k2 F2 l2
  go_wp2_with fail
  refine (HV.out W2).mono ?_
  rintro e W3 ⟨rfl, F3⟩
  obtain ⟨t3, h3, k3⟩ := MM.fr HM2.out.1 F3
  have HM3 : Hid _ := And.intro h3 (HM2.out.2.trans k3)
  clear h3 k3 F3 c0 c1 c2
  go_wp2_with fail
  refine (HN.out W3 t3 HM3.out.1 (-numV v)).mono ?_
  rintro e W4 ⟨rfl, t4, h4, k4⟩
  have HM4 : Hid _ := And.intro h4 (HM3.out.2.trans k4)
  clear h4 k4
  go_wp2_with fail
  refine bodyPost_ret (results_none rfl _ _ _) rfl ?_
  exact ⟨rfl, t4, HM4.out.1, HM4.out.2⟩
 ·have ho : Hid (oneV E 24 v = whole (truth (numV v == 0))) := rfl
  rw [ho.out]
  clear ho
  go_enter Tryz.func122, Tryz.ntmps122
  go_wp2_with fail
  refine (HP1.out ()).mono ?_
  rintro e W1 ⟨rfl, t1, h1, k1⟩
  have HM1 : Hid _ := And.intro h1 (k1)
  clear h1 k1 HP1
  obtain ⟨W2, hW2, F2, c0, c1, c2, l2⟩ := box_cells W1 k m t
  obtain ⟨t2, h2, k2, -⟩ := MM.box HM1.out.1 F2
  have HM2 : Hid _ := And.intro h2 (HM1.out.2.trans k2)
  clear h2 k2 F2 l2
  go_wp2_with fail
  refine (HV.out W2).mono ?_
  rintro e W3 ⟨rfl, F3⟩
  obtain ⟨t3, h3, k3⟩ := MM.fr HM2.out.1 F3
  have HM3 : Hid _ := And.intro h3 (HM2.out.2.trans k3)
  clear h3 k3 F3 c0 c1 c2
  go_wp2_with fail
  refine (HB.out W3 t3 HM3.out.1 (numV v == 0)).mono ?_
  rintro e W4 ⟨rfl, t4, h4, k4⟩
  have HM4 : Hid _ := And.intro h4 (HM3.out.2.trans k4)
  clear h4 k4
  go_wp2_with fail
  refine bodyPost_ret (results_none rfl _ _ _) rfl ?_
  exact ⟨rfl, t4, HM4.out.1, HM4.out.2⟩
 ·have ho : Hid (oneV E 26 v = whole (numV v)) := rfl
  rw [ho.out]
  clear ho
  go_enter Tryz.func122, Tryz.ntmps122
  go_wp2_with fail
  refine (HP1.out ()).mono ?_
  rintro e W1 ⟨rfl, t1, h1, k1⟩
  have HM1 : Hid _ := And.intro h1 (k1)
  clear h1 k1 HP1
  obtain ⟨W2, hW2, F2, c0, c1, c2, l2⟩ := box_cells W1 k m t
  obtain ⟨t2, h2, k2, -⟩ := MM.box HM1.out.1 F2
  have HM2 : Hid _ := And.intro h2 (HM1.out.2.trans k2)
  clear h2 k2 F2 l2
  go_wp2_with fail
  refine (HV.out W2).mono ?_
  rintro e W3 ⟨rfl, F3⟩
  obtain ⟨t3, h3, k3⟩ := MM.fr HM2.out.1 F3
  have HM3 : Hid _ := And.intro h3 (HM2.out.2.trans k3)
  clear h3 k3 F3 c0 c1 c2
  go_wp2_with fail
  refine (HN.out W3 t3 HM3.out.1 (numV v)).mono ?_
  rintro e W4 ⟨rfl, t4, h4, k4⟩
  have HM4 : Hid _ := And.intro h4 (HM3.out.2.trans k4)
  clear h4 k4
  go_wp2_with fail
  refine bodyPost_ret (results_none rfl _ _ _) rfl ?_
  exact ⟨rfl, t4, HM4.out.1, HM4.out.2⟩
 ·have ho : Hid (oneV E 27 v = words (textV E v)) := rfl
  rw [ho.out]
  clear ho
  go_enter Tryz.func122, Tryz.ntmps122
  go_wp2_with fail
  refine (HP1.out ()).mono ?_
  rintro e W1 ⟨rfl, t1, h1, k1⟩
  have HM1 : Hid _ := And.intro h1 (k1)
  clear h1 k1 HP1
  obtain ⟨W2, hW2, F2, c0, c1, c2, l2⟩ := box_cells W1 k m t
  obtain ⟨t2, h2, k2, -⟩ := MM.box HM1.out.1 F2
  have HM2 : Hid _ := And.intro h2 (HM1.out.2.trans k2)
  clear h2 k2 F2 l2
  go_wp2_with fail
  refine (HT.out W2 (MM.pow HM2.out.1)).mono ?_
  rintro e W3 ⟨rfl, F3⟩
  obtain ⟨t3, h3, k3⟩ := MM.fr HM2.out.1 F3
  have HM3 : Hid _ := And.intro h3 (HM2.out.2.trans k3)
  clear h3 k3 F3 c0 c1 c2
  go_wp2_with fail
  refine (HS.out W3 t3 HM3.out.1 (textV E v)).mono ?_
  rintro e W4 ⟨rfl, t4, h4, k4⟩
  have HM4 : Hid _ := And.intro h4 (HM3.out.2.trans k4)
  clear h4 k4
  go_wp2_with fail
  refine bodyPost_ret (results_none rfl _ _ _) rfl ?_
  exact ⟨rfl, t4, HM4.out.1, HM4.out.2⟩
 ·have ho : Hid (oneV E 28 v = whole (truth (holdsV v))) := rfl
  rw [ho.out]
  clear ho
  go_enter Tryz.func122, Tryz.ntmps122
  go_wp2_with fail
  refine (HP1.out ()).mono ?_
  rintro e W1 ⟨rfl, t1, h1, k1⟩
  have HM1 : Hid _ := And.intro h1 (k1)
  clear h1 k1 HP1
  obtain ⟨W2, hW2, F2, c0, c1, c2, l2⟩ := box_cells W1 k m t
  obtain ⟨t2, h2, k2, -⟩ := MM.box HM1.out.1 F2
  have HM2 : Hid _ := And.intro h2 (HM1.out.2.trans k2)
  clear h2 k2 F2 l2
  go_wp2_with fail
  refine (HH.out W2).mono ?_
  rintro e W3 ⟨rfl, F3⟩
  obtain ⟨t3, h3, k3⟩ := MM.fr HM2.out.1 F3
  have HM3 : Hid _ := And.intro h3 (HM2.out.2.trans k3)
  clear h3 k3 F3 c0 c1 c2
  go_wp2_with fail
  refine (HB.out W3 t3 HM3.out.1 (holdsV v)).mono ?_
  rintro e W4 ⟨rfl, t4, h4, k4⟩
  have HM4 : Hid _ := And.intro h4 (HM3.out.2.trans k4)
  clear h4 k4
  go_wp2_with fail
  refine bodyPost_ret (results_none rfl _ _ _) rfl ?_
  exact ⟨rfl, t4, HM4.out.1, HM4.out.2⟩
end
end Go.Proofs.YtmolfmgchbjnbaaGreatDoor
namespace Go.Proofs.YtmolfmgchbjnbaaGreatDoor
open Go.RowKit
open Wire Flow Mach
structure BoxAt (W : World) (tag : Nat → Nat) (b : Nat) (k m : Int) (t : ByteArray) : Prop where
 lt : b < W.heap.size
 tg : tag b = 6
 c0 : W.cell? ⟨b, 0, none⟩ = some (.int .u8 k)
 c1 : W.cell? ⟨b, 1, none⟩ = some (.int .i64 m)
 c2 : W.cell? ⟨b, 2, none⟩ = some (.string t)
theorem BoxAt.kp {W W' : World} {tag tag' : Nat → Nat} {b : Nat} {k m : Int} {t : ByteArray} (h : BoxAt W tag b k m t) (q : Kp tag tag' W W') : BoxAt W' tag' b k m t :=
 have e := fun o => q.cell (p := ⟨b, o, none⟩) h.lt (by show tag b < 10; rw [h.tg]; decide)
 ⟨Nat.lt_of_lt_of_le h.lt q.size, (q.ret b h.lt).trans h.tg, (e 0).trans h.c0, (e 1).trans h.c1, (e 2).trans h.c2⟩
section
variable {E : Env} {X : Nat} {g : Pl} {s : Ms} {W W' : World} {tag : Nat → Nat}
set_option maxRecDepth 100000 in
set_option maxHeartbeats 4000000 in
theorem MM.drop (h : MM E X g s W tag) {l : List Cell} {c : Cell} (hs : s.fr.stk = l ++ [c]) (hl : s.fr.stk.length ≤ 1024) :
  Calls Tryz.prog 127 #[fp g s, .int .u8 47] W (MP E X g (onStk s l) tag W unit) := by
 obtain ⟨k, m, t, he⟩ : ∃ (k m : Int) (t : ByteArray), celV c = vlV k m t := by
  unfold celV; split
  ·exact ⟨_, _, _, rfl⟩
  ·exact ⟨_, _, _, rfl⟩
 have HP1 : Hid _ := fun (_ : Unit) => h.pop hs hl
 rw [he] at HP1
 clear h he
 go_enter Tryz.func127, Tryz.ntmps127
 go_wp2_with fail
 refine (HP1.out ()).mono ?_
 rintro e W1 ⟨rfl, t1, h1, k1⟩
 have HM1 : Hid _ := And.intro h1 (k1)
 have HK1 : Hid _ := k1
 clear h1 k1 HP1
 obtain ⟨W2, hW2, F2, c0, c1, c2, l2⟩ := box_cells W1 k m t
 obtain ⟨t2, h2, k2, hb2⟩ := MM.box HM1.out.1 F2
 have HX2 : Hid _ := BoxAt.mk l2 (hb2 _ (Nat.le_refl _)) c0 c1 c2
 have HM2 : Hid _ := And.intro h2 (HM1.out.2.trans k2)
 have HK2 : Hid _ := k2
 clear h2 k2 F2 hb2 l2
 go_wp2_with fail
 refine bodyPost_ret (results_none rfl _ _ _) rfl ?_
 exact ⟨rfl, t2, HM2.out.1, HM2.out.2⟩
set_option maxRecDepth 100000 in
set_option maxHeartbeats 4000000 in
theorem MM.dup (h : MM E X g s W tag) {l : List Cell} {v : Val} (hs : s.fr.stk = l ++ [cv v]) (hl : s.fr.stk.length < 1024) :
  Calls Tryz.prog 127 #[fp g s, .int .u8 45] W (MP E X g (onStk s (l ++ [cv v, cv v])) tag W unit) := by
 have hl3 : l.length + 1 < 1024 := by rw [hs] at hl; simp at hl; omega
 have HP1 : Hid _ := fun (_ : Unit) => h.popV hs (Nat.le_of_lt hl)
 have HQ1 : Hid _ := fun (W1 : World) (t1 : Nat → Nat) (h1 : MM E X g (onStk s l) W1 t1) => MM.push h1 (show l.length < 1024 by omega) v
 have HQ2 : Hid _ := fun (W1 : World) (t1 : Nat → Nat) (h1 : MM E X g (onStk s (l ++ [cv v])) W1 t1) => MM.push h1 (show (l ++ [cv v]).length < 1024 by simp; omega) v
 have hfin : Hid ((l ++ [cv v]) ++ [cv v] = l ++ [cv v, cv v]) := by show _ = _; simp
 clear h
 unfold vV at HQ1 HQ2
 generalize ek : (v.kind : Int) = k at HP1 HQ1 HQ2
 generalize em : vN v = m at HP1 HQ1 HQ2
 generalize et : vS v = t at HP1 HQ1 HQ2
 clear ek em et
 go_enter Tryz.func127, Tryz.ntmps127
 go_wp2_with fail
 refine (HP1.out ()).mono ?_
 rintro e W1 ⟨rfl, t1, h1, k1⟩
 have HM1 : Hid _ := And.intro h1 (k1)
 have HK1 : Hid _ := k1
 clear h1 k1 HP1
 obtain ⟨W2, hW2, F2, c0, c1, c2, l2⟩ := box_cells W1 k m t
 obtain ⟨t2, h2, k2, hb2⟩ := MM.box HM1.out.1 F2
 have HX2 : Hid _ := BoxAt.mk l2 (hb2 _ (Nat.le_refl _)) c0 c1 c2
 have HM2 : Hid _ := And.intro h2 (HM1.out.2.trans k2)
 have HK2 : Hid _ := k2
 clear h2 k2 F2 hb2 l2
 go_wp2_with fail
 refine (HQ1.out W2 t2 HM2.out.1).mono ?_
 rintro e W3 ⟨rfl, t3, h3, k3⟩
 have HM3 : Hid _ := And.intro h3 (HM2.out.2.trans k3)
 have HK3 : Hid _ := k3
 clear h3 k3 HQ1 c0 c1 c2
 obtain ⟨-, -, c0, c1, c2⟩ := HX2.out.kp HK3.out
 go_wp2_with fail
 refine (HQ2.out W3 t3 HM3.out.1).mono ?_
 rintro e W4 ⟨rfl, t4, h4, k4⟩
 have HM4 : Hid _ := And.intro h4 (HM3.out.2.trans k4)
 have HK4 : Hid _ := k4
 clear h4 k4 HQ2 c0 c1 c2
 go_wp2_with fail
 refine bodyPost_ret (results_none rfl _ _ _) rfl ?_
 refine ⟨rfl, t4, ?_, HM4.out.2⟩
 rw [← hfin.out]
 exact HM4.out.1
set_option maxRecDepth 100000 in
set_option maxHeartbeats 4000000 in
theorem MM.under (h : MM E X g s W tag) {l : List Cell} {u v : Val} (hs : s.fr.stk = l ++ [cv u, cv v]) (hl : s.fr.stk.length < 1024) :
  Calls Tryz.prog 127 #[fp g s, .int .u8 46] W (MP E X g (onStk s (l ++ [cv v, cv u, cv v])) tag W unit) := by
 obtain ⟨e1, e2, hl2, -⟩ := h.pop2 hs (Nat.le_of_lt hl)
 have hl3 : l.length + 2 < 1024 := by rw [hs] at hl; simp at hl; omega
 have HP1 : Hid _ := fun (_ : Unit) => h.popV e1 (Nat.le_of_lt hl)
 have HP2 : Hid _ := fun (W1 : World) (t1 : Nat → Nat) (h1 : MM E X g (onStk s (l ++ [cv u])) W1 t1) => MM.popV h1 e2 hl2
 have HQ1 : Hid _ := fun (W1 : World) (t1 : Nat → Nat) (h1 : MM E X g (onStk s l) W1 t1) => MM.push h1 (show l.length < 1024 by omega) v
 have HQ2 : Hid _ := fun (W1 : World) (t1 : Nat → Nat) (h1 : MM E X g (onStk s (l ++ [cv v])) W1 t1) => MM.push h1 (show (l ++ [cv v]).length < 1024 by simp; omega) u
 have HQ3 : Hid _ := fun (W1 : World) (t1 : Nat → Nat) (h1 : MM E X g (onStk s (l ++ [cv v] ++ [cv u])) W1 t1) => MM.push h1 (show (l ++ [cv v] ++ [cv u]).length < 1024 by simp; omega) v
 have hfin : Hid ((l ++ [cv v] ++ [cv u]) ++ [cv v] = l ++ [cv v, cv u, cv v]) := by show _ = _; simp
 clear h
 unfold vV at HQ1 HQ2 HQ3
 generalize ek : (v.kind : Int) = k at HP1 HQ1 HQ3
 generalize em : vN v = m at HP1 HQ1 HQ3
 generalize et : vS v = t at HP1 HQ1 HQ3
 generalize ek' : (u.kind : Int) = k' at HP2 HQ2
 generalize em' : vN u = m' at HP2 HQ2
 generalize et' : vS u = t' at HP2 HQ2
 clear ek em et ek' em' et'
 go_enter Tryz.func127, Tryz.ntmps127
 go_wp2_with fail
 refine (HP1.out ()).mono ?_
 rintro e W1 ⟨rfl, t1, h1, k1⟩
 have HM1 : Hid _ := And.intro h1 (k1)
 have HK1 : Hid _ := k1
 clear h1 k1 HP1
 obtain ⟨W2, hW2, F2, c0, c1, c2, l2⟩ := box_cells W1 k m t
 obtain ⟨t2, h2, k2, hb2⟩ := MM.box HM1.out.1 F2
 have HX2 : Hid _ := BoxAt.mk l2 (hb2 _ (Nat.le_refl _)) c0 c1 c2
 have HM2 : Hid _ := And.intro h2 (HM1.out.2.trans k2)
 have HK2 : Hid _ := k2
 clear h2 k2 F2 hb2 l2
 go_wp2_with fail
 refine (HP2.out W2 t2 HM2.out.1).mono ?_
 rintro e W3 ⟨rfl, t3, h3, k3⟩
 have HM3 : Hid _ := And.intro h3 (HM2.out.2.trans k3)
 have HK3 : Hid _ := k3
 clear h3 k3 HP2 c0 c1 c2
 obtain ⟨W4, hW4, F4, c0, c1, c2, l4⟩ := box_cells W3 k' m' t'
 obtain ⟨t4, h4, k4, hb4⟩ := MM.box HM3.out.1 F4
 have HX4 : Hid _ := BoxAt.mk l4 (hb4 _ (Nat.le_refl _)) c0 c1 c2
 have HM4 : Hid _ := And.intro h4 (HM3.out.2.trans k4)
 have HK4 : Hid _ := k4
 clear h4 k4 F4 hb4 l4
 obtain ⟨-, -, d0, d1, d2⟩ := (HX2.out.kp HK3.out).kp HK4.out
 go_wp2_with fail
 refine (HQ1.out W4 t4 HM4.out.1).mono ?_
 rintro e W5 ⟨rfl, t5, h5, k5⟩
 have HM5 : Hid _ := And.intro h5 (HM4.out.2.trans k5)
 have HK5 : Hid _ := k5
 clear h5 k5 HQ1 c0 c1 c2 d0 d1 d2
 obtain ⟨-, -, c0, c1, c2⟩ := HX4.out.kp HK5.out
 go_wp2_with fail
 refine (HQ2.out W5 t5 HM5.out.1).mono ?_
 rintro e W6 ⟨rfl, t6, h6, k6⟩
 have HM6 : Hid _ := And.intro h6 (HM5.out.2.trans k6)
 have HK6 : Hid _ := k6
 clear h6 k6 HQ2 c0 c1 c2
 obtain ⟨-, -, c0, c1, c2⟩ := (((HX2.out.kp HK3.out).kp HK4.out).kp HK5.out).kp HK6.out
 go_wp2_with fail
 refine (HQ3.out W6 t6 HM6.out.1).mono ?_
 rintro e W7 ⟨rfl, t7, h7, k7⟩
 have HM7 : Hid _ := And.intro h7 (HM6.out.2.trans k7)
 have HK7 : Hid _ := k7
 clear h7 k7 HQ3 c0 c1 c2
 go_wp2_with fail
 refine bodyPost_ret (results_none rfl _ _ _) rfl ?_
 refine ⟨rfl, t7, ?_, HM7.out.2⟩
 rw [← hfin.out]
 exact HM7.out.1
end
end Go.Proofs.YtmolfmgchbjnbaaGreatDoor
namespace Go.Proofs.YtmolfmgchbjnbaaGreatDoor
open Go.RowKit
open Wire Flow Mach
section
variable {E : Env} {X : Nat} {g : Pl} {s : Ms} {W W' : World} {tag : Nat → Nat}
set_option maxRecDepth 100000 in
set_option maxHeartbeats 4000000 in
theorem MM.compare (hE : EnvOk E) (h : MM E X g s W tag) {op : Nat} (hop : op = 29 ∨ op = 30 ∨ op = 31 ∨ op = 32 ∨ op = 33 ∨ op = 34) {l : List Cell} {u v : Val} (hs : s.fr.stk = l ++ [cv u, cv v]) (hl : s.fr.stk.length ≤ 1024) (hu : SmV u) (hv : SmV v) :
  Calls Tryz.prog 123 #[fp g s, .int .u8 (op : Nat)] W (MP E X g (onStk s (l ++ [cv (whole (truth (cmpOp op (cmpV E u v))))])) tag W unit) := by
 have hm : Tryz.prog.follows Departure.mixedOrders = true := by kernel_rfl
 obtain ⟨e1, e2, hl2, hl3⟩ := h.pop2 hs hl
 have HP1 : Hid _ := fun (_ : Unit) => h.popV e1 hl
 have HP2 : Hid _ := fun (W1 : World) (t1 : Nat → Nat) (h1 : MM E X g (onStk s (l ++ [cv u])) W1 t1) => MM.popV h1 e2 hl2
 have HC : Hid _ := fun (W1 : World) (hp : PowTab W1) => compare_v hE.itoa hu hv W1 hp
 have HB : Hid _ := fun (W1 : World) (t1 : Nat → Nat) (h1 : MM E X g (onStk s l) W1 t1) (b : Bool) => MM.pushTruth h1 (show l.length < 1024 from hl3) b
 clear h
 unfold vV at HC
 generalize ek : (v.kind : Int) = k at HP1 HC
 generalize em : vN v = m at HP1 HC
 generalize et : vS v = t at HP1 HC
 generalize ek' : (u.kind : Int) = k' at HP2 HC
 generalize em' : vN u = m' at HP2 HC
 generalize et' : vS u = t' at HP2 HC
 generalize cmpV E u v = o at HC ⊢
 clear ek em et ek' em' et'
 have hcase : ∃ c : Bool, cmpOp op o = c ∧ ((op = 29 ∧ decide (o < 0) = c) ∨ (op = 30 ∧ decide (o ≤ 0) = c) ∨ (op = 31 ∧ (o == 0) = c) ∨ (op = 32 ∧ (o != 0) = c) ∨ (op = 33 ∧ decide (o > 0) = c) ∨ (op = 34 ∧ decide (o ≥ 0) = c)) := by
  refine ⟨_, rfl, ?_⟩
  rcases hop with rfl | rfl | rfl | rfl | rfl | rfl
  ·exact .inl ⟨rfl, rfl⟩
  ·exact .inr (.inl ⟨rfl, rfl⟩)
  ·exact .inr (.inr (.inl ⟨rfl, by simp [cmpOp]; rfl⟩))
  ·exact .inr (.inr (.inr (.inl ⟨rfl, by simp [cmpOp]; by_cases h : o = 0 <;> simp [h]⟩)))
  ·exact .inr (.inr (.inr (.inr (.inl ⟨rfl, rfl⟩))))
  ·exact .inr (.inr (.inr (.inr (.inr ⟨rfl, rfl⟩))))
 obtain ⟨c, hc, hcase⟩ := hcase
 rw [hc]
 clear hc hop
 replace HB : Hid _ := fun (W1 : World) (t1 : Nat → Nat) (h1 : MM E X g (onStk s l) W1 t1) => HB.out W1 t1 h1 c
 rcases hcase with ⟨rfl, hc⟩ | ⟨rfl, hc⟩ | ⟨rfl, hc⟩ | ⟨rfl, hc⟩ | ⟨rfl, hc⟩ | ⟨rfl, hc⟩
 all_goals
  have HCC : Hid _ := hc
  clear hc
  go_enter Tryz.func123, Tryz.ntmps123
  go_wp2_with fail
  refine (HP1.out ()).mono ?_
  rintro e W1 ⟨rfl, t1, h1, k1⟩
  have HM1 : Hid _ := And.intro h1 (k1)
  have HK1 : Hid _ := k1
  clear h1 k1 HP1
  obtain ⟨W2, hW2, F2, c0, c1, c2, l2⟩ := box_cells W1 k m t
  obtain ⟨t2, h2, k2, hb2⟩ := MM.box HM1.out.1 F2
  have HX2 : Hid _ := BoxAt.mk l2 (hb2 _ (Nat.le_refl _)) c0 c1 c2
  have HM2 : Hid _ := And.intro h2 (HM1.out.2.trans k2)
  have HK2 : Hid _ := k2
  clear h2 k2 F2 hb2 l2
  go_wp2_with fail
  refine wp_region_heldD (fun w => w.cell? ⟨W1.heap.size, 0, none⟩ = some (.int .u8 k) ∧ w.cell? ⟨W1.heap.size, 1, none⟩ = some (.int .i64 m) ∧ w.cell? ⟨W1.heap.size, 2, none⟩ = some (.string t)) hm ?_
  have hS : W2.drew.cell? ⟨W1.heap.size, 0, none⟩ = some (.int .u8 k) ∧ W2.drew.cell? ⟨W1.heap.size, 1, none⟩ = some (.int .i64 m) ∧ W2.drew.cell? ⟨W1.heap.size, 2, none⟩ = some (.string t) := ⟨c0, c1, c2⟩
  obtain ⟨WD, hWD⟩ : ∃ WD, W2.drew = WD := ⟨_, rfl⟩
  rw [hWD] at hS ⊢
  have F3 : Fr [] W2 WD := by rw [← hWD]; exact (Fr.refl [] W2).drew
  obtain ⟨t3, h3, k3⟩ := MM.fr HM2.out.1 F3
  have HM3 : Hid _ := And.intro h3 (HM2.out.2.trans k3)
  have HX3 : Hid _ := BoxAt.kp HX2.out k3
  clear h3 k3 F3 c0 c1 c2
  refine wpAnyH_takes (fun _ _ _ _ _ h => h) hS [0, 2] (by kernel_rfl) ?_
  iterate 2
   refine Yls.cons (v := ?_) rfl (.inl ⟨rfl, fun w1 hS1 => ?_⟩) ?_
   rotate_left
   ·obtain ⟨s0, s1, s2⟩ := hS1
    go_simp
    first | rfl | (refine (if_neg (by omega)).trans ?_; rfl)
   simp only [Act.put, List.setIfInBounds_toArray, List.set_cons_zero, List.set_cons_succ, List.getElem_toArray, List.getElem_cons_succ, List.getElem_cons_zero]
  refine Yls.nil ?_
  refine wpAnyH_ready (rs := [1]) (by kernel_rfl) (by simp) ?_
  refine AllReadyH.cons rfl (fun K hK => ?_) AllReadyH.nil
  go_simp
  refine (HP2.out WD t3 HM3.out.1).mono ?_
  rintro e W4 ⟨rfl, t4, h4, k4⟩
  have HX4 : Hid _ := BoxAt.kp HX3.out k4
  have HM4 : Hid _ := And.intro h4 (HM3.out.2.trans k4)
  clear h4 k4
  refine hK _ _ ⟨HX4.out.c0, HX4.out.c1, HX4.out.c2⟩ ?_
  clear hK K
  intro _
  try simp only [Act.put, List.setIfInBounds_toArray, List.set_cons_zero, List.set_cons_succ, List.getElem_toArray, List.getElem_cons_succ, List.getElem_cons_zero]
  refine wpAnyH_ready (rs := [3]) (by kernel_rfl) (by simp) ?_
  refine AllReadyH.cons rfl (fun K hK => ?_) AllReadyH.nil
  go_simp
  refine (HC.out W4 (MM.pow HM4.out.1)).mono ?_
  rintro e W5 ⟨rfl, F5⟩
  obtain ⟨t5, h5, k5⟩ := MM.fr HM4.out.1 F5
  have HX5 : Hid _ := BoxAt.kp HX4.out k5
  have HM5 : Hid _ := And.intro h5 (HM4.out.2.trans k5)
  clear h5 k5 F5
  refine hK _ _ ⟨HX5.out.c0, HX5.out.c1, HX5.out.c2⟩ ?_
  clear hK K
  intro _
  try simp only [Act.put, List.setIfInBounds_toArray, List.set_cons_zero, List.set_cons_succ, List.getElem_toArray, List.getElem_cons_succ, List.getElem_cons_zero]
  refine wpAnyH_ready (rs := [4]) (by kernel_rfl) (by simp) ?_
  refine AllReadyH.cons rfl (fun K hK => ?_) AllReadyH.nil
  go_simp
  refine hK _ _ ⟨HX5.out.c0, HX5.out.c1, HX5.out.c2⟩ ?_
  clear hK K
  intro _
  try simp only [Act.put, List.setIfInBounds_toArray, List.set_cons_zero, List.set_cons_succ, List.getElem_toArray, List.getElem_cons_succ, List.getElem_cons_zero]
  refine wpAnyH_done (by kernel_rfl) ?_ _
  have hc := HCC.out
  go_wp2_with fail
  refine (HB.out W5 t5 HM5.out.1).mono ?_
  rintro e W6 ⟨rfl, t6, h6, k6⟩
  have HM6 : Hid _ := And.intro h6 (HM5.out.2.trans k6)
  clear h6 k6
  go_wp2_with fail
  refine bodyPost_ret (results_none rfl _ _ _) rfl ?_
  exact ⟨rfl, t6, HM6.out.1, HM6.out.2⟩
end
end Go.Proofs.YtmolfmgchbjnbaaGreatDoor
namespace Go.Proofs.YtmolfmgchbjnbaaGreatDoor
open Go.RowKit
open Wire Flow Mach
theorem partL_eq (m e : Int) (i : Nat) (l : List UInt8) : partL m e i l = (l.take (e - 1 - i).toNat).drop (m - 1 - i).toNat := by
  induction l generalizing i with
  | nil => simp [partL]
  | cons c l ih =>
    unfold partL
    by_cases h2 : (i : Int) + 1 < e
    · obtain ⟨n, hn⟩ : ∃ n, (e - 1 - i).toNat = n + 1 := ⟨(e - 1 - i).toNat - 1, by omega⟩
      have hn' : (e - 1 - ((i + 1 : Nat) : Int)).toNat = n := by omega
      by_cases h1 : m ≤ (i : Int) + 1
      · have h0 : (m - 1 - i).toNat = 0 := by omega
        have h0' : (m - 1 - ((i + 1 : Nat) : Int)).toNat = 0 := by omega
        rw [if_pos ⟨h1, h2⟩, ih, hn, hn', h0, h0']
        simp
      · obtain ⟨q, hq⟩ : ∃ q, (m - 1 - i).toNat = q + 1 := ⟨(m - 1 - i).toNat - 1, by omega⟩
        have hq' : (m - 1 - ((i + 1 : Nat) : Int)).toNat = q := by omega
        rw [if_neg (fun h => h1 h.1), ih, hn, hn', hq, hq']
        simp
    · have h0 : (e - 1 - i).toNat = 0 := by omega
      have h0' : (e - 1 - ((i + 1 : Nat) : Int)).toNat = 0 := by omega
      rw [if_neg (fun h => h2 h.2), ih, h0, h0']
      simp
theorem indexL_eq (t : List UInt8) (i : Nat) (l : List UInt8) : (indexL t i l : Int) = if Lib.index l t = -1 then 0 else Lib.index l t + 1 + i := by
  induction l generalizing i with
  | nil =>
    unfold indexL Lib.index
    cases t with
    | nil => simp; omega
    | cons a t => simp [List.isPrefixOf]
  | cons c l ih =>
    unfold indexL Lib.index
    by_cases h : t.isPrefixOf (c :: l) = true
    · rw [if_pos h, if_pos h]; simp; omega
    · rw [if_neg h, if_neg h]
      have := ih (i + 1)
      have hg := Lib.index_ge l t
      simp only
      rw [this]
      by_cases h1 : Lib.index l t = -1
      · simp [h1]
      · have h2 : (Lib.index l t == -1) = false := by simpa using h1
        rw [if_neg h1, h2]
        simp only [Bool.false_eq_true, if_false]
        rw [if_neg (by omega)]
        push_cast
        omega
theorem extract_part (x : ByteArray) (a b : Nat) : x.extract a b = ⟨((bl x).take b |>.drop a).toArray⟩ := by
 rw [← mk_bl (x.extract a b)]
 congr 2
 unfold bl
 rw [ByteArray.data_extract, Array.toList_extract]
 rw [List.extract_eq_take_drop, List.drop_take]
set_option maxRecDepth 100000 in
set_option maxHeartbeats 4000000 in
theorem part_any (x : ByteArray) (f n : Int) (hx : x.size ≤ 1048576) (h1 : -1000000000 ≤ f) (h2 : f ≤ 1000000000) (h3 : -1000000000 ≤ n) (h4 : n ≤ 1000000000) (W : World) :
  Calls Tryz.prog 221 #[.string x, .int .i64 f, .int .i64 n] W fun e W' => e = .returned (.string ⟨(partL f (f + n) 0 (bl x)).toArray⟩) ∧ W' = W := by
 have w1 : IntKind.i64.wrap (f - 1) = f - 1 := by rw [IntKind.wrap_i64]; omega
 have w2 : IntKind.i64.wrap (f + n) = f + n := by rw [IntKind.wrap_i64]; omega
 have w3 : IntKind.i64.wrap (f + n - 1) = f + n - 1 := by rw [IntKind.wrap_i64]; omega
 obtain ⟨b, hb⟩ : ∃ b : Nat, max (f - 1) 0 = (b : Int) := ⟨(max (f - 1) 0).toNat, by omega⟩
 have hp := partL_eq f (f + n) 0 (bl x)
 have hbl := bl_length x
 by_cases hc : (b : Int) ≥ min (f + n - 1) (x.size : Int)
 ·have he : partL f (f + n) 0 (bl x) = [] := by
   rw [hp]
   apply List.drop_eq_nil_of_le
   rw [List.length_take, hbl]
   omega
  rw [he]
  clear hp he
  go_enter Tryz.func221, Tryz.ntmps221
  go_wp2_with fail
  go_ret
  exact ⟨rfl, rfl⟩
 ·obtain ⟨d, hd⟩ : ∃ d : Nat, min (f + n - 1) (x.size : Int) = (d : Int) := ⟨(min (f + n - 1) (x.size : Int)).toNat, by omega⟩
  have hbd : (b : Int) ≤ d := by omega
  have hdx : (d : Int) ≤ x.size := by omega
  have hcc : ¬ (b : Int) ≥ d := by omega
  have he : (⟨(partL f (f + n) 0 (bl x)).toArray⟩ : ByteArray) = x.extract b d := by
   rw [hp, extract_part]
   congr 2
   have e1 : (f - 1 - ((0 : Nat) : Int)).toNat = b := by omega
   rw [e1]
   congr 1
   by_cases q : f + n - 1 ≤ x.size
   ·congr 1; omega
   ·rw [List.take_of_length_le (by rw [hbl]; omega), List.take_of_length_le (by rw [hbl]; omega)]
  rw [he]
  clear hp he hbl hc
  go_enter Tryz.func221, Tryz.ntmps221
  go_wp2_with fail
  go_ret
  exact ⟨rfl, rfl⟩
end Go.Proofs.YtmolfmgchbjnbaaGreatDoor
