/-
  Find, the call.
-/
import Derived.Test.YticaoekmlaipnaaDoorXa
set_option linter.unusedSimpArgs false
set_option linter.unusedVariables false
namespace Go.Proofs.YticaoekmlaipnaaDoor
open Go.RowKit

theorem texts1 (w : World) (x : ByteArray) (T : TypeId) : TextsAt (w.alloc (.cells #[.string x] T)) w.heap.size [x] := by
  intro i y h
  have := rowIs_new w [Value.string x] T i
  rcases i with _ | i
  · cases h; exact this
  · cases h
theorem texts2 (w : World) (x y : ByteArray) (T : TypeId) : TextsAt (w.alloc (.cells #[.string x, .string y] T)) w.heap.size [x, y] := by
  intro i z h
  have := rowIs_new w [Value.string x, Value.string y] T i
  rcases i with _ | _ | i
  · cases h; exact this
  · cases h; exact this
  · cases h

theorem read_bounds (t : ByteArray) (ht : t.size ≤ 50) : PB 50 (readF t).1 ∧ (∀ b, (readF t).2.tk b < 1125899906842624) ∧ ∀ s a, (readF t).2.fo s a < 18446744073709551616 := by
  have gv := (givesAll t 400).alt st0 (st0_inv t)
  have hi : Inv t (readF t).2 := gv.inv
  have ha : (readF t).2.atoms ≤ 50 := Nat.le_trans hi.at_ (Nat.le_trans hi.pos ht)
  have hp : 2 ^ (readF t).2.atoms ≤ 2 ^ 50 := Nat.pow_le_pow_right (by decide) ha
  have h50 : (2 : Nat) ^ 50 = 1125899906842624 := by decide
  refine ⟨PB.mono gv.pb ha, fun b => ?_, fun s a => ?_⟩
  · have := hi.tk b; omega
  · have := hi.fo s a; omega

set_option maxRecDepth 100000 in
set_option maxHeartbeats 400000 in
theorem find_long (t x : ByteArray) (fr : Int) (w : World) (hx : 100 < x.size) (hm : x.size ≤ maxLen) :
    Calls Tryd.prog 25 #[.string t, .string x, .int .i64 fr] w fun e w' => e = .returned (.tuple #[.int .i64 0, .int .i64 0, .int .i64 1]) ∧ Fr [] w w' := by
  have f0 : Fr [] w (w.alloc (.cells #[.string x] 9)) := (Fr.refl [] w).alloc _
  have hr := readFor_long t [x] w.heap.size _ (texts1 w x 9) (by simp) ⟨x, by simp, hx⟩ (by simpa using hm)
  go_enter Tryd.func25, Tryd.ntmps25
  go_wp2_with fail
  refine hr.mono ?_
  clear hr
  generalize w.alloc (.cells #[.string x] 9) = W at *
  rintro e w1 ⟨rfl, rfl⟩
  go_wp2
  go_ret3
  exact ⟨rfl, f0⟩

set_option maxRecDepth 100000 in
set_option maxHeartbeats 400000 in
theorem find_plong (t x : ByteArray) (fr : Int) (w : World) (hx : x.size ≤ 100) (h : 50 < t.size) (hm : t.size ≤ maxLen) :
    Calls Tryd.prog 25 #[.string t, .string x, .int .i64 fr] w fun e w' => e = .returned (.tuple #[.int .i64 0, .int .i64 0, .int .i64 1]) ∧ Fr [] w w' := by
  have f0 : Fr [] w (w.alloc (.cells #[.string x] 9)) := (Fr.refl [] w).alloc _
  have hr := readFor_plong t [x] w.heap.size _ (texts1 w x 9) (by simp) (by simpa using hx) h hm
  go_enter Tryd.func25, Tryd.ntmps25
  go_wp2_with fail
  refine hr.mono ?_
  clear hr
  generalize w.alloc (.cells #[.string x] 9) = W at *
  rintro e w1 ⟨rfl, rfl⟩
  go_wp2
  go_ret3
  exact ⟨rfl, f0⟩

set_option maxRecDepth 100000 in
set_option maxHeartbeats 400000 in
theorem find_bad (t x : ByteArray) (fr : Int) (w : World) (hx : x.size ≤ 100) (ht : t.size ≤ 50) (hT : Tab w) (hok : readOk t = false) :
    Calls Tryd.prog 25 #[.string t, .string x, .int .i64 fr] w fun e w' => e = .returned (.tuple #[.int .i64 0, .int .i64 0, .int .i64 2]) ∧ Fr [] w w' := by
  have f0 : Fr [] w (w.alloc (.cells #[.string x] 9)) := (Fr.refl [] w).alloc _
  have hr := readFor_bad t [x] w.heap.size _ (texts1 w x 9) (by simp) (by simpa using hx) ht (hT.fr f0 (by simp)) hok
  go_enter Tryd.func25, Tryd.ntmps25
  go_wp2_with fail
  refine hr.mono ?_
  clear hr
  generalize w.alloc (.cells #[.string x] 9) = W at *
  rintro e w1 ⟨rfl, f1⟩
  go_wp2
  go_ret3
  exact ⟨rfl, f0.trans f1⟩

set_option maxRecDepth 100000 in
set_option maxHeartbeats 400000 in
theorem find_arg (t x : ByteArray) (fr : Int) (w : World) (hx : x.size ≤ 100) (ht : t.size ≤ 50) (hT : Tab w) (hok : readOk t = true) (hfr : fr < 0 ∨ x.size < fr) :
    Calls Tryd.prog 25 #[.string t, .string x, .int .i64 fr] w fun e w' => e = .returned (.tuple #[.int .i64 0, .int .i64 0, .int .i64 3]) ∧ Fr [] w w' := by
  have f0 : Fr [] w (w.alloc (.cells #[.string x] 9)) := (Fr.refl [] w).alloc _
  have hr := readFor_ok t [x] w.heap.size _ (texts1 w x 9) (by simp) (by simpa using hx) ht (hT.fr f0 (by simp)) hok
  go_enter Tryd.func25, Tryd.ntmps25
  go_wp2_with fail
  refine hr.mono ?_
  clear hr
  generalize w.alloc (.cells #[.string x] 9) = W at *
  rintro e w1 ⟨pb, rfl, _, _, f1⟩
  rcases hfr with h1 | h1
  · go_wp2
    go_ret3
    exact ⟨rfl, f0.trans f1⟩
  · have h2 : ¬ (fr < 0) := by omega
    go_wp2
    go_ret3
    exact ⟨rfl, f0.trans f1⟩

set_option maxRecDepth 100000 in
set_option maxHeartbeats 400000 in
theorem find_ok (t x : ByteArray) (fr : Nat) (w : World) (hx : x.size ≤ 100) (ht : t.size ≤ 50) (hT : Tab w) (hok : readOk t = true) (hfr : fr ≤ x.size) :
    Calls Tryd.prog 25 #[.string t, .string x, .int .i64 fr] w fun e w' => e = .returned (.tuple #[.int .i64 (findL (endF (readF t).1 (readF t).2.tk (readF t).2.fo x) (x.size + 1 - fr) fr).1, .int .i64 (findL (endF (readF t).1 (readF t).2.tk (readF t).2.fo x) (x.size + 1 - fr) fr).2, .int .i64 0]) ∧ Fr [] w w' := by
  have f0 : Fr [] w (w.alloc (.cells #[.string x] 9)) := (Fr.refl [] w).alloc _
  obtain ⟨b1, b2, b3⟩ := read_bounds t ht
  have hf := fun (pb : Nat) (w1 : World) (hP : PatAt w1 pb (whF (readF t).1) (readF t).2.tk (readF t).2.fo) (hT1 : Tab w1) => pfind_any pb _ _ _ x fr w1 hP hT1 b1 b2 b3 hx hfr
  generalize findL (endF (readF t).1 (readF t).2.tk (readF t).2.fo x) (x.size + 1 - fr) fr = R at *
  have Hf : Hid _ := hf
  clear hf b1 b2 b3
  have hr := readFor_ok t [x] w.heap.size _ (texts1 w x 9) (by simp) (by simpa using hx) ht (hT.fr f0 (by simp)) hok
  go_enter Tryd.func25, Tryd.ntmps25
  go_wp2_with fail
  refine hr.mono ?_
  clear hr
  generalize w.alloc (.cells #[.string x] 9) = W at *
  have hT1 := hT.fr f0 (by simp)
  rintro e w1 ⟨pb, rfl, _, hP, f1⟩
  have hf := Hf.out pb w1 hP (hT1.fr f1 (by simp))
  clear hP
  have g1 : ¬ ((fr : Int) < 0) := by omega
  have g2 : ¬ ((x.size : Int) < fr) := by omega
  go_wp2_with fail
  refine hf.mono ?_
  rintro e w2 ⟨rfl, f2⟩
  go_wp2
  go_ret3
  exact ⟨rfl, (f0.trans f1).trans f2⟩


end Go.Proofs.YticaoekmlaipnaaDoor
