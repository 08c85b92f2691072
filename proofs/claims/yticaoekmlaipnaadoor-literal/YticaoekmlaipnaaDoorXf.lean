/-
  Swap and Split, the calls.
-/
import Derived.Test.YticaoekmlaipnaaDoorXe
set_option linter.unusedSimpArgs false
set_option linter.unusedVariables false
namespace Go.Proofs.YticaoekmlaipnaaDoor
open Go.RowKit

set_option maxRecDepth 100000 in
set_option maxHeartbeats 400000 in
theorem swap_long (t wi x : ByteArray) (w : World) (h : 100 < wi.size ∨ 100 < x.size) (hm1 : wi.size ≤ maxLen) (hm2 : x.size ≤ maxLen) :
    Calls Tryd.prog 11 #[.string t, .string wi, .string x] w fun e w' => e = .returned (.tuple #[.string ⟨#[]⟩, .int .i64 1]) ∧ Fr [] w w' := by
  have f0 : Fr [] w (w.alloc (.cells #[.string wi, .string x] 9)) := (Fr.refl [] w).alloc _
  have hr := readFor_long t [wi, x] w.heap.size _ (texts2 w wi x 9) (by simp) (h.elim (fun h => ⟨wi, by simp, h⟩) (fun h => ⟨x, by simp, h⟩)) (by simp; exact ⟨hm1, hm2⟩)
  go_enter Tryd.func11, Tryd.ntmps11
  go_wp2_with fail
  refine hr.mono ?_
  clear hr
  generalize w.alloc (.cells #[.string wi, .string x] 9) = W at *
  rintro e w1 ⟨rfl, rfl⟩
  go_wp2
  go_ret2
  exact ⟨rfl, f0⟩

set_option maxRecDepth 100000 in
set_option maxHeartbeats 400000 in
theorem swap_plong (t wi x : ByteArray) (w : World) (hx : x.size ≤ 100) (hw : wi.size ≤ 100) (h : 50 < t.size) (hm : t.size ≤ maxLen) :
    Calls Tryd.prog 11 #[.string t, .string wi, .string x] w fun e w' => e = .returned (.tuple #[.string ⟨#[]⟩, .int .i64 1]) ∧ Fr [] w w' := by
  have f0 : Fr [] w (w.alloc (.cells #[.string wi, .string x] 9)) := (Fr.refl [] w).alloc _
  have hr := readFor_plong t [wi, x] w.heap.size _ (texts2 w wi x 9) (by simp) (by simp; exact ⟨hw, hx⟩) h hm
  go_enter Tryd.func11, Tryd.ntmps11
  go_wp2_with fail
  refine hr.mono ?_
  clear hr
  generalize w.alloc (.cells #[.string wi, .string x] 9) = W at *
  rintro e w1 ⟨rfl, rfl⟩
  go_wp2
  go_ret2
  exact ⟨rfl, f0⟩

set_option maxRecDepth 100000 in
set_option maxHeartbeats 400000 in
theorem swap_bad (t wi x : ByteArray) (w : World) (hx : x.size ≤ 100) (hw : wi.size ≤ 100) (ht : t.size ≤ 50) (hT : Tab w) (hok : readOk t = false) :
    Calls Tryd.prog 11 #[.string t, .string wi, .string x] w fun e w' => e = .returned (.tuple #[.string ⟨#[]⟩, .int .i64 2]) ∧ Fr [] w w' := by
  have f0 : Fr [] w (w.alloc (.cells #[.string wi, .string x] 9)) := (Fr.refl [] w).alloc _
  have hr := readFor_bad t [wi, x] w.heap.size _ (texts2 w wi x 9) (by simp) (by simp; exact ⟨hw, hx⟩) ht (hT.fr f0 (by simp)) hok
  go_enter Tryd.func11, Tryd.ntmps11
  go_wp2_with fail
  refine hr.mono ?_
  clear hr
  generalize w.alloc (.cells #[.string wi, .string x] 9) = W at *
  rintro e w1 ⟨rfl, f1⟩
  go_wp2
  go_ret2
  exact ⟨rfl, f0.trans f1⟩

set_option maxRecDepth 100000 in
set_option maxHeartbeats 400000 in
theorem swap_ok (t wi x : ByteArray) (w : World) (hx : x.size ≤ 100) (hw : wi.size ≤ 100) (ht : t.size ≤ 50) (hT : Tab w) (hok : readOk t = true) :
    Calls Tryd.prog 11 #[.string t, .string wi, .string x] w fun e w' => e = .returned (.tuple #[.string ⟨(swapL (endF (readF t).1 (readF t).2.tk (readF t).2.fo x) wi.data.toList x 0 (-1)).toArray⟩, .int .i64 0]) ∧ Fr [] w w' := by
  have f0 : Fr [] w (w.alloc (.cells #[.string wi, .string x] 9)) := (Fr.refl [] w).alloc _
  obtain ⟨b1, b2, b3⟩ := read_bounds t ht
  have hf := fun (pb : Nat) (w1 : World) (hP : PatAt w1 pb (whF (readF t).1) (readF t).2.tk (readF t).2.fo) (hT1 : Tab w1) => pswap_any pb _ _ _ wi x w1 hP hT1 b1 b2 b3 hx hw
  generalize swapL (endF (readF t).1 (readF t).2.tk (readF t).2.fo x) wi.data.toList x 0 (-1) = R at *
  have Hf : Hid _ := hf
  clear hf b1 b2 b3
  have hr := readFor_ok t [wi, x] w.heap.size _ (texts2 w wi x 9) (by simp) (by simp; exact ⟨hw, hx⟩) ht (hT.fr f0 (by simp)) hok
  go_enter Tryd.func11, Tryd.ntmps11
  go_wp2_with fail
  refine hr.mono ?_
  clear hr
  generalize w.alloc (.cells #[.string wi, .string x] 9) = W at *
  have hT1 := hT.fr f0 (by simp)
  rintro e w1 ⟨pb, rfl, _, hP, f1⟩
  have hf := Hf.out pb w1 hP (hT1.fr f1 (by simp))
  clear hP
  go_wp2_with fail
  refine hf.mono ?_
  rintro e w2 ⟨rfl, f2⟩
  go_wp2
  go_ret2
  exact ⟨rfl, (f0.trans f1).trans f2⟩

set_option maxRecDepth 100000 in
set_option maxHeartbeats 400000 in
theorem split_long (t x : ByteArray) (w : World) (hx : 100 < x.size) (hm : x.size ≤ maxLen) :
    Calls Tryd.prog 13 #[.string t, .string x] w fun e w' => e = .returned (.tuple #[.slice none 0 0, .int .i64 1]) ∧ Fr [] w w' := by
  have f0 : Fr [] w (w.alloc (.cells #[.string x] 9)) := (Fr.refl [] w).alloc _
  have hr := readFor_long t [x] w.heap.size _ (texts1 w x 9) (by simp) ⟨x, by simp, hx⟩ (by simpa using hm)
  go_enter Tryd.func13, Tryd.ntmps13
  go_wp2_with fail
  refine hr.mono ?_
  clear hr
  generalize w.alloc (.cells #[.string x] 9) = W at *
  rintro e w1 ⟨rfl, rfl⟩
  go_wp2
  go_ret2
  exact ⟨rfl, f0⟩

set_option maxRecDepth 100000 in
set_option maxHeartbeats 400000 in
theorem split_plong (t x : ByteArray) (w : World) (hx : x.size ≤ 100) (h : 50 < t.size) (hm : t.size ≤ maxLen) :
    Calls Tryd.prog 13 #[.string t, .string x] w fun e w' => e = .returned (.tuple #[.slice none 0 0, .int .i64 1]) ∧ Fr [] w w' := by
  have f0 : Fr [] w (w.alloc (.cells #[.string x] 9)) := (Fr.refl [] w).alloc _
  have hr := readFor_plong t [x] w.heap.size _ (texts1 w x 9) (by simp) (by simpa using hx) h hm
  go_enter Tryd.func13, Tryd.ntmps13
  go_wp2_with fail
  refine hr.mono ?_
  clear hr
  generalize w.alloc (.cells #[.string x] 9) = W at *
  rintro e w1 ⟨rfl, rfl⟩
  go_wp2
  go_ret2
  exact ⟨rfl, f0⟩

set_option maxRecDepth 100000 in
set_option maxHeartbeats 400000 in
theorem split_bad (t x : ByteArray) (w : World) (hx : x.size ≤ 100) (ht : t.size ≤ 50) (hT : Tab w) (hok : readOk t = false) :
    Calls Tryd.prog 13 #[.string t, .string x] w fun e w' => e = .returned (.tuple #[.slice none 0 0, .int .i64 2]) ∧ Fr [] w w' := by
  have f0 : Fr [] w (w.alloc (.cells #[.string x] 9)) := (Fr.refl [] w).alloc _
  have hr := readFor_bad t [x] w.heap.size _ (texts1 w x 9) (by simp) (by simpa using hx) ht (hT.fr f0 (by simp)) hok
  go_enter Tryd.func13, Tryd.ntmps13
  go_wp2_with fail
  refine hr.mono ?_
  clear hr
  generalize w.alloc (.cells #[.string x] 9) = W at *
  rintro e w1 ⟨rfl, f1⟩
  go_wp2
  go_ret2
  exact ⟨rfl, f0.trans f1⟩

/-- What Split is to answer. -/
def splitR (E : Nat → Int) (x : ByteArray) : List ByteArray := if x.size = 0 then [] else splitL E x 0 0

theorem psplit_all (pb : Nat) (q : Piece) (tk : Nat → Nat) (fo : Nat → Nat → Nat) (x : ByteArray) (w : World) (hP : PatAt w pb (whF q) tk fo) (hT : Tab w) (lq : PB 50 q) (ltk : ∀ b, tk b < 1125899906842624) (lfo : ∀ s a, fo s a < 18446744073709551616) (hx : x.size ≤ 100) :
    Calls Tryd.prog 30 #[.pointer (some ⟨pb, 0, none⟩), .string x] w fun e w' => ∃ v, e = .returned v ∧ StrsAt w' v (splitR (endF q tk fo x) x) ∧ Fr [] w w' := by
  unfold splitR
  by_cases h0 : x.size = 0
  · obtain rfl : x = ⟨#[]⟩ := ByteArray.ext (Array.eq_empty_of_size_eq_zero h0)
    refine (psplit_empty pb w).mono ?_
    rintro e w' ⟨rfl, rfl⟩
    exact ⟨_, rfl, .inl ⟨rfl, rfl⟩, Fr.refl _ _⟩
  · rw [if_neg h0]
    exact psplit_any pb q tk fo x w hP hT lq ltk lfo hx (by omega)

set_option maxRecDepth 100000 in
set_option maxHeartbeats 400000 in
theorem split_ok (t x : ByteArray) (w : World) (hx : x.size ≤ 100) (ht : t.size ≤ 50) (hT : Tab w) (hok : readOk t = true) :
    Calls Tryd.prog 13 #[.string t, .string x] w fun e w' => ∃ v, e = .returned (.tuple #[v, .int .i64 0]) ∧ StrsAt w' v (splitR (endF (readF t).1 (readF t).2.tk (readF t).2.fo x) x) ∧ Fr [] w w' := by
  have f0 : Fr [] w (w.alloc (.cells #[.string x] 9)) := (Fr.refl [] w).alloc _
  obtain ⟨b1, b2, b3⟩ := read_bounds t ht
  have hf := fun (pb : Nat) (w1 : World) (hP : PatAt w1 pb (whF (readF t).1) (readF t).2.tk (readF t).2.fo) (hT1 : Tab w1) => psplit_all pb _ _ _ x w1 hP hT1 b1 b2 b3 hx
  generalize splitR (endF (readF t).1 (readF t).2.tk (readF t).2.fo x) x = R at *
  have Hf : Hid _ := hf
  clear hf b1 b2 b3
  have hr := readFor_ok t [x] w.heap.size _ (texts1 w x 9) (by simp) (by simpa using hx) ht (hT.fr f0 (by simp)) hok
  go_enter Tryd.func13, Tryd.ntmps13
  go_wp2_with fail
  refine hr.mono ?_
  clear hr
  generalize w.alloc (.cells #[.string x] 9) = W at *
  have hT1 := hT.fr f0 (by simp)
  rintro e w1 ⟨pb, rfl, _, hP, f1⟩
  have hf := Hf.out pb w1 hP (hT1.fr f1 (by simp))
  clear hP
  go_wp2_with fail
  refine hf.mono ?_
  rintro e w2 ⟨v, rfl, st, f2⟩
  go_wp2
  go_ret2
  exact ⟨v, rfl, st, (f0.trans f1).trans f2⟩


end Go.Proofs.YticaoekmlaipnaaDoor
