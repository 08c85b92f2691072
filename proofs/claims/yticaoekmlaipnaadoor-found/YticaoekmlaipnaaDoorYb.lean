/-
  first, leftmost, anchored.
-/
import Derived.Test.YticaoekmlaipnaaDoorPo
import Derived.Test.YticaoekmlaipnaaDoorXk
set_option linter.unusedSimpArgs false
set_option linter.unusedVariables false
namespace Go.Proofs.YticaoekmlaipnaaDoor
open Go.RowKit

set_option maxRecDepth 100000 in
set_option maxHeartbeats 1000000 in
theorem first_any (t x : ByteArray) (fr : Nat) (w : World) (hx : x.size ≤ 100) (ht : t.size ≤ 50) (hT : Tab w) (hok : readOk t = true) (hfr : fr ≤ x.size) :
    Calls Tryd.prog 17 #[.string t, .string x, .int .i64 fr] w fun e w' => e = .returned (.tuple #[.int .i64 (Fd t x fr).1, .int .i64 (Fd t x fr).2, .bool true]) ∧ Fr [] w w' := by
  have hf := find_ok t x fr w hx ht hT hok hfr
  have hr := fd_right (p := t) (x := x) ht hfr
  unfold Fd Ef at hr ⊢
  generalize findL (endF (readF t).1 (readF t).2.tk (readF t).2.fo x) (x.size + 1 - fr) fr = R at *
  obtain ⟨a, b⟩ := R
  clear hok hT
  rcases hr with hr | hr
  · cases hr
    go_enter Tryd.func17, Tryd.ntmps17
    go_wp2_with fail
    refine hf.mono ?_
    rintro e w1 ⟨rfl, f1⟩
    go_wp2
    go_ret3
    exact ⟨rfl, f1⟩
  · obtain ⟨h1, h2, h3⟩ := hr
    simp only at h1 h2 h3
    have g1 : ¬ (a = -1) := by omega
    go_enter Tryd.func17, Tryd.ntmps17
    go_wp2_with fail
    refine hf.mono ?_
    rintro e w1 ⟨rfl, f1⟩
    go_wp2
    go_ret3
    exact ⟨rfl, f1⟩

set_option maxRecDepth 100000 in
set_option maxHeartbeats 1000000 in
theorem leftmost_any (a b c d : Int) (w : World) :
    Calls Tryd.prog 18 #[.int .i64 a, .int .i64 b, .int .i64 c, .int .i64 d] w fun e w' => e = .returned (.tuple #[.int .i64 (leftF (a, b) (c, d)).1, .int .i64 (leftF (a, b) (c, d)).2]) ∧ w' = w := by
  unfold leftF
  simp only
  by_cases h1 : a < 0
  · rw [if_pos h1]
    go_enter Tryd.func18, Tryd.ntmps18
    go_wp2
    go_ret2
    exact ⟨rfl, rfl⟩
  · rw [if_neg h1]
    by_cases h2 : c < 0
    · rw [if_pos (.inl h2)]
      go_enter Tryd.func18, Tryd.ntmps18
      go_wp2
      go_ret2
      exact ⟨rfl, rfl⟩
    · by_cases h3 : a < c
      · rw [if_pos (.inr h3)]
        go_enter Tryd.func18, Tryd.ntmps18
        go_wp2
        go_ret2
        exact ⟨rfl, rfl⟩
      · rw [if_neg (fun h => h.elim h2 h3)]
        by_cases h4 : c < a
        · rw [if_pos h4]
          go_enter Tryd.func18, Tryd.ntmps18
          go_wp2
          go_ret2
          exact ⟨rfl, rfl⟩
        · rw [if_neg h4]
          by_cases h5 : b < d
          · rw [if_pos h5]
            go_enter Tryd.func18, Tryd.ntmps18
            go_wp2
            go_ret2
            exact ⟨rfl, rfl⟩
          · rw [if_neg h5]
            go_enter Tryd.func18, Tryd.ntmps18
            go_wp2
            go_ret2
            exact ⟨rfl, rfl⟩

theorem byte_more {t : ByteArray} {k : Nat} (hlt : k < t.size) (hB : ∀ j, j < k → byteAt t j ≠ 94 ∧ byteAt t j ≠ 36) (h94 : ¬ t[k] = 94) (h36 : ¬ t[k] = 36) : Hid (∀ j, j < k + 1 → byteAt t j ≠ 94 ∧ byteAt t j ≠ 36) := by
  intro j hj
  by_cases h : j < k
  · exact hB j h
  · obtain rfl : j = k := by omega
    unfold byteAt
    rw [dif_pos hlt]
    refine ⟨fun e => h94 (UInt8.toNat_inj.1 ?_), fun e => h36 (UInt8.toNat_inj.1 ?_)⟩
    · show t[j].toNat = 94; omega
    · show t[j].toNat = 36; omega

/-- What anchored answers: if it is false, there is no ^ and no $. -/
def AncPost (t : ByteArray) (w : World) (e : Ending) (w' : World) : Prop := ∃ b, e = .returned (.bool b) ∧ w' = w ∧ (b = false → NoAnc t)

set_option maxRecDepth 100000 in
set_option maxHeartbeats 1000000 in
theorem anchored_any (t : ByteArray) (w : World) (ht : t.size ≤ 50) :
    Calls Tryd.prog 31 #[.string t] w (AncPost t w) := by
  go_enter Tryd.func31, Tryd.ntmps31
  go_wp2
  go_loop [3] (fun i => ∃ k : Nat, k ≤ t.size ∧ i = .int .i64 k ∧ Hid (∀ j, j < k → byteAt t j ≠ 94 ∧ byteAt t j ≠ 36)) (fun i => t.size - (intOf i).toNat)
  case atStart => exact ⟨0, by omega, rfl, fun j hj => by omega⟩
  case round =>
    obtain ⟨k, hk, rfl, hB⟩ := hrel
    by_cases hlt : k < t.size
    · have g1 : (k : Int) < t.size := by omega
      by_cases h94 : t[k] = 94
      · go_wp2
        go_ret
        exact ⟨true, rfl, rfl, fun h => by cases h⟩
      · by_cases h36 : t[k] = 36
        · go_wp2
          go_ret
          exact ⟨true, rfl, rfl, fun h => by cases h⟩
        · have hM := byte_more hlt hB.out h94 h36
          have n94 : ¬ ((t[k].toNat : Int) = 94) := fun e => h94 (UInt8.toNat_inj.1 (show t[k].toNat = 94 by omega))
          have n36 : ¬ ((t[k].toNat : Int) = 36) := fun e => h36 (UInt8.toNat_inj.1 (show t[k].toNat = 36 by omega))
          have b94 : ((t[k].toNat : Int) == 94) = false := by simpa using n94
          have b36 : ((t[k].toNat : Int) == 36) = false := by simpa using n36
          clear n94 n36 h94 h36
          go_wp2
          go_round
          case rel => exact ⟨k + 1, by omega, by go_num, hM⟩
          case measure => simp [intOf]; omega
    · have g1 : ¬ ((k : Int) < t.size) := by omega
      have hM : NoAnc t := fun j => by
        by_cases hj : j < k
        · exact hB.out j hj
        · rw [byteAt_out (by omega)]; exact ⟨by decide, by decide⟩
      go_wp2
      go_ret
      exact ⟨false, rfl, rfl, fun _ => hM⟩

end Go.Proofs.YticaoekmlaipnaaDoor
