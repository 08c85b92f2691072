/-
  stands, escaped: the statement's own small functions.
-/
import Derived.Test.YticaoekmlaipnaaDoorWy
import Derived.Test.YticaoekmlaipnaaDoorPf
import Derived.Laws.Concat
set_option linter.unusedSimpArgs false
set_option linter.unusedVariables false
namespace Go.Proofs.YticaoekmlaipnaaDoor
open Go.RowKit

theorem eq_str (a b : ByteArray) : (a.toList == b.toList) = decide (a = b) := by
  rw [ByteArray.toList_eq, ByteArray.toList_eq, Bool.eq_iff_iff]
  simp only [beq_iff_eq, decide_eq_true_eq]
  exact ⟨fun h => ByteArray.ext (Array.toList_inj.1 h), fun h => by rw [h]⟩

theorem extract_eq_iff (lit x : ByteArray) (i : Nat) (h : i + lit.size ≤ x.size) : x.extract i (i + lit.size) = lit ↔ mt lit x 0 i := by
  rw [mt_iff]
  have hs : (x.extract i (i + lit.size)).size = lit.size := by rw [ByteArray.size_extract]; omega
  constructor
  · intro e
    refine ⟨by omega, fun j hj => ?_⟩
    rw [← byteN_extract x i (i + lit.size) j (by omega) h, e, Nat.zero_add]
  · rintro ⟨_, h2⟩
    refine ByteArray.ext_getElem hs (fun j hj hj' => ?_)
    have e := h2 j (by omega)
    rw [← byteN_extract x i (i + lit.size) j (by omega) h, Nat.zero_add] at e
    unfold byteN at e
    rw [dif_pos hj, dif_pos hj'] at e
    exact UInt8.toNat_inj.1 e

set_option maxRecDepth 100000 in
set_option maxHeartbeats 400000 in
theorem stands_any (lit x : ByteArray) (i : Nat) (hl : lit.size ≤ 100) (hx : x.size ≤ 100) (hi : i ≤ 100) (w : World) :
    Calls Tryd.prog 27 #[.string lit, .string x, .int .i64 i] w fun e w' => e = .returned (.bool (mtB lit x 0 i)) ∧ w' = w := by
  have g0 : (0 : Int) ≤ (i : Int) := by omega
  by_cases h : i + lit.size ≤ x.size
  · have g1 : (i : Int) + lit.size ≤ x.size := by omega
    go_enter Tryd.func27, Tryd.ntmps27
    go_wp2
    go_ret
    refine ⟨?_, rfl⟩
    have := extract_eq_iff lit x i h
    have e2 : mtB lit x 0 i = ((x.extract i (i + lit.size)).toList == lit.toList) := by
      rw [eq_str, Bool.eq_iff_iff, decide_eq_true_iff]
      exact this.symm
    rw [e2]
    rfl
  · have g1 : ¬ ((i : Int) + lit.size ≤ x.size) := by omega
    go_enter Tryd.func27, Tryd.ntmps27
    go_wp2
    go_ret
    refine ⟨?_, rfl⟩
    have e2 : mtB lit x 0 i = false := Bool.eq_false_iff.2 (fun m : mt lit x 0 i => h (by have := (mt_iff.1 m).1; omega))
    rw [e2]
    rfl

set_option maxRecDepth 100000 in
set_option maxHeartbeats 400000 in
theorem escaped_any (lit : ByteArray) (hl : lit.size ≤ 140737488355328) (w : World) :
    Calls Tryd.prog 8 #[.string lit] w fun e w' => e = .returned (.string (escN lit lit.size)) ∧ w' = w := by
  go_enter Tryd.func8, Tryd.ntmps8
  go_wp2
  go_loop [3, 4] (fun a i => ∃ k : Nat, k ≤ lit.size ∧ a = .string (escN lit k) ∧ i = .int .i64 k) (fun _ i => lit.size - (intOf i).toNat)
  case atStart => exact ⟨0, by omega, rfl, rfl⟩
  case round =>
    obtain ⟨k, hk, rfl, rfl⟩ := hrel
    have hs := escN_size lit k hk
    by_cases hlt : k < lit.size
    · have g1 : (k : Int) < lit.size := by omega
      have b1 : (ByteArray.mk #[92]).size = 1 := rfl
      have b2 : (escN lit k ++ ⟨#[92]⟩).size = 2 * k + 1 := by rw [ByteArray.size_append, hs]; rfl
      have b3 : (lit.extract k (k + 1)).size = 1 := by rw [ByteArray.size_extract]; omega
      have g2 : (escN lit k).size + 1 ≤ 9223372036854775807 := by omega
      go_wp2
      go_round
      case rel => exact ⟨k + 1, by omega, rfl, by go_num⟩
      case measure => simp [intOf]; omega
    · have g1 : ¬ ((k : Int) < lit.size) := by omega
      obtain rfl : k = lit.size := by omega
      go_wp2
      go_ret
      exact ⟨rfl, rfl⟩

end Go.Proofs.YticaoekmlaipnaaDoor
