/-
  knows: the program knows patterns.
-/
import Derived.Test.YticaoekmlaipnaaDoorXb
set_option linter.unusedSimpArgs false
set_option linter.unusedVariables false
namespace Go.Proofs.YticaoekmlaipnaaDoor
open Go.RowKit

theorem know1 : readOk ⟨#[98, 43]⟩ = true := by kernel_rfl
theorem know2 : findL (endF (readF ⟨#[98, 43]⟩).1 (readF ⟨#[98, 43]⟩).2.tk (readF ⟨#[98, 43]⟩).2.fo ⟨#[97, 98, 98, 99]⟩) 5 0 = (1, 2) := by kernel_rfl
theorem know3 : readOk ⟨#[97, 41]⟩ = false := by kernel_rfl
theorem know4 : (readF ⟨#[97, 41]⟩).2.pos = 1 := by kernel_rfl

set_option maxRecDepth 100000 in
set_option maxHeartbeats 400000 in
theorem knows_any (w : World) (hT : Tab w) : Calls Tryd.prog 7 #[] w fun e w' => e = .returned (.bool true) ∧ Fr [] w w' := by
  have hf := find_ok ⟨#[98, 43]⟩ ⟨#[97, 98, 98, 99]⟩ 0 w (by decide) (by decide) hT know1 (by decide)
  rw [show (ByteArray.mk #[97, 98, 98, 99]).size + 1 - 0 = 5 from rfl, know2] at hf
  have hl := fun (w1 : World) (h : Tab w1) => look_bad ⟨#[97, 41]⟩ w1 (by decide) h know3
  rw [know4] at hl
  have Hl : Hid _ := hl
  clear hl
  go_enter Tryd.func7, Tryd.ntmps7
  go_wp2_with fail
  refine hf.mono ?_
  rintro e w1 ⟨rfl, f1⟩
  clear hf
  have hl := Hl.out w1 (hT.fr f1 (by simp))
  go_wp2_with fail
  refine hl.mono ?_
  rintro e w2 ⟨rfl, f2⟩
  go_wp2
  go_ret
  exact ⟨rfl, f1.trans f2⟩

end Go.Proofs.YticaoekmlaipnaaDoor
