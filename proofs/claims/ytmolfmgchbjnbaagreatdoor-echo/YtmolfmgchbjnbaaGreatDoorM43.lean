import Derived.KernelRfl
import Derived.Test.YtmolfmgchbjnbaaGreatDoorM41
set_option linter.unusedSimpArgs false
set_option linter.unusedVariables false
namespace Go.Proofs.YtmolfmgchbjnbaaGreatDoor
open Wire Flow
def fEnd : Wire.Fn := ⟨0, 0, ⟨#[52]⟩⟩
def everyM : Mo := ⟨[], [], 0, 0, [fEnd, ⟨0, 0, ⟨#[0, 0, 7, 27, 44, 1, 52]⟩⟩, fEnd]⟩
def lastM : Mo := ⟨[], [], 0, 0, [fEnd, fEnd, ⟨0, 0, ⟨#[10, 27, 44, 1, 0, 0, 7, 27, 44, 1, 52]⟩⟩]⟩
theorem every_f0 : fnB everyM 0 (codeL everyM 0) [some []] = true := by kernel_rfl
theorem every_f1 : fnB everyM 1 (codeL everyM 1) [some [], some [110], some [97], some [116], some []] = true := by kernel_rfl
theorem every_f2 : fnB everyM 2 (codeL everyM 2) [some []] = true := by kernel_rfl
theorem every_r0 : ReadsB everyM 0 0 0 := by unfold ReadsB; kernel_rfl
theorem every_r1 : ReadsB everyM 0 0 1 := by unfold ReadsB; kernel_rfl
theorem every_r2 : ReadsB everyM 0 0 2 := by unfold ReadsB; kernel_rfl
theorem last_f0 : fnB lastM 0 (codeL lastM 0) [some []] = true := by kernel_rfl
theorem last_f1 : fnB lastM 1 (codeL lastM 1) [some []] = true := by kernel_rfl
theorem last_f2 : fnB lastM 2 (codeL lastM 2) [some [], some [110], some [116], some [], some [110], some [97], some [116], some []] = true := by kernel_rfl
theorem last_r0 : ReadsB lastM 0 0 0 := by unfold ReadsB; kernel_rfl
theorem last_r1 : ReadsB lastM 0 0 1 := by unfold ReadsB; kernel_rfl
theorem last_r2 : ReadsB lastM 0 0 2 := by unfold ReadsB; kernel_rfl
theorem three_cases {P : Nat → Prop} (h0 : P 0) (h1 : P 1) (h2 : P 2) : ∀ k, k < 3 → P k := by
  intro k hk
  rcases (show k = 0 ∨ k = 1 ∨ k = 2 by omega) with rfl | rfl | rfl
  · exact h0
  · exact h1
  · exact h2
theorem every_closed : Closed everyM 0 0 where
  tx := rfl
  pt := rfl
  gl := rfl
  ar := rfl
  g1 := by decide
  a1 := by decide
  three := by decide
  many := by decide
  facts := three_cases (fnFacts every_f0) (fnFacts every_f1) (fnFacts every_f2)
  par := by
    intro x hx
    simp only [everyM, List.mem_cons, List.not_mem_nil, or_false] at hx
    rcases hx with rfl | rfl | rfl <;> decide
  rd := three_cases every_r0 every_r1 every_r2
theorem last_closed : Closed lastM 0 0 where
  tx := rfl
  pt := rfl
  gl := rfl
  ar := rfl
  g1 := by decide
  a1 := by decide
  three := by decide
  many := by decide
  facts := three_cases (fnFacts last_f0) (fnFacts last_f1) (fnFacts last_f2)
  par := by
    intro x hx
    simp only [lastM, List.mem_cons, List.not_mem_nil, or_false] at hx
    rcases hx with rfl | rfl | rfl <;> decide
  rd := three_cases last_r0 last_r1 last_r2
end Go.Proofs.YtmolfmgchbjnbaaGreatDoor
