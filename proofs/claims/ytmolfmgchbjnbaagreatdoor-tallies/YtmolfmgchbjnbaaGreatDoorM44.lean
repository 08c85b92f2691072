import Derived.Test.YtmolfmgchbjnbaaGreatDoorM43
set_option linter.unusedSimpArgs false
set_option linter.unusedVariables false
namespace Go.Proofs.YtmolfmgchbjnbaaGreatDoor
open Wire Flow
def fTell : Wire.Fn := ⟨0, 0, ⟨#[16, 0, 17, 19, 6, 0, 5, 0, 27, 5, 0, 27, 11, 0, 27, 44, 2, 48, 2, 52]⟩⟩
def countM : Mo := ⟨[], [], 1, 1, [fEnd, ⟨0, 0, ⟨#[0, 2, 7, 27, 45, 11, 0, 26, 0, 2, 18, 46, 12, 0, 47, 52]⟩⟩, fTell]⟩
def toggleM : Mo := ⟨[], [], 1, 1, [fEnd, ⟨0, 0, ⟨#[0, 2, 7, 27, 13, 0, 49, 16, 0, 2, 7, 27, 14, 0, 48, 25, 0, 2, 7, 27, 10, 46, 12, 0, 47, 52]⟩⟩, fTell]⟩
def tellG : List (Option (List UInt8)) := [some [], some [107], some [107, 116], some [107], some [107, 97], some [107, 116], some [107, 116, 97], some [107, 116, 116], some [107, 116, 97], some [107, 116, 116], some [107], some []]
theorem count_f0 : fnB countM 0 (codeL countM 0) [some []] = true := by kernel_rfl
theorem count_f1 : fnB countM 1 (codeL countM 1) [some [], some [110], some [97], some [116], some [116, 116], some [116, 97], some [116, 110], some [116, 110, 110], some [116, 110], some [110, 116, 110], some [110], some []] = true := by kernel_rfl
theorem count_f2 : fnB countM 2 (codeL countM 2) tellG = true := by kernel_rfl
theorem count_r0 : ReadsB countM 1 1 0 := by unfold ReadsB; kernel_rfl
theorem count_r1 : ReadsB countM 1 1 1 := by unfold ReadsB; kernel_rfl
theorem count_r2 : ReadsB countM 1 1 2 := by unfold ReadsB; kernel_rfl
theorem toggle_f0 : fnB toggleM 0 (codeL toggleM 0) [some []] = true := by kernel_rfl
theorem toggle_f1 : fnB toggleM 1 (codeL toggleM 1) [some [], some [110], some [97], some [116], some [110], some [], some [110], some [97], some [116], some [], some [], some [110], some [97], some [116], some [116, 110], some [110, 116, 110], some [110], some []] = true := by kernel_rfl
theorem toggle_f2 : fnB toggleM 2 (codeL toggleM 2) tellG = true := by kernel_rfl
theorem toggle_r0 : ReadsB toggleM 1 1 0 := by unfold ReadsB; kernel_rfl
theorem toggle_r1 : ReadsB toggleM 1 1 1 := by unfold ReadsB; kernel_rfl
theorem toggle_r2 : ReadsB toggleM 1 1 2 := by unfold ReadsB; kernel_rfl
theorem count_closed : Closed countM 1 1 where
 tx := rfl
 pt := rfl
 gl := rfl
 ar := rfl
 g1 := by decide
 a1 := by decide
 three := by decide
 many := by decide
 facts := three_cases (fnFacts count_f0) (fnFacts count_f1) (fnFacts count_f2)
 par := by
  intro x hx
  simp only [countM, List.mem_cons, List.not_mem_nil, or_false] at hx
  rcases hx with rfl | rfl | rfl <;> decide
 rd := three_cases count_r0 count_r1 count_r2
theorem toggle_closed : Closed toggleM 1 1 where
 tx := rfl
 pt := rfl
 gl := rfl
 ar := rfl
 g1 := by decide
 a1 := by decide
 three := by decide
 many := by decide
 facts := three_cases (fnFacts toggle_f0) (fnFacts toggle_f1) (fnFacts toggle_f2)
 par := by
  intro x hx
  simp only [toggleM, List.mem_cons, List.not_mem_nil, or_false] at hx
  rcases hx with rfl | rfl | rfl <;> decide
 rd := three_cases toggle_r0 toggle_r1 toggle_r2
end Go.Proofs.YtmolfmgchbjnbaaGreatDoor
