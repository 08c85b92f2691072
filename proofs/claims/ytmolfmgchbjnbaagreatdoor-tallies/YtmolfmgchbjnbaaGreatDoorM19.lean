import Derived.Test.YtmolfmgchbjnbaaGreatDoorM17
set_option linter.unusedSimpArgs false
set_option linter.unusedVariables false
namespace Go.Proofs.YtmolfmgchbjnbaaGreatDoor.Ev
open Go
def countS : ByteArray := ⟨#[123, 32, 110, 91, 36, 49, 93, 32, 43, 61, 32, 49, 59, 32, 125, 32, 69, 78, 68, 32, 123, 32, 102, 111, 114, 32, 40, 107, 32, 105, 110, 32, 110, 41, 32, 112, 114, 105, 110, 116, 32, 107, 44, 32, 110, 91, 107, 93, 59, 32, 125]⟩
def countB : List UInt8 := [71, 76, 1, 1, 1, 0, 2, 1, 0, 3, 1, 1, 4, 1, 1, 5, 47, 3, 0, 0, 1, 52, 0, 0, 16, 0, 2, 7, 27, 45, 11, 0, 26, 0, 2, 18, 46, 12, 0, 47, 52, 0, 0, 20, 16, 0, 17, 19, 6, 0, 5, 0, 27, 5, 0, 27, 11, 0, 27, 44, 2, 48, 2, 52, 12, 158, 1]
theorem count_ev : threeR countB 0 0 (evF Tryz.prog 2 2000 noX 100 19 [.string countS] (hs0 signs)) = true := by kernel_rfl
theorem count_compiles {w : World} (ht : TabS signs w) : Calls Tryz.prog 19 #[.string countS] w fun e w' => e = .returned (.tuple #[.string ⟨countB.toArray⟩, .int .i64 ((0 : Nat) : Int), .int .i64 ((0 : Nat) : Int)]) ∧ Kept w w' :=
 closed3 mixed ht (args := [.string countS]) rfl count_ev
def toggleS : ByteArray := ⟨#[123, 32, 105, 102, 32, 40, 36, 49, 32, 105, 110, 32, 110, 41, 32, 100, 101, 108, 101, 116, 101, 32, 110, 91, 36, 49, 93, 59, 32, 101, 108, 115, 101, 32, 110, 91, 36, 49, 93, 32, 61, 32, 78, 82, 59, 32, 125, 32, 69, 78, 68, 32, 123, 32, 102, 111, 114, 32, 40, 107, 32, 105, 110, 32, 110, 41, 32, 112, 114, 105, 110, 116, 32, 107, 44, 32, 110, 91, 107, 93, 59, 32, 125]⟩
def toggleB : List UInt8 := [71, 76, 1, 1, 1, 0, 2, 1, 0, 3, 1, 1, 4, 1, 1, 5, 57, 3, 0, 0, 1, 52, 0, 0, 26, 0, 2, 7, 27, 13, 0, 49, 16, 0, 2, 7, 27, 14, 0, 48, 25, 0, 2, 7, 27, 10, 46, 12, 0, 47, 52, 0, 0, 20, 16, 0, 17, 19, 6, 0, 5, 0, 27, 5, 0, 27, 11, 0, 27, 44, 2, 48, 2, 52, 144, 185, 7]
theorem toggle_ev : threeR toggleB 0 0 (evF Tryz.prog 2 2000 noX 100 19 [.string toggleS] (hs0 signs)) = true := by kernel_rfl
theorem toggle_compiles {w : World} (ht : TabS signs w) : Calls Tryz.prog 19 #[.string toggleS] w fun e w' => e = .returned (.tuple #[.string ⟨toggleB.toArray⟩, .int .i64 ((0 : Nat) : Int), .int .i64 ((0 : Nat) : Int)]) ∧ Kept w w' :=
 closed3 mixed ht (args := [.string toggleS]) rfl toggle_ev
end Go.Proofs.YtmolfmgchbjnbaaGreatDoor.Ev
