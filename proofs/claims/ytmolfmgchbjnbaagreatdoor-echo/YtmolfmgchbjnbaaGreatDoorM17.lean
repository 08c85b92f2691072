import Derived.Test.YtmolfmgchbjnbaaGreatDoorProg
import Derived.KernelRfl
import Derived.Test.YtmolfmgchbjnbaaGreatDoorM15
set_option linter.unusedSimpArgs false
set_option linter.unusedVariables false
namespace Go.Proofs.YtmolfmgchbjnbaaGreatDoor.Ev
open Go
def signs : List ByteArray := [⟨#[60, 61]⟩, ⟨#[61, 61]⟩, ⟨#[33, 61]⟩, ⟨#[62, 61]⟩, ⟨#[33, 126]⟩, ⟨#[38, 38]⟩, ⟨#[124, 124]⟩, ⟨#[43, 61]⟩, ⟨#[45, 61]⟩, ⟨#[42, 61]⟩, ⟨#[47, 61]⟩, ⟨#[37, 61]⟩, ⟨#[43]⟩, ⟨#[45]⟩, ⟨#[42]⟩, ⟨#[47]⟩, ⟨#[37]⟩, ⟨#[46]⟩, ⟨#[60]⟩, ⟨#[62]⟩, ⟨#[126]⟩, ⟨#[33]⟩, ⟨#[63]⟩, ⟨#[58]⟩, ⟨#[61]⟩, ⟨#[40]⟩, ⟨#[41]⟩, ⟨#[91]⟩, ⟨#[93]⟩, ⟨#[123]⟩, ⟨#[125]⟩, ⟨#[44]⟩, ⟨#[59]⟩, ⟨#[36]⟩]
theorem mixed : Tryz.prog.follows .mixedOrders = true := by kernel_rfl
def everyS : ByteArray := ⟨#[123, 32, 112, 114, 105, 110, 116, 32, 36, 48, 59, 32, 125]⟩
def everyB : List UInt8 := [71, 76, 1, 1, 1, 0, 2, 1, 0, 3, 1, 0, 4, 1, 0, 5, 19, 3, 0, 0, 1, 52, 0, 0, 7, 0, 0, 7, 27, 44, 1, 52, 0, 0, 1, 52, 213, 23, 7]
theorem every_ev : threeR everyB 0 0 (evF Tryz.prog 2 2000 noX 100 19 [.string everyS] (hs0 signs)) = true := by kernel_rfl
theorem every_compiles {w : World} (ht : TabS signs w) : Calls Tryz.prog 19 #[.string everyS] w fun e w' => e = .returned (.tuple #[.string ⟨everyB.toArray⟩, .int .i64 ((0 : Nat) : Int), .int .i64 ((0 : Nat) : Int)]) ∧ Kept w w' :=
  closed3 mixed ht (args := [.string everyS]) rfl every_ev
def lastS : ByteArray := ⟨#[69, 78, 68, 32, 123, 32, 112, 114, 105, 110, 116, 32, 78, 82, 59, 32, 112, 114, 105, 110, 116, 59, 32, 125]⟩
def lastB : List UInt8 := [71, 76, 1, 1, 1, 0, 2, 1, 0, 3, 1, 0, 4, 1, 0, 5, 23, 3, 0, 0, 1, 52, 0, 0, 1, 52, 0, 0, 11, 10, 27, 44, 1, 0, 0, 7, 27, 44, 1, 52, 103, 78, 5]
theorem last_ev : threeR lastB 0 0 (evF Tryz.prog 2 2000 noX 100 19 [.string lastS] (hs0 signs)) = true := by kernel_rfl
theorem last_compiles {w : World} (ht : TabS signs w) : Calls Tryz.prog 19 #[.string lastS] w fun e w' => e = .returned (.tuple #[.string ⟨lastB.toArray⟩, .int .i64 ((0 : Nat) : Int), .int .i64 ((0 : Nat) : Int)]) ∧ Kept w w' :=
  closed3 mixed ht (args := [.string lastS]) rfl last_ev
end Go.Proofs.YtmolfmgchbjnbaaGreatDoor.Ev
