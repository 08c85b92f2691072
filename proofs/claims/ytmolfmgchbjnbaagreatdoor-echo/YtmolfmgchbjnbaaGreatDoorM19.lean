import Derived.Test.YtmolfmgchbjnbaaGreatDoorM17
import Derived.Test.YtmolfmgchbjnbaaGreatDoorM16
set_option linter.unusedSimpArgs false
set_option linter.unusedVariables false
namespace Go.Proofs.YtmolfmgchbjnbaaGreatDoor.Ev
open Go
theorem every_read : modR 0 [] 0 [] 0 0 3 [.int .i64 0, .int .i64 0, .string ⟨#[52]⟩, .int .i64 0, .int .i64 0, .string ⟨#[0, 0, 7, 27, 44, 1, 52]⟩, .int .i64 0, .int .i64 0, .string ⟨#[52]⟩] (evF Tryz.prog 2 2000 (cloneX 58) 100 31 [.string ⟨everyB.toArray⟩] (hs0 signs)) = true := by kernel_rfl
theorem last_read : modR 0 [] 0 [] 0 0 3 [.int .i64 0, .int .i64 0, .string ⟨#[52]⟩, .int .i64 0, .int .i64 0, .string ⟨#[52]⟩, .int .i64 0, .int .i64 0, .string ⟨#[10, 27, 44, 1, 0, 0, 7, 27, 44, 1, 52]⟩] (evF Tryz.prog 2 2000 (cloneX 58) 100 31 [.string ⟨lastB.toArray⟩] (hs0 signs)) = true := by kernel_rfl
end Go.Proofs.YtmolfmgchbjnbaaGreatDoor.Ev
