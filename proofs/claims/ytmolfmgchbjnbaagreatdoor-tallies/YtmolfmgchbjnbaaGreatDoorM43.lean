import Derived.KernelRfl
import Derived.Test.YtmolfmgchbjnbaaGreatDoorM41
set_option linter.unusedSimpArgs false
set_option linter.unusedVariables false
namespace Go.Proofs.YtmolfmgchbjnbaaGreatDoor
open Wire Flow
def fEnd : Wire.Fn := ⟨0, 0, ⟨#[52]⟩⟩
theorem three_cases {P : Nat → Prop} (h0 : P 0) (h1 : P 1) (h2 : P 2) : ∀ k, k < 3 → P k := by
 intro k hk
 rcases (show k = 0 ∨ k = 1 ∨ k = 2 by omega) with rfl | rfl | rfl
 ·exact h0
 ·exact h1
 ·exact h2
end Go.Proofs.YtmolfmgchbjnbaaGreatDoor
