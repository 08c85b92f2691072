import Derived.Test.YtmolfmgchbjnbaaGreatDoorM19
import Derived.Test.YtmolfmgchbjnbaaGreatDoorM44
set_option linter.unusedSimpArgs false
set_option linter.unusedVariables false
namespace Go.Proofs.YtmolfmgchbjnbaaGreatDoor
open Wire Flow
theorem count_read : Ev.modR 0 [] 0 [] 1 1 countM.fns.length (fnsV countM) (Ev.evF Tryz.prog 2 2000 (Ev.bothX 58 328) 100 31 [.string ⟨Ev.countB.toArray⟩] (Ev.hs0 Ev.signs)) = true := by kernel_rfl
theorem toggle_read : Ev.modR 0 [] 0 [] 1 1 toggleM.fns.length (fnsV toggleM) (Ev.evF Tryz.prog 2 2000 (Ev.bothX 58 328) 100 31 [.string ⟨Ev.toggleB.toArray⟩] (Ev.hs0 Ev.signs)) = true := by kernel_rfl
end Go.Proofs.YtmolfmgchbjnbaaGreatDoor
