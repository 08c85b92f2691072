import Derived.Test.YtmolfmgchbjnbaaGreatDoorM43
set_option linter.unusedSimpArgs false
set_option linter.unusedVariables false
namespace Go.Proofs.YtmolfmgchbjnbaaGreatDoor
namespace Mach
open Wire Flow
section
variable {E : Env}
end
end Mach
end Go.Proofs.YtmolfmgchbjnbaaGreatDoor
namespace Go.Proofs.YtmolfmgchbjnbaaGreatDoor
namespace Mach
open Wire Flow
def line (out s : ByteArray) : ByteArray := ⟨out.data ++ (bl s ++ [10]).toArray⟩
theorem line_size (out s : ByteArray) : (line out s).size = out.size + s.size + 1 := by
 show (out.data ++ (bl s ++ [10]).toArray).size = _
 have : (bl s).length = s.size := bl_length s
 simp only [Array.size_append, List.size_toArray, List.length_append, this]
 show out.data.size + (s.size + 1) = out.data.size + s.size + 1
 omega
section
variable {E : Env}
end
end Mach
end Go.Proofs.YtmolfmgchbjnbaaGreatDoor
