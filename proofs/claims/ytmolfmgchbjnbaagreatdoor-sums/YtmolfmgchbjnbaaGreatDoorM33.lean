import Derived.Test.YtmolfmgchbjnbaaGreatDoorM30
set_option linter.unusedSimpArgs false
set_option linter.unusedVariables false
set_option maxRecDepth 100000
set_option maxHeartbeats 40000000
namespace Go.Proofs.YtmolfmgchbjnbaaGreatDoor
namespace Tok
open Ev
theorem bad_b21:BadAt 45 21:=by intro s1 s2 n1 a;cases s1 <;> cases s2 <;> kernel_rfl
theorem bad_b22:BadAt 45 22:=by intro s1 s2 n1 a;cases s1 <;> cases s2 <;> kernel_rfl
theorem bad_b23:BadAt 45 23:=by intro s1 s2 n1 a;cases s1 <;> cases s2 <;> kernel_rfl
theorem bad_b24:BadAt 45 24:=by intro s1 s2 n1 a;cases s1 <;> cases s2 <;> kernel_rfl
theorem bad_b25:BadAt 45 25:=by intro s1 s2 n1 a;cases s1 <;> cases s2 <;> kernel_rfl
theorem bad_b26:BadAt 45 26:=by intro s1 s2 n1 a;cases s1 <;> cases s2 <;> kernel_rfl
theorem bad_b27:BadAt 45 27:=by intro s1 s2 n1 a;cases s1 <;> cases s2 <;> kernel_rfl
theorem bad_b28:BadAt 45 28:=by intro s1 s2 n1 a;cases s1 <;> cases s2 <;> kernel_rfl
theorem bad_b29:BadAt 45 29:=by intro s1 s2 n1 a;cases s1 <;> cases s2 <;> kernel_rfl
theorem bad_b30:BadAt 45 30:=by intro s1 s2 n1 a;cases s1 <;> cases s2 <;> kernel_rfl
theorem bad_b31:BadAt 45 31:=by intro s1 s2 n1 a;cases s1 <;> cases s2 <;> kernel_rfl
theorem bad_b:BadIs 45:=badIs bad_b21 bad_b22 bad_b23 bad_b24 bad_b25 bad_b26 bad_b27 bad_b28 bad_b29 bad_b30 bad_b31
end Tok
end Go.Proofs.YtmolfmgchbjnbaaGreatDoor
