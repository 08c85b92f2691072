import Derived.Test.YtmolfmgchbjnbaaGreatDoorM30
set_option linter.unusedSimpArgs false
set_option linter.unusedVariables false
set_option maxRecDepth 100000
set_option maxHeartbeats 40000000
namespace Go.Proofs.YtmolfmgchbjnbaaGreatDoor
namespace Tok
open Ev
theorem bad_e21:BadAt 37 21:=by intro s1 s2 n1 a;cases s1 <;> cases s2 <;> kernel_rfl
theorem bad_e22:BadAt 37 22:=by intro s1 s2 n1 a;cases s1 <;> cases s2 <;> kernel_rfl
theorem bad_e23:BadAt 37 23:=by intro s1 s2 n1 a;cases s1 <;> cases s2 <;> kernel_rfl
theorem bad_e24:BadAt 37 24:=by intro s1 s2 n1 a;cases s1 <;> cases s2 <;> kernel_rfl
theorem bad_e25:BadAt 37 25:=by intro s1 s2 n1 a;cases s1 <;> cases s2 <;> kernel_rfl
theorem bad_e26:BadAt 37 26:=by intro s1 s2 n1 a;cases s1 <;> cases s2 <;> kernel_rfl
theorem bad_e27:BadAt 37 27:=by intro s1 s2 n1 a;cases s1 <;> cases s2 <;> kernel_rfl
theorem bad_e28:BadAt 37 28:=by intro s1 s2 n1 a;cases s1 <;> cases s2 <;> kernel_rfl
theorem bad_e29:BadAt 37 29:=by intro s1 s2 n1 a;cases s1 <;> cases s2 <;> kernel_rfl
theorem bad_e30:BadAt 37 30:=by intro s1 s2 n1 a;cases s1 <;> cases s2 <;> kernel_rfl
theorem bad_e31:BadAt 37 31:=by intro s1 s2 n1 a;cases s1 <;> cases s2 <;> kernel_rfl
theorem bad_e:BadIs 37:=badIs bad_e21 bad_e22 bad_e23 bad_e24 bad_e25 bad_e26 bad_e27 bad_e28 bad_e29 bad_e30 bad_e31
end Tok
end Go.Proofs.YtmolfmgchbjnbaaGreatDoor
