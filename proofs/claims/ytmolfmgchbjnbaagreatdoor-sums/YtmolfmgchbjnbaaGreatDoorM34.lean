import Derived.Test.YtmolfmgchbjnbaaGreatDoorM30
set_option linter.unusedSimpArgs false
set_option linter.unusedVariables false
set_option maxRecDepth 100000
set_option maxHeartbeats 40000000
namespace Go.Proofs.YtmolfmgchbjnbaaGreatDoor
namespace Tok
open Ev
theorem bad_c21:BadAt 42 21:=by intro s1 s2 n1 a;cases s1 <;> cases s2 <;> kernel_rfl
theorem bad_c22:BadAt 42 22:=by intro s1 s2 n1 a;cases s1 <;> cases s2 <;> kernel_rfl
theorem bad_c23:BadAt 42 23:=by intro s1 s2 n1 a;cases s1 <;> cases s2 <;> kernel_rfl
theorem bad_c24:BadAt 42 24:=by intro s1 s2 n1 a;cases s1 <;> cases s2 <;> kernel_rfl
theorem bad_c25:BadAt 42 25:=by intro s1 s2 n1 a;cases s1 <;> cases s2 <;> kernel_rfl
theorem bad_c26:BadAt 42 26:=by intro s1 s2 n1 a;cases s1 <;> cases s2 <;> kernel_rfl
theorem bad_c27:BadAt 42 27:=by intro s1 s2 n1 a;cases s1 <;> cases s2 <;> kernel_rfl
theorem bad_c28:BadAt 42 28:=by intro s1 s2 n1 a;cases s1 <;> cases s2 <;> kernel_rfl
theorem bad_c29:BadAt 42 29:=by intro s1 s2 n1 a;cases s1 <;> cases s2 <;> kernel_rfl
theorem bad_c30:BadAt 42 30:=by intro s1 s2 n1 a;cases s1 <;> cases s2 <;> kernel_rfl
theorem bad_c31:BadAt 42 31:=by intro s1 s2 n1 a;cases s1 <;> cases s2 <;> kernel_rfl
theorem bad_c:BadIs 42:=badIs bad_c21 bad_c22 bad_c23 bad_c24 bad_c25 bad_c26 bad_c27 bad_c28 bad_c29 bad_c30 bad_c31
end Tok
end Go.Proofs.YtmolfmgchbjnbaaGreatDoor
