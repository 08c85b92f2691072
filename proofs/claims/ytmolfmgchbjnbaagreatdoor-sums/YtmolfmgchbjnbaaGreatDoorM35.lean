import Derived.Test.YtmolfmgchbjnbaaGreatDoorM30
set_option linter.unusedSimpArgs false
set_option linter.unusedVariables false
set_option maxRecDepth 100000
set_option maxHeartbeats 40000000
namespace Go.Proofs.YtmolfmgchbjnbaaGreatDoor
namespace Tok
open Ev
theorem bad_d21:BadAt 47 21:=by intro s1 s2 n1 a;cases s1 <;> cases s2 <;> kernel_rfl
theorem bad_d22:BadAt 47 22:=by intro s1 s2 n1 a;cases s1 <;> cases s2 <;> kernel_rfl
theorem bad_d23:BadAt 47 23:=by intro s1 s2 n1 a;cases s1 <;> cases s2 <;> kernel_rfl
theorem bad_d24:BadAt 47 24:=by intro s1 s2 n1 a;cases s1 <;> cases s2 <;> kernel_rfl
theorem bad_d25:BadAt 47 25:=by intro s1 s2 n1 a;cases s1 <;> cases s2 <;> kernel_rfl
theorem bad_d26:BadAt 47 26:=by intro s1 s2 n1 a;cases s1 <;> cases s2 <;> kernel_rfl
theorem bad_d27:BadAt 47 27:=by intro s1 s2 n1 a;cases s1 <;> cases s2 <;> kernel_rfl
theorem bad_d28:BadAt 47 28:=by intro s1 s2 n1 a;cases s1 <;> cases s2 <;> kernel_rfl
theorem bad_d29:BadAt 47 29:=by intro s1 s2 n1 a;cases s1 <;> cases s2 <;> kernel_rfl
theorem bad_d30:BadAt 47 30:=by intro s1 s2 n1 a;cases s1 <;> cases s2 <;> kernel_rfl
theorem bad_d31:BadAt 47 31:=by intro s1 s2 n1 a;cases s1 <;> cases s2 <;> kernel_rfl
theorem bad_d:BadIs 47:=badIs bad_d21 bad_d22 bad_d23 bad_d24 bad_d25 bad_d26 bad_d27 bad_d28 bad_d29 bad_d30 bad_d31
end Tok
end Go.Proofs.YtmolfmgchbjnbaaGreatDoor
