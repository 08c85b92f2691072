import Derived.Test.YtmolfmgchbjnbaaGreatDoorM30
set_option linter.unusedSimpArgs false
set_option linter.unusedVariables false
set_option maxRecDepth 100000
set_option maxHeartbeats 40000000
namespace Go.Proofs.YtmolfmgchbjnbaaGreatDoor
namespace Tok
open Ev
theorem bad_f21:BadAt 60 21:=by intro s1 s2 n1 a;cases s1 <;> cases s2 <;> kernel_rfl
theorem bad_f22:BadAt 60 22:=by intro s1 s2 n1 a;cases s1 <;> cases s2 <;> kernel_rfl
theorem bad_f23:BadAt 60 23:=by intro s1 s2 n1 a;cases s1 <;> cases s2 <;> kernel_rfl
theorem bad_f24:BadAt 60 24:=by intro s1 s2 n1 a;cases s1 <;> cases s2 <;> kernel_rfl
theorem bad_f25:BadAt 60 25:=by intro s1 s2 n1 a;cases s1 <;> cases s2 <;> kernel_rfl
theorem bad_f26:BadAt 60 26:=by intro s1 s2 n1 a;cases s1 <;> cases s2 <;> kernel_rfl
theorem bad_f27:BadAt 60 27:=by intro s1 s2 n1 a;cases s1 <;> cases s2 <;> kernel_rfl
theorem bad_f28:BadAt 60 28:=by intro s1 s2 n1 a;cases s1 <;> cases s2 <;> kernel_rfl
theorem bad_f29:BadAt 60 29:=by intro s1 s2 n1 a;cases s1 <;> cases s2 <;> kernel_rfl
theorem bad_f30:BadAt 60 30:=by intro s1 s2 n1 a;cases s1 <;> cases s2 <;> kernel_rfl
theorem bad_f31:BadAt 60 31:=by intro s1 s2 n1 a;cases s1 <;> cases s2 <;> kernel_rfl
theorem bad_f:BadIs 60:=badIs bad_f21 bad_f22 bad_f23 bad_f24 bad_f25 bad_f26 bad_f27 bad_f28 bad_f29 bad_f30 bad_f31
end Tok
end Go.Proofs.YtmolfmgchbjnbaaGreatDoor
