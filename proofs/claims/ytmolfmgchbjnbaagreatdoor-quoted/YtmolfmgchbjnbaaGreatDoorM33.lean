import Derived.Test.YtmolfmgchbjnbaaGreatDoorM32
set_option linter.unusedSimpArgs false
set_option linter.unusedVariables false
set_option linter.unusedSectionVars false
set_option maxRecDepth 100000
set_option maxHeartbeats 40000000
open _root_.Go.Proofs.Tryz
namespace Go.Proofs.YtmolfmgchbjnbaaGreatDoor
open Go.RowKit
open Wire
namespace Tok
open Ev
def prL:List Ln:=[(1,[0]),(44,[1]),(52,[])]
def prFs:List Wire.Fn:=[⟨0,0,lnsC prL⟩,endF,endF]
def caL (j k:Int):List Ln:=[(1,[0]),(45,[]),(6,[0]),(47,[]),(5,[0]),(27,[]),(1,[j]),(25,[]),(45,[]),(6,[1]),(47,[]),(5,[1]),(27,[]),(39,[]),(27,[]),(5,[1]),(27,[]),(5,[1]),(1,[k]),(31,[]),(27,[]),(44,[3]),(52,[])]
def caFs (j k:Int):List Wire.Fn:=[⟨0,0,lnsC (caL j k)⟩,endF,endF]
theorem pr_is (t:ByteArray)(a:Nat):modOf prog f28 (prT t a)=some (symL [0],0,prFs.flatMap fnC):=by kernel_rfl
def CaIs (i j k n2 n3:Nat) (l:List Nat):Prop:=∀ (t1 t2 t3:ByteArray) (a b c:Nat),modOf prog f28 (caT i j k t1 t2 t3 a b c)=some (symL l,2,(caFs n2 n3).flatMap fnC)
theorem ca_0:CaIs 0 0 0 0 0 [0]:=by intro t1 t2 t3 a b c;kernel_rfl
theorem ca_1:CaIs 0 1 1 1 1 [0,1]:=by intro t1 t2 t3 a b c;kernel_rfl
theorem ca_2:CaIs 0 0 1 0 1 [0,1]:=by intro t1 t2 t3 a b c;kernel_rfl
theorem ca_3:CaIs 0 1 2 1 2 [0,1,2]:=by intro t1 t2 t3 a b c;kernel_rfl
end Tok
end Go.Proofs.YtmolfmgchbjnbaaGreatDoor
