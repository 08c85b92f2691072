import Derived.Test.YtmolfmgchbjnbaaGreatDoorM05
import Derived.Test.YtmolfmgchbjnbaaGreatDoorM27
set_option linter.unusedSimpArgs false
set_option linter.unusedVariables false
set_option linter.unusedSectionVars false
set_option maxRecDepth 100000
set_option maxHeartbeats 40000000
namespace Go.Proofs.YtmolfmgchbjnbaaGreatDoor
open Go.RowKit
open Wire Flow
theorem Ev.Kept.fr {w w':WL}(h:Ev.Kept w w'):Fr [] w w':=⟨h.os,h.tape,h.output,h.size,fun k hk _=>h.blk k hk⟩
theorem Fr.kept {w w':WL}(h:Fr [] w w'):Ev.Kept w w':=⟨h.os,h.tape,h.output,h.size,fun k hk=>h.block k hk (by simp)⟩
theorem flat_get {α β:Type}{f:α→List β}{z:Nat} (hf:∀ x,(f x).length=z):∀ {l:List α}{i:Nat}{x:α}{j:Nat},l[i]?=some x→j<z→(l.flatMap f)[i*z+j]?=(f x)[j]?
 | [],i,x,j,h,_=>by simp at h
 | a :: l,0,x,j,h,hj=>by
  simp only[List.getElem?_cons_zero,Option.some.injEq] at h
  subst h
  rw[List.flatMap_cons,List.getElem?_append_left (by rw[hf];omega),Nat.zero_mul,Nat.zero_add]
 | a :: l,i+1,x,j,h,hj=>by
  rw[List.getElem?_cons_succ] at h
  rw[List.flatMap_cons,List.getElem?_append_right (by rw[hf,Nat.succ_mul];omega),hf,show (i+1)*z+j-z=i*z+j by rw[Nat.succ_mul];omega]
  exact flat_get hf h hj
def fnsV (m:Mo):LV:=m.fns.flatMap fnC
def insC (p:Stp × Nat):LV:=[.int .u8 (p.1.op:Nat),.int .i64 (p.1.pl:Nat),.int .i64 (min p.1.a 2000000000:Nat),.int .i64 (min p.1.b 2000000000:Nat),.int .i64 (p.2:Nat)]
end Go.Proofs.YtmolfmgchbjnbaaGreatDoor
