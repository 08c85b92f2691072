/-
  Texts Km Kn.
-/
import Derived.WalkKit
import Derived.ProofKit
import Derived.OpenShut
import Derived.SizedLaws
import Derived.ChangeMaps5
import Derived.Deep.DeepHandedRow
import Derived.Deep.Slices
import Derived.Lib.LaidTab
import Derived.LaidSub
import Derived.Lay
import Derived.Carry
import Derived.Test.YtclkgoigmgkffaaGreatDoorMA
import Derived.Test.YtclkgoigmgkffaaGreatDoorM43
set_option linter.unusedSimpArgs false
set_option linter.unusedVariables false
set_option maxRecDepth 100000
set_option maxHeartbeats 40000000
namespace Go.Proofs.YtclkgoigmgkffaaGreatDoor
open Go.ChangeShapes Go.WideShapes Go.ChangeAt Go.RowKit Go.ChangeMaps
open Wire Flow Mach
theorem cells5:Tryz.prog.cellsOf 5=1:=by kernel_rfl
theorem cells3:Tryz.prog.cellsOf 3=1:=by kernel_rfl
theorem cells9:Tryz.prog.cellsOf 9=1:=by kernel_rfl
theorem cells65:Tryz.prog.cellsOf 65=3:=by kernel_rfl
theorem cells30:Tryz.prog.cellsOf 30=5:=by kernel_rfl
theorem cells27:Tryz.prog.cellsOf 27=1:=by kernel_rfl
theorem cells28:Tryz.prog.cellsOf 28=1:=by kernel_rfl
theorem cells61:Tryz.prog.cellsOf 61=6:=by kernel_rfl
theorem bytes61:Tryz.prog.bytesOf 61=72:=by kernel_rfl
theorem i64_range {n:Int}(h:(Lit.int .i64 n).wf=true):-9223372036854775808≤n∧n≤9223372036854775807:=by
 simp[Lit.wf,IntKind.min,IntKind.max,IntKind.bits,IntKind.signed] at h
 omega
theorem range_get {α:Type}(n:Nat)(f:Nat→α)(i:Nat)(x:α)(h:((List.range n).map f)[i]?=some x):i<n∧x=f i:=by
 rw[List.getElem?_map] at h
 by_cases hi:i<n
 ·rw[List.getElem?_range hi] at h
  exact⟨hi,by simpa using h.symm⟩
 ·rw[List.getElem?_eq_none (by simp;omega)] at h
  cases h
theorem open_strs {H:Type}{enc:TypeId × Value→H}{W:World}{n:Nat}{v:Value}{x:DataW H × List MemPlace}
  (h:DataW.trod enc Tryz.prog W 0 (fun _=>true) true n 27 [v]=some x):∃ L:List ByteArray,StrsIn W v L∧L.length≤maxLen∧∀ s ∈ L,s.size≤maxLen:=by
 rcases Go.Deep.open_slice1 Tryz.underlying27 cells9 h with ⟨hcs,-⟩ | ⟨a,len,cap,m,k,V,D,Pl,hcs,-,hl,hm,hmm,-,hel⟩
 ·have hv:v=.slice none 0 0:=by simpa using hcs
  subst hv
  exact⟨[],⟨none,0,0,0,rfl,Nat.le_refl _,fun h=>absurd h (Nat.lt_irrefl _),fun i x hx=>by cases hx⟩,by simp[maxLen],fun s hs=>by cases hs⟩
 ·have hv:v=.slice (some a) len cap:=by simpa using hcs
  subst hv
  simp only[if_true] at hmm
  subst hmm
  have each:∀ i,∃ s:ByteArray,i<len→W.cell? (a.add i)=some (.string s)∧s.size≤maxLen:=fun i=>by
   by_cases hi:i<len
   ·obtain⟨h1,h2⟩:=hel i (by omega)
    obtain⟨s,e,-,hs⟩:=DataW.trod_string Tryz.underlying9 h2
    have:V i=.string s:=by simpa using e
    exact⟨s,fun _=>⟨by rw[h1,this],hs⟩⟩
   ·exact⟨⟨#[]⟩,fun h=>absurd h hi⟩
  obtain⟨S,hS⟩:=Classical.skolem.1 each
  obtain⟨g,off,spot⟩:=a
  refine⟨(List.range len).map S,?_,by simp;omega,?_⟩
  ·refine⟨some ⟨g,off,spot⟩,m,g,off,by simp,by simpa using hl,fun h0=>?_,fun i x hx=>?_⟩
   ·have h0':0<len:=by simpa using h0
    have hc:=(hS 0 h0').1
    have hspot:spot=none:=by simpa [Addr.add] using World.cell?_spot hc
    subst hspot
    exact⟨rfl,by have:=lt_of_cell hc;simpa [Addr.add] using this⟩
   ·obtain⟨hi,rfl⟩:=range_get _ _ _ _ hx
    have hc:=(hS i hi).1
    have hspot:spot=none:=by
     have h0:=(hS 0 (by omega)).1
     simpa [Addr.add] using World.cell?_spot h0
    subst hspot
    rw[add_plain] at hc
    exact hc
  ·intro s hs
   obtain⟨i,hi,rfl⟩:=List.mem_map.1 hs
   exact (hS i (List.mem_range.1 hi)).2
theorem open_fns {H:Type}{enc:TypeId × Value→H}{W:World}{n:Nat}{v:Value}{x:DataW H × List MemPlace}
  (h:DataW.trod enc Tryz.prog W 0 (fun _=>true) true n 28 [v]=some x):∃ L:List Wire.Fn,FnsIn W v L∧L.length≤maxLen∧∀ s ∈ L,s.code.size≤maxLen:=by
 rcases Go.Deep.open_slice Tryz.underlying28 h with ⟨hcs,-⟩ | ⟨a,len,cap,m,k,D,Pl,hcs,-,hl,hm,hmm,-,hel⟩
 ·have hv:v=.slice none 0 0:=by simpa using hcs
  subst hv
  exact⟨[],⟨none,0,0,0,rfl,Nat.le_refl _,fun h=>absurd h (Nat.lt_irrefl _),fun i x hx=>by cases hx⟩,by simp[maxLen],fun s hs=>by cases hs⟩
 ·have hv:v=.slice (some a) len cap:=by simpa using hcs
  subst hv
  simp only[if_true] at hmm
  subst hmm
  rw[cells65] at hel
  have each:∀ i,∃ f:Wire.Fn,i<len→(W.cell? (a.add (i*3))=some (.int .i64 f.params)∧W.cell? ((a.add (i*3)).add 1)=some (.int .i64 f.locs)∧W.cell? ((a.add (i*3)).add 2)=some (.string f.code))∧f.code.size≤maxLen:=fun i=>by
   by_cases hi:i<len
   ·obtain⟨cs',h1,h2⟩:=hel i (by omega)
    obtain⟨_,hlen,hcell⟩:=World.cells?_some h1
    obtain⟨xs,k',-,-,-,hxl,hf⟩:=DataW.trod_struct Tryz.underlying65 h2
    match xs,hxl,cs',hlen with
    | [y0,y1,y2],_,[v0,v1,v2],_=>
     have g0:=hf 0 _ rfl
     have g1:=hf 1 _ rfl
     have g2:=hf 2 _ rfl
     simp[cells3,cells9] at g0 g1 g2
     obtain⟨n0,e0,-,-⟩:=DataW.trod_int Tryz.underlying3 g0
     obtain⟨n1,e1,-,-⟩:=DataW.trod_int Tryz.underlying3 g1
     obtain⟨s2,e2,-,w2⟩:=DataW.trod_string Tryz.underlying9 g2
     simp at e0 e1 e2
     subst e0 e1 e2
     have c0:=hcell 0 (by omega)
     have c1:=hcell 1 (by omega)
     have c2:=hcell 2 (by omega)
     exact⟨⟨n0,n1,s2⟩,fun _=>⟨⟨by simpa [Addr.add] using c0,by simpa using c1,by simpa using c2⟩,w2⟩⟩
   ·exact⟨⟨0,0,⟨#[]⟩⟩,fun h=>absurd h hi⟩
  obtain⟨S,hS⟩:=Classical.skolem.1 each
  obtain⟨g,off,spot⟩:=a
  refine⟨(List.range len).map S,?_,by simp;omega,?_⟩
  ·refine⟨some ⟨g,off,spot⟩,m,g,off,by simp,by simpa using hl,fun h0=>?_,fun i x hx=>?_⟩
   ·have h0':0<len:=by simpa using h0
    have hc:=(hS 0 h0').1.1
    have hspot:spot=none:=by simpa [Addr.add] using World.cell?_spot hc
    subst hspot
    exact⟨rfl,by have:=lt_of_cell hc;simpa [Addr.add] using this⟩
   ·obtain⟨hi,rfl⟩:=range_get _ _ _ _ hx
    obtain⟨c0,c1,c2⟩:=(hS i hi).1
    have hspot:spot=none:=by
     have h0:=(hS 0 (by omega)).1.1
     simpa [Addr.add] using World.cell?_spot h0
    subst hspot
    rw[Go.Deep.add_add] at c1 c2
    rw[add_plain] at c0 c1 c2
    exact⟨c0,by simpa [Nat.add_assoc] using c1,by simpa [Nat.add_assoc] using c2⟩
  ·intro s hs
   obtain⟨i,hi,rfl⟩:=List.mem_map.1 hs
   exact (hS i (List.mem_range.1 hi)).2
theorem open_mod {H:Type}{enc:TypeId × Value→H}{W:World}{n:Nat}{cs:List Value}{x:DataW H × List MemPlace} (hll:cs.length=5)
  (h:DataW.trod enc Tryz.prog W 0 (fun _=>true) true n 30 cs=some x):∃ (m:Mo) (tv pv fv:Value),cs=[tv,pv,.int .i64 m.globs,.int .i64 m.arrs,fv]∧ModIn W (.agg #[tv,pv,.int .i64 m.globs,.int .i64 m.arrs,fv]) m∧ModSm m:=by
 obtain⟨xs,k',-,-,-,hxl,hf⟩:=DataW.trod_struct Tryz.underlying30 h
 match xs,hxl,cs,hll with
 | [y0,y1,y2,y3,y4],_,[v0,v1,v2,v3,v4],_=>
  have g0:=hf 0 _ rfl
  have g1:=hf 1 _ rfl
  have g2:=hf 2 _ rfl
  have g3:=hf 3 _ rfl
  have g4:=hf 4 _ rfl
  simp[cells3,cells27,cells28] at g0 g1 g2 g3 g4
  obtain⟨L0,s0,l0,z0⟩:=open_strs g0
  obtain⟨L1,s1,l1,z1⟩:=open_strs g1
  obtain⟨n2,e2,-,-⟩:=DataW.trod_int Tryz.underlying3 g2
  obtain⟨n3,e3,-,-⟩:=DataW.trod_int Tryz.underlying3 g3
  obtain⟨L4,s4,l4,z4⟩:=open_fns g4
  simp at e2 e3
  subst e2 e3
  have k:maxLen=9223372036854775807:=rfl
  rw[k] at l0 l1 l4 z0 z1 z4
  exact⟨⟨L0,L1,n2,n3,L4⟩,v0,v1,v4,rfl,⟨v0,v1,v4,rfl,s0,s1,s4⟩,⟨l0,z0,l1,z1,l4,z4⟩⟩
theorem open_mods {H:Type}{enc:TypeId × Value→H}{W:World}{n:Nat}{v:Value}{x:DataW H × List MemPlace}
  (h:DataW.trod enc Tryz.prog W 0 (fun _=>true) true n 25 [v]=some x):MsIn W v:=by
 rcases Go.Deep.open_slice Tryz.underlying25 h with ⟨hcs,-⟩ | ⟨a,len,cap,m,k,D,Pl,hcs,-,hl,hm,hmm,-,hel⟩
 ·have hv:v=.slice none 0 0:=by simpa using hcs
  exact .inl ⟨none,0,hv⟩
 ·have hv:v=.slice (some a) len cap:=by simpa using hcs
  subst hv
  simp only[if_true] at hmm
  subst hmm
  rw[cells30] at hel
  by_cases h0:len=0
  ·subst h0
   exact .inl ⟨some a,m,rfl⟩
  have each:∀ i,∃ M:Mo,i<len→ModSm M∧∃ tv pv fv,ModIn W (.agg #[tv,pv,.int .i64 M.globs,.int .i64 M.arrs,fv]) M∧W.cell? (a.add (i*5))=some tv∧W.cell? ((a.add (i*5)).add 1)=some pv∧W.cell? ((a.add (i*5)).add 2)=some (.int .i64 M.globs)∧W.cell? ((a.add (i*5)).add 3)=some (.int .i64 M.arrs)∧W.cell? ((a.add (i*5)).add 4)=some fv:=fun i=>by
   by_cases hi:i<len
   ·obtain⟨cs',h1,h2⟩:=hel i (by omega)
    obtain⟨_,hlen,hcell⟩:=World.cells?_some h1
    obtain⟨M,tv,pv,fv,rfl,hM,hz⟩:=open_mod hlen h2
    have c0:=hcell 0 (by omega)
    have c1:=hcell 1 (by omega)
    have c2:=hcell 2 (by omega)
    have c3:=hcell 3 (by omega)
    have c4:=hcell 4 (by omega)
    exact⟨M,fun _=>⟨hz,tv,pv,fv,hM,by simpa [Addr.add] using c0,by simpa using c1,by simpa using c2,by simpa using c3,by simpa using c4⟩⟩
   ·exact⟨⟨[],[],0,0,[]⟩,fun h=>absurd h hi⟩
  obtain⟨S,hS⟩:=Classical.skolem.1 each
  obtain⟨g,off,spot⟩:=a
  obtain⟨-,tv,pv,fv,-,hc,-⟩:=hS 0 (by omega)
  have hspot:spot=none:=by simpa [Addr.add] using World.cell?_spot hc
  subst hspot
  have hlt:g<W.heap.size:=by
   have:=lt_of_cell hc
   simpa [Addr.add] using this
  have k:maxLen=9223372036854775807:=rfl
  rw[k] at hm
  refine .inr ⟨g,off,len,m,(List.range len).map S,rfl,by omega,by omega,⟨by simp,hlt,fun i M hi=>?_⟩⟩
  obtain⟨hi',rfl⟩:=range_get _ _ _ _ hi
  obtain⟨hz,tv,pv,fv,hM,c0,c1,c2,c3,c4⟩:=hS i hi'
  rw[Go.Deep.add_add] at c1 c2 c3 c4
  rw[add_plain] at c0 c1 c2 c3 c4
  exact⟨hz,tv,pv,fv,hM,c0,by simpa [Nat.add_assoc] using c1,by simpa [Nat.add_assoc] using c2,by simpa [Nat.add_assoc] using c3,by simpa [Nat.add_assoc] using c4⟩
theorem open_op {H:Type}{enc:TypeId × Value→H}{W:World}{a:Addr}{n:Nat}{x:DataW H × List MemPlace}{cs:List Value}
  (h1:W.cells? 0 a 6=some cs) (h2:DataW.trod enc Tryz.prog W 0 (fun _=>true) true n 61 cs=some x) :
  ∃ (k p q:Int) (s t u:ByteArray),(W.cell? a=some (.int .i64 k)∧W.cell? (a.add 1)=some (.int .i64 p)∧W.cell? (a.add 2)=some (.int .i64 q)∧W.cell? (a.add 3)=some (.string s)∧W.cell? (a.add 4)=some (.string t)∧W.cell? (a.add 5)=some (.string u))∧OpB k p q s:=by
 obtain⟨_,hlen,hcell⟩:=World.cells?_some h1
 obtain⟨xs,k,hk,hxy,_,hxl,hf⟩:=DataW.trod_struct Tryz.underlying61 h2
 match xs,hxl,cs,hlen with
 | [y0,y1,y2,y3,y4,y5],_,[v0,v1,v2,v3,v4,v5],_=>
  have g0:=hf 0 _ rfl
  have g1:=hf 1 _ rfl
  have g2:=hf 2 _ rfl
  have g3:=hf 3 _ rfl
  have g4:=hf 4 _ rfl
  have g5:=hf 5 _ rfl
  simp[cells3,cells9] at g0 g1 g2 g3 g4 g5
  obtain⟨n0,e0,-,w0⟩:=DataW.trod_int Tryz.underlying3 g0
  obtain⟨n1,e1,-,w1⟩:=DataW.trod_int Tryz.underlying3 g1
  obtain⟨n2,e2,-,w2⟩:=DataW.trod_int Tryz.underlying3 g2
  obtain⟨s3,e3,-,w3⟩:=DataW.trod_string Tryz.underlying9 g3
  obtain⟨s4,e4,-,w4⟩:=DataW.trod_string Tryz.underlying9 g4
  obtain⟨s5,e5,-,w5⟩:=DataW.trod_string Tryz.underlying9 g5
  simp at e0 e1 e2 e3 e4 e5
  subst e0 e1 e2 e3 e4 e5
  have c0:=hcell 0 (by omega)
  have c1:=hcell 1 (by omega)
  have c2:=hcell 2 (by omega)
  have c3:=hcell 3 (by omega)
  have c4:=hcell 4 (by omega)
  have c5:=hcell 5 (by omega)
  exact⟨n0,n1,n2,s3,s4,s5,⟨by simpa [Addr.add] using c0,by simpa using c1,by simpa using c2,by simpa using c3,by simpa using c4,by simpa using c5⟩,⟨(i64_range w1).1,(i64_range w1).2,(i64_range w2).1,(i64_range w2).2,w3⟩⟩
theorem open_script {H:Type}{enc:TypeId × Value→H}{W:World}{v:Value}{fuel:Nat}{x:DataW H × List MemPlace}
  (hf:DataW.trod enc Tryz.prog W 0 (fun _=>true) true fuel 22 [v]=some x) (hz:∀ el sp,x.1=.slice el sp→(el.length+sp.length)*72≤reachBytes) :
  ∃ (a0:Option Addr) (len cap g off:Nat),v=.slice a0 len cap∧len≤1999999999999∧len≤cap∧(0<len→a0=some ⟨g,off,none⟩∧g<W.heap.size)∧OpsC W g off len:=by
 rcases Go.Deep.open_slice Tryz.underlying22 hf with ⟨hcs,hx⟩ | ⟨a,len,cap,m,n,D,Pl,hcs,_,hl,hm,hmm,hx,hel⟩
 ·have hv:v=.slice none 0 0:=by simpa using hcs
  exact⟨none,0,0,0,0,hv,by omega,by omega,fun h=>absurd h (by omega),fun i hi=>absurd hi (by omega)⟩
 ·have hv:v=.slice (some a) len cap:=by simpa using hcs
  subst hv
  subst hx
  simp only[if_true] at hmm
  subst hmm
  rw[cells61] at hel
  have hz':=hz _ _ rfl
  simp only[List.length_map,List.length_range,reachBytes] at hz'
  have hn:len≤1999999999999:=by omega
  have each:∀ i,i<len→∃ (k p q:Int) (s t u:ByteArray),(W.cell? (a.add (i*6))=some (.int .i64 k)∧W.cell? ((a.add (i*6)).add 1)=some (.int .i64 p)∧W.cell? ((a.add (i*6)).add 2)=some (.int .i64 q)∧W.cell? ((a.add (i*6)).add 3)=some (.string s)∧W.cell? ((a.add (i*6)).add 4)=some (.string t)∧W.cell? ((a.add (i*6)).add 5)=some (.string u))∧OpB k p q s:=fun i hi=>by
   obtain⟨cs',h1,h2⟩:=hel i (by omega)
   exact open_op h1 h2
  obtain⟨g,off,spot⟩:=a
  by_cases h0:0<len
  ·obtain⟨k,p,q,s,t,u,⟨hc,-⟩,-⟩:=each 0 h0
   have hspot:spot=none:=by simpa [Addr.add] using World.cell?_spot hc
   subst hspot
   have hlt:g<W.heap.size:=by
    have:=lt_of_cell hc
    simpa [Addr.add] using this
   refine⟨_,len,_,g,off,rfl,hn,hl,fun _=>⟨rfl,hlt⟩,fun i hi=>?_⟩
   obtain⟨k,p,q,s,t,u,⟨c0,c1,c2,c3,c4,c5⟩,hb⟩:=each i hi
   rw[Go.Deep.add_add] at c1 c2 c3 c4 c5
   rw[add_plain] at c0 c1 c2 c3 c4 c5
   exact⟨k,p,q,s,t,u,⟨c0,by simpa [Nat.add_assoc] using c1,by simpa [Nat.add_assoc] using c2,by simpa [Nat.add_assoc] using c3,by simpa [Nat.add_assoc] using c4,by simpa [Nat.add_assoc] using c5⟩,hb⟩
  ·exact⟨_,len,_,g,off,rfl,hn,hl,fun h=>absurd h h0,fun i hi=>absurd hi (by omega)⟩
def strData {H:Type} (zs:List ByteArray):DataW H:=.agg (zs.map fun z=>.lit (.string z.data.toList))
theorem cells_of_strs {H:Type}{enc:TypeId × Value→H}{P:Program}{w:World}{base:Nat}{sp:Nat→Bool}{held:Bool}{fuel:Nat}{t e:TypeId}{n:Nat}{cs:List Value}{zs:List ByteArray}{p:List MemPlace}
  (ht:P.underlying t=some (.array n e)) (he:P.underlying e=some .string) (hce:P.cellsOf e=1) (hct:P.cellsOf t=n)
  (h:DataW.trod enc P w base sp held fuel t cs=some (strData zs,p)):cs=zs.map Value.string:=by
 cases fuel with
 | zero=>simp[DataW.trod] at h
 | succ fuel=>
  simp only[DataW.trod,ht,hce,hct,Nat.mul_one] at h
  split at h
  ·rename_i hl
   obtain⟨xs,hm,hx⟩:=Option.map_eq_some_iff.1 h
   have hxs:xs.map (·.1)=zs.map fun z=>(DataW.lit (.string z.data.toList):DataW H):=by
    have:=congrArg Prod.fst hx
    simpa [strData] using this
   have hxl:xs.length=n:=by simpa using Lib.mapM_length hm
   have hzl:zs.length=n:=by
    have:=congrArg List.length hxs
    simp at this
    omega
   apply List.ext_getElem?
   intro i
   by_cases hi:i<n
   ·obtain⟨b,hb,hf⟩:=Lib.mapM_at hm i i (by simp[hi])
    obtain⟨z,hc,rfl,_⟩:=DataW.trod_string he hf
    have h1:cs[i]?=some (.string z):=by
     have:=congrArg (·[0]?) hc
     simpa [List.getElem?_take,List.getElem?_drop] using this
    have h2:(xs.map (·.1))[i]?=some (DataW.lit (.string z.data.toList):DataW H):=by simp[hb]
    rw[hxs] at h2
    simp only[List.getElem?_map,Option.map_eq_some_iff,DataW.lit.injEq,Lit.string.injEq] at h2
    obtain⟨z',hz',hzz⟩:=h2
    have e:z'=z:=by
     obtain⟨⟨a⟩⟩:=z
     obtain⟨⟨b⟩⟩:=z'
     simp only at hzz
     rw[hzz]
    subst e
    simp[h1,hz']
   ·rw[List.getElem?_eq_none (by omega),List.getElem?_eq_none (by simp;omega)]
  ·cases h
theorem strs_of_head {P:Program}{W:World}{name:String}{zs:List ByteArray}{rest:List (String × DataW Unit)}{g:Nat}{t e:TypeId}{n:Nat}
  (hg:P.globalNamed name=some g) (hty:(P.globals[g]?).map (·.type)=some t) (ht:P.underlying t=some (.array n e)) (he:P.underlying e=some .string) (hce:P.cellsOf e=1) (hct:P.cellsOf t=n)
  (h:laidMet P ((name,strData zs) :: rest) W) (i:Nat) (hi:i<zs.length):W.cell? ⟨g,i,none⟩=some (.string (zs.getD i ⟨#[]⟩)):=by
 obtain⟨ps,⟨g',t',cs,fuel,p,q,hg',ht',hvar,hd,_,_⟩,_⟩:=h
 obtain rfl:=Option.some.inj (hg.symm.trans hg')
 obtain rfl:=Option.some.inj (hty.symm.trans ht')
 have hv:W.var? P name=some (zs.map Value.string).toArray:=by rw[hvar,← cells_of_strs ht he hce hct hd]
 have:=World.var?_cell hg hv i
 simpa [List.getD,hi] using this
theorem fr_below {W W':World}(h:Fr [] W W'):Below W.heap.size W W':=⟨h.os,h.tape,h.output,h.size,fun k hk=>h.block k hk (by simp)⟩
theorem laid_out:laidOutB Tryz.prog=true:=by kernel_rfl
theorem ownK:ownKnob Tryz.prog.godebug=none:=by kernel_rfl
end Go.Proofs.YtclkgoigmgkffaaGreatDoor
