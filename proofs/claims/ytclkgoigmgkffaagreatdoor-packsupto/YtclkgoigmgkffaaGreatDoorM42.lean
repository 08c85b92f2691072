/-
  Texts Kl Km Af Kn.
-/
import Derived.WalkKit
import Derived.ProofKit
import Derived.OpenShut
import Derived.SizedLaws
import Derived.ChangeMaps5
import Derived.Deep.DeepHandedRow
import Derived.Deep.Slices
import Derived.Test.YtclkgoigmgkffaaGreatDoorRows
import Derived.Lib.LaidTab
import Derived.LaidSub
import Derived.Lay
import Derived.Carry
import Derived.Test.YtclkgoigmgkffaaGreatDoorM40
import Derived.Test.YtclkgoigmgkffaaGreatDoorM41
set_option linter.unusedSimpArgs false
set_option linter.unusedVariables false
set_option maxRecDepth 100000
set_option maxHeartbeats 40000000
namespace Go.Proofs.YtclkgoigmgkffaaGreatDoor
open Go.RowKit
open Wire Flow Mach
structure OpB (k a b':Int) (s:ByteArray):Prop where
 a0:-9223372036854775808≤a
 a1:a≤9223372036854775807
 b0:-9223372036854775808≤b'
 b1:b'≤9223372036854775807
 s:s.size≤9223372036854775807
open Go.ChangeShapes Go.WideShapes Go.ChangeAt Go.RowKit Go.ChangeMaps
theorem cells5:Tryz.prog.cellsOf 5=1:=by kernel_rfl
theorem cells3:Tryz.prog.cellsOf 3=1:=by kernel_rfl
theorem cells9:Tryz.prog.cellsOf 9=1:=by kernel_rfl
theorem cells65:Tryz.prog.cellsOf 65=3:=by kernel_rfl
theorem cells30:Tryz.prog.cellsOf 30=5:=by kernel_rfl
theorem cells27:Tryz.prog.cellsOf 27=1:=by kernel_rfl
theorem cells28:Tryz.prog.cellsOf 28=1:=by kernel_rfl
theorem cells61:Tryz.prog.cellsOf 61=6:=by kernel_rfl
theorem i64_range {n:Int} (h:(Lit.int .i64 n).wf=true):-9223372036854775808≤n∧n≤9223372036854775807:=by
 simp[Lit.wf,IntKind.min,IntKind.max,IntKind.bits,IntKind.signed] at h
 omega
theorem range_get {α:Type} (n:Nat) (f:Nat→α) (i:Nat) (x:α) (h:((List.range n).map f)[i]?=some x):i<n∧x=f i:=by
 rw[List.getElem?_map] at h
 by_cases hi:i<n
 ·rw[List.getElem?_range hi] at h
  exact⟨hi,by simpa using h.symm⟩
 ·rw[List.getElem?_eq_none (by simp;omega)] at h
  cases h
theorem open_op {H:Type}{enc:TypeId × Value→H}{W:World}{a:Addr}{n:Nat}{x:DataW H × List MemPlace}{cs:List Value}
  (h1:W.cells? 0 a 6=some cs) (h2:DataW.trod enc Tryz.prog W 0 (fun _=>true) true n 61 cs=some x) :
  ∃ (k p q:Int) (s t u:ByteArray),(W.cell? a=some (.int .i64 k)∧W.cell? (a.add 1)=some (.int .i64 p)∧W.cell? (a.add 2)=some (.int .i64 q)∧W.cell? (a.add 3)=some (.string s)∧W.cell? (a.add 4)=some (.string t)∧W.cell? (a.add 5)=some (.string u))∧OpB k p q s:=by
 obtain⟨_,hlen,hcell⟩:=World.cells?_some h1
 obtain⟨xs,k,hk,hxy,_,hxl,hf⟩:=DataW.trod_struct Tryz.underlying61 h2
 match xs,hxl,cs,hlen with
 | [y0,y1,y2,y3,y4,y5],_,[v0,v1,v2,v3,v4,v5],_=>
  have g0:=hf 0 _ rfl
  have g1:=hf 1 _ rfl
  have g2:=hf 2 _ rfl
  have g3:=hf 3 _ rfl
  have g4:=hf 4 _ rfl
  have g5:=hf 5 _ rfl
  simp[cells3,cells9] at g0 g1 g2 g3 g4 g5
  obtain⟨n0,e0,-,w0⟩:=DataW.trod_int Tryz.underlying3 g0
  obtain⟨n1,e1,-,w1⟩:=DataW.trod_int Tryz.underlying3 g1
  obtain⟨n2,e2,-,w2⟩:=DataW.trod_int Tryz.underlying3 g2
  obtain⟨s3,e3,-,w3⟩:=DataW.trod_string Tryz.underlying9 g3
  obtain⟨s4,e4,-,w4⟩:=DataW.trod_string Tryz.underlying9 g4
  obtain⟨s5,e5,-,w5⟩:=DataW.trod_string Tryz.underlying9 g5
  simp at e0 e1 e2 e3 e4 e5
  subst e0 e1 e2 e3 e4 e5
  have c0:=hcell 0 (by omega)
  have c1:=hcell 1 (by omega)
  have c2:=hcell 2 (by omega)
  have c3:=hcell 3 (by omega)
  have c4:=hcell 4 (by omega)
  have c5:=hcell 5 (by omega)
  exact⟨n0,n1,n2,s3,s4,s5,⟨by simpa [Addr.add] using c0,by simpa using c1,by simpa using c2,by simpa using c3,by simpa using c4,by simpa using c5⟩,⟨(i64_range w1).1,(i64_range w1).2,(i64_range w2).1,(i64_range w2).2,w3⟩⟩
theorem bulk_one {H:Type} (d:DataW H):1≤Rows.uptoBulk d:=by
 cases d with
 | lit l=>cases l <;> simp[Rows.uptoBulk]
 | _=>simp[Rows.uptoBulk]
theorem bulk_part {H:Type}{d:DataW H}{l:List (DataW H)} (h:d ∈ l):Rows.uptoBulk d≤Rows.uptoBulkAll l:=by
 induction l with
 | nil=>cases h
 | cons x r ih=>
  simp only[Rows.uptoBulkAll]
  cases List.mem_cons.1 h with
  | inl e=>subst e;omega
  | inr e=>have:=ih e;omega
theorem bulk_many {H:Type} (l:List (DataW H)):l.length≤Rows.uptoBulkAll l:=by
 induction l with
 | nil=>simp[Rows.uptoBulkAll]
 | cons x r ih=>
  simp only[Rows.uptoBulkAll,List.length_cons]
  have h1:=bulk_one x
  omega
theorem bulk_elems {H:Type}{len:Nat}{D:Nat→DataW H}{sp:List (DataW H)}{n:Nat} (h:Rows.uptoBulk (.slice ((List.range len).map D) sp)≤n):len≤n∧∀ i,i<len→Rows.uptoBulk (D i)≤n:=by
 simp only[Rows.uptoBulk] at h
 refine⟨?_,fun i hi=>?_⟩
 ·have:=bulk_many ((List.range len).map D)
  simp at this
  omega
 ·have:=bulk_part (l:=(List.range len).map D) (d:=D i) (List.mem_map.2 ⟨i,List.mem_range.2 hi,rfl⟩)
  omega
theorem open_strsQ {H:Type}{enc:TypeId × Value→H}{W:World}{n:Nat}{v:Value}{x:DataW H × List MemPlace}
  (h:DataW.trod enc Tryz.prog W 0 (fun _=>true) true n 27 [v]=some x) (hb:Rows.uptoBulk x.1≤1048576):∃ L:List ByteArray,StrsIn W v L∧SrcZ W v L.length 1 (L.map .string)∧L.length≤1048576∧∀ s ∈ L,s.size≤maxLen:=by
 rcases Go.Deep.open_slice1 Tryz.underlying27 cells9 h with ⟨hcs,-⟩ | ⟨a,len,cap,m,k,V,D,Pl,hcs,-,hl,hm,hmm,hx,hel⟩
 ·have hv:v=.slice none 0 0:=by simpa using hcs
  subst hv
  exact⟨[],⟨none,0,0,0,rfl,Nat.le_refl _,fun h=>absurd h (Nat.lt_irrefl _),fun i x hx=>by cases hx⟩,src_nil W 1,by simp,fun s hs=>by cases hs⟩
 ·have hv:v=.slice (some a) len cap:=by simpa using hcs
  subst hv
  subst hx
  simp only[if_true] at hmm
  subst hmm
  obtain⟨hlen,-⟩:=bulk_elems hb
  have each:∀ i,∃ s:ByteArray,i<len→W.cell? (a.add i)=some (.string s)∧s.size≤maxLen:=fun i=>by
   by_cases hi:i<len
   ·obtain⟨h1,h2⟩:=hel i (by omega)
    obtain⟨s,e,-,hs⟩:=DataW.trod_string Tryz.underlying9 h2
    have:V i=.string s:=by simpa using e
    exact⟨s,fun _=>⟨by rw[h1,this],hs⟩⟩
   ·exact⟨⟨#[]⟩,fun h=>absurd h hi⟩
  obtain⟨S,hS⟩:=Classical.skolem.1 each
  obtain⟨g,off,spot⟩:=a
  have hsp:0<len→spot=none:=fun h0=>by
   have hc:=(hS 0 h0).1
   simpa [Addr.add] using World.cell?_spot hc
  have hlt:0<len→g<W.heap.size:=fun h0=>by
   have hc:=(hS 0 h0).1
   have:=lt_of_cell hc
   simpa [Addr.add] using this
  refine⟨(List.range len).map S,?_,?_,by simp;omega,?_⟩
  ·refine⟨some ⟨g,off,spot⟩,m,g,off,by simp,by simpa using hl,fun h0=>?_,fun i x hx=>?_⟩
   ·have h0':0<len:=by simpa using h0
    rw[hsp h0']
    exact⟨rfl,hlt h0'⟩
   ·obtain⟨hi,rfl⟩:=range_get _ _ _ _ hx
    have hc:=(hS i hi).1
    rw[hsp (by omega),add_plain] at hc
    exact hc
  ·have hll:((List.range len).map S).length=len:=by simp
   rw[hll]
   refine⟨by simp,map_one _,.inr ⟨⟨g,off,spot⟩,m,rfl,hl,fun h0=>⟨hsp h0,hlt h0⟩,fun j y hj=>?_⟩⟩
   rw[List.getElem?_map] at hj
   obtain⟨s,hs,rfl⟩:=Option.map_eq_some_iff.1 hj
   obtain⟨hi,rfl⟩:=range_get _ _ _ _ hs
   exact (hS j hi).1
  ·intro s hs
   obtain⟨i,hi,rfl⟩:=List.mem_map.1 hs
   exact (hS i (List.mem_range.1 hi)).2
theorem open_fnsQ {H:Type}{enc:TypeId × Value→H}{W:World}{n:Nat}{v:Value}{x:DataW H × List MemPlace}
  (h:DataW.trod enc Tryz.prog W 0 (fun _=>true) true n 28 [v]=some x) (hb:Rows.uptoBulk x.1≤1048576):∃ L:List Wire.Fn,FnsIn W v L∧SrcZ W v L.length 3 (L.flatMap fnC)∧L.length≤1048576∧∀ s ∈ L,s.code.size≤maxLen:=by
 rcases Go.Deep.open_slice Tryz.underlying28 h with ⟨hcs,-⟩ | ⟨a,len,cap,m,k,D,Pl,hcs,-,hl,hm,hmm,hx,hel⟩
 ·have hv:v=.slice none 0 0:=by simpa using hcs
  subst hv
  exact⟨[],⟨none,0,0,0,rfl,Nat.le_refl _,fun h=>absurd h (Nat.lt_irrefl _),fun i x hx=>by cases hx⟩,src_nil W 3,by simp,fun s hs=>by cases hs⟩
 ·have hv:v=.slice (some a) len cap:=by simpa using hcs
  subst hv
  subst hx
  simp only[if_true] at hmm
  subst hmm
  obtain⟨hlen,-⟩:=bulk_elems hb
  rw[cells65] at hel
  have each:∀ i,∃ f:Wire.Fn,i<len→(W.cell? (a.add (i*3))=some (.int .i64 f.params)∧W.cell? ((a.add (i*3)).add 1)=some (.int .i64 f.locs)∧W.cell? ((a.add (i*3)).add 2)=some (.string f.code))∧f.code.size≤maxLen:=fun i=>by
   by_cases hi:i<len
   ·obtain⟨cs',h1,h2⟩:=hel i (by omega)
    obtain⟨_,hlen,hcell⟩:=World.cells?_some h1
    obtain⟨xs,k',-,-,-,hxl,hf⟩:=DataW.trod_struct Tryz.underlying65 h2
    match xs,hxl,cs',hlen with
    | [y0,y1,y2],_,[v0,v1,v2],_=>
     have g0:=hf 0 _ rfl
     have g1:=hf 1 _ rfl
     have g2:=hf 2 _ rfl
     simp[cells3,cells9] at g0 g1 g2
     obtain⟨n0,e0,-,-⟩:=DataW.trod_int Tryz.underlying3 g0
     obtain⟨n1,e1,-,-⟩:=DataW.trod_int Tryz.underlying3 g1
     obtain⟨s2,e2,-,w2⟩:=DataW.trod_string Tryz.underlying9 g2
     simp at e0 e1 e2
     subst e0 e1 e2
     have c0:=hcell 0 (by omega)
     have c1:=hcell 1 (by omega)
     have c2:=hcell 2 (by omega)
     exact⟨⟨n0,n1,s2⟩,fun _=>⟨⟨by simpa [Addr.add] using c0,by simpa using c1,by simpa using c2⟩,w2⟩⟩
   ·exact⟨⟨0,0,⟨#[]⟩⟩,fun h=>absurd h hi⟩
  obtain⟨S,hS⟩:=Classical.skolem.1 each
  obtain⟨g,off,spot⟩:=a
  have hsp:0<len→spot=none:=fun h0=>by
   have hc:=(hS 0 h0).1.1
   simpa [Addr.add] using World.cell?_spot hc
  have hlt:0<len→g<W.heap.size:=fun h0=>by
   have hc:=(hS 0 h0).1.1
   have:=lt_of_cell hc
   simpa [Addr.add] using this
  refine⟨(List.range len).map S,?_,?_,by simp;omega,?_⟩
  ·refine⟨some ⟨g,off,spot⟩,m,g,off,by simp,by simpa using hl,fun h0=>?_,fun i x hx=>?_⟩
   ·have h0':0<len:=by simpa using h0
    rw[hsp h0']
    exact⟨rfl,hlt h0'⟩
   ·obtain⟨hi,rfl⟩:=range_get _ _ _ _ hx
    obtain⟨c0,c1,c2⟩:=(hS i hi).1
    rw[hsp (by omega)] at c0 c1 c2
    rw[Go.Deep.add_add] at c1 c2
    rw[add_plain] at c0 c1 c2
    exact⟨c0,by simpa [Nat.add_assoc] using c1,by simpa [Nat.add_assoc] using c2⟩
  ·have hll:((List.range len).map S).length=len:=by simp
   refine⟨by rw[fnC_len],flat_one _,.inr ⟨⟨g,off,spot⟩,m,by rw[hll],by rw[hll];exact hl,fun h0=>by rw[hll] at h0;exact⟨hsp h0,hlt h0⟩,fun j y hj=>?_⟩⟩
   have hjl:=(List.getElem?_eq_some_iff.1 hj).1
   rw[fnC_len,hll] at hjl
   have hi:j / 3<len:=by omega
   have hf:((List.range len).map S)[j / 3]?=some (S (j / 3)):=by rw[List.getElem?_map,List.getElem?_range hi];rfl
   have hjj:j=j / 3*3+j % 3:=by omega
   obtain⟨c0,c1,c2⟩:=(hS (j / 3) hi).1
   rw[Go.Deep.add_add] at c1 c2
   have ht:j % 3<3:=Nat.mod_lt _ (by decide)
   rw[hjj,fnC_at _ (j / 3) (j % 3) _ hf ht] at hj
   rw[hjj]
   obtain h | h | h:j % 3=0∨j % 3=1∨j % 3=2:=by omega
   ·rw[h] at hj ⊢
    simp[fnC] at hj
    rw[Nat.add_zero,c0,hj]
   ·rw[h] at hj ⊢
    simp[fnC] at hj
    rw[c1,hj]
   ·rw[h] at hj ⊢
    simp[fnC] at hj
    rw[c2,hj]
  ·intro s hs
   obtain⟨i,hi,rfl⟩:=List.mem_map.1 hs
   exact (hS i (List.mem_range.1 hi)).2
theorem open_modQ {H:Type}{enc:TypeId × Value→H}{W:World}{n:Nat}{cs:List Value}{x:DataW H × List MemPlace} (hll:cs.length=5)
  (h:DataW.trod enc Tryz.prog W 0 (fun _=>true) true n 30 cs=some x) (hb:Rows.uptoBulk x.1≤1048576):∃ (m:Mo) (tv pv fv:Value),cs=[tv,pv,.int .i64 m.globs,.int .i64 m.arrs,fv]∧MoQ W m tv pv fv:=by
 obtain⟨xs,k',-,hx,-,hxl,hf⟩:=DataW.trod_struct Tryz.underlying30 h
 subst hx
 match xs,hxl,cs,hll with
 | [y0,y1,y2,y3,y4],_,[v0,v1,v2,v3,v4],_=>
  have g0:=hf 0 _ rfl
  have g1:=hf 1 _ rfl
  have g2:=hf 2 _ rfl
  have g3:=hf 3 _ rfl
  have g4:=hf 4 _ rfl
  simp[cells3,cells27,cells28] at g0 g1 g2 g3 g4
  simp only[Rows.uptoBulk,Rows.uptoBulkAll,List.map_cons,List.map_nil] at hb
  obtain⟨L0,s0,r0,l0,z0⟩:=open_strsQ g0 (by omega)
  obtain⟨L1,s1,r1,l1,z1⟩:=open_strsQ g1 (by omega)
  obtain⟨n2,e2,-,-⟩:=DataW.trod_int Tryz.underlying3 g2
  obtain⟨n3,e3,-,-⟩:=DataW.trod_int Tryz.underlying3 g3
  obtain⟨L4,s4,r4,l4,z4⟩:=open_fnsQ g4 (by omega)
  simp at e2 e3
  subst e2 e3
  have k:maxLen=9223372036854775807:=rfl
  rw[k] at z0 z1 z4
  refine⟨⟨L0,L1,n2,n3,L4⟩,v0,v1,v4,rfl,⟨⟨?_,z0,?_,z1,?_,z4⟩,?_,?_,?_,⟨v0,v1,v4,rfl,s0,s1,s4⟩,r0,r1,r4⟩⟩
  ·show L0.length≤_;omega
  ·show L1.length≤_;omega
  ·show L4.length≤_;omega
  ·show L0.length≤_;omega
  ·show L1.length≤_;omega
  ·show L4.length≤_;omega
theorem open_modsQ {H:Type}{enc:TypeId × Value→H}{W:World}{n:Nat}{v:Value}{x:DataW H × List MemPlace}
  (h:DataW.trod enc Tryz.prog W 0 (fun _=>true) true n 25 [v]=some x) (hb:Rows.uptoBulk x.1≤1048576):MsI W v:=by
 rcases Go.Deep.open_slice Tryz.underlying25 h with ⟨hcs,-⟩ | ⟨a,len,cap,m,k,D,Pl,hcs,-,hl,hm,hmm,hx,hel⟩
 ·have hv:v=.slice none 0 0:=by simpa using hcs
  exact .inl ⟨none,0,hv⟩
 ·have hv:v=.slice (some a) len cap:=by simpa using hcs
  subst hv
  subst hx
  simp only[if_true] at hmm
  subst hmm
  obtain⟨hlen,hD⟩:=bulk_elems hb
  rw[cells30] at hel
  by_cases h0:len=0
  ·subst h0
   exact .inl ⟨some a,m,rfl⟩
  have each:∀ i,∃ M:Mo,i<len→∃ tv pv fv,MoQ W M tv pv fv∧W.cell? (a.add (i*5))=some tv∧W.cell? ((a.add (i*5)).add 1)=some pv∧W.cell? ((a.add (i*5)).add 2)=some (.int .i64 M.globs)∧W.cell? ((a.add (i*5)).add 3)=some (.int .i64 M.arrs)∧W.cell? ((a.add (i*5)).add 4)=some fv:=fun i=>by
   by_cases hi:i<len
   ·obtain⟨cs',h1,h2⟩:=hel i (by omega)
    obtain⟨_,hlen,hcell⟩:=World.cells?_some h1
    obtain⟨M,tv,pv,fv,rfl,hM⟩:=open_modQ hlen h2 (hD i hi)
    have c0:=hcell 0 (by omega)
    have c1:=hcell 1 (by omega)
    have c2:=hcell 2 (by omega)
    have c3:=hcell 3 (by omega)
    have c4:=hcell 4 (by omega)
    exact⟨M,fun _=>⟨tv,pv,fv,hM,by simpa [Addr.add] using c0,by simpa using c1,by simpa using c2,by simpa using c3,by simpa using c4⟩⟩
   ·exact⟨⟨[],[],0,0,[]⟩,fun h=>absurd h hi⟩
  obtain⟨S,hS⟩:=Classical.skolem.1 each
  obtain⟨g,off,spot⟩:=a
  obtain⟨tv,pv,fv,-,hc,-⟩:=hS 0 (by omega)
  have hspot:spot=none:=by simpa [Addr.add] using World.cell?_spot hc
  subst hspot
  have hlt:g<W.heap.size:=by
   have:=lt_of_cell hc
   simpa [Addr.add] using this
  have k:maxLen=9223372036854775807:=rfl
  rw[k] at hm
  refine .inr ⟨g,off,len,m,(List.range len).map S,rfl,by omega,by omega,⟨by simp,hlt,fun i M hi=>?_⟩⟩
  obtain⟨hi',rfl⟩:=range_get _ _ _ _ hi
  obtain⟨tv,pv,fv,hM,c0,c1,c2,c3,c4⟩:=hS i hi'
  rw[Go.Deep.add_add] at c1 c2 c3 c4
  rw[add_plain] at c0 c1 c2 c3 c4
  exact⟨tv,pv,fv,hM,c0,by simpa [Nat.add_assoc] using c1,by simpa [Nat.add_assoc] using c2,by simpa [Nat.add_assoc] using c3,by simpa [Nat.add_assoc] using c4⟩
theorem open_scriptQ {H:Type}{enc:TypeId × Value→H}{W:World}{v:Value}{fuel:Nat}{x:DataW H × List MemPlace}
  (hf:DataW.trod enc Tryz.prog W 0 (fun _=>true) true fuel 22 [v]=some x) (hb:Rows.uptoBulk x.1≤1048576) :
  ∃ (a0:Option Addr) (len cap g off:Nat),v=.slice a0 len cap∧len≤2000000∧len≤cap∧(0<len→a0=some ⟨g,off,none⟩∧g<W.heap.size)∧OpsP W g off len:=by
 rcases Go.Deep.open_slice Tryz.underlying22 hf with ⟨hcs,hx⟩ | ⟨a,len,cap,m,n,D,Pl,hcs,_,hl,hm,hmm,hx,hel⟩
 ·have hv:v=.slice none 0 0:=by simpa using hcs
  exact⟨none,0,0,0,0,hv,by omega,by omega,fun h=>absurd h (by omega),fun i hi=>absurd hi (by omega)⟩
 ·have hv:v=.slice (some a) len cap:=by simpa using hcs
  subst hv
  subst hx
  simp only[if_true] at hmm
  subst hmm
  obtain⟨hlen,-⟩:=bulk_elems hb
  rw[cells61] at hel
  have each:∀ i,i<len→∃ (k p q:Int) (s t u:ByteArray),(W.cell? (a.add (i*6))=some (.int .i64 k)∧W.cell? ((a.add (i*6)).add 1)=some (.int .i64 p)∧W.cell? ((a.add (i*6)).add 2)=some (.int .i64 q)∧W.cell? ((a.add (i*6)).add 3)=some (.string s)∧W.cell? ((a.add (i*6)).add 4)=some (.string t)∧W.cell? ((a.add (i*6)).add 5)=some (.string u))∧OpB k p q s:=fun i hi=>by
   obtain⟨cs',h1,h2⟩:=hel i (by omega)
   exact open_op h1 h2
  obtain⟨g,off,spot⟩:=a
  by_cases h0:0<len
  ·obtain⟨k,p,q,s,t,u,⟨hc,-⟩,-⟩:=each 0 h0
   have hspot:spot=none:=by simpa [Addr.add] using World.cell?_spot hc
   subst hspot
   have hlt:g<W.heap.size:=by
    have:=lt_of_cell hc
    simpa [Addr.add] using this
   refine⟨_,len,_,g,off,rfl,by omega,hl,fun _=>⟨rfl,hlt⟩,fun i hi=>?_⟩
   obtain⟨k,p,q,s,t,u,⟨c0,c1,c2,c3,c4,c5⟩,hb⟩:=each i hi
   rw[Go.Deep.add_add] at c1 c2 c3 c4 c5
   rw[add_plain] at c0 c1 c2 c3 c4 c5
   exact⟨k,p,q,s,t,u,⟨c0,by simpa [Nat.add_assoc] using c1,by simpa [Nat.add_assoc] using c2,by simpa [Nat.add_assoc] using c3,by simpa [Nat.add_assoc] using c4,by simpa [Nat.add_assoc] using c5⟩,⟨hb.a0,hb.a1,hb.b0,hb.b1,hb.s⟩⟩
  ·exact⟨_,len,_,g,off,rfl,by omega,hl,fun h=>absurd h h0,fun i hi=>absurd hi (by omega)⟩
end Go.Proofs.YtclkgoigmgkffaaGreatDoor
