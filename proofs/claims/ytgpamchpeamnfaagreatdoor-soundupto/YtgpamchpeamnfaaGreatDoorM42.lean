/-
  Texts Ff Kj Kk Kl Km Kn Fh.
-/
import Derived.WalkKit
import Derived.ProofKit
import Derived.OpenShut
import Derived.SizedLaws
import Derived.ChangeMaps5
import Derived.Deep.DeepHandedRow
import Derived.Deep.Slices
import Derived.Lib.LaidTab
import Derived.LaidSub
import Derived.Lay
import Derived.Carry
import Derived.Test.YtgpamchpeamnfaaGreatDoorRows
import Derived.Test.YtgpamchpeamnfaaGreatDoorMA
import Derived.Test.YtgpamchpeamnfaaGreatDoorM34
import Derived.Test.YtgpamchpeamnfaaGreatDoorM39
import Derived.Test.YtgpamchpeamnfaaGreatDoorM41
set_option linter.unusedSimpArgs false
set_option linter.unusedVariables false
set_option maxRecDepth 100000
set_option maxHeartbeats 40000000
open _root_.Go.Proofs.Tryz
namespace Go.Proofs.YtgpamchpeamnfaaGreatDoor
open Go.RowKit
open Wire Flow Mach
theorem aAq.fr {w0 W:World}{rv dv:Value}{nr nd:Nat} (h:aAq w0 rv dv nr nd) (hf:Fr [] w0 W):aAq W rv dv nr nd:=by
 obtain⟨⟨o,c,h1,h2,h3,h4⟩,o',c',g1,g2,g3,g4⟩:=h
 refine⟨⟨o,c,h1,h2,h3,fun h0=>?_⟩,o',c',g1,g2,g3,fun h0=>?_⟩
 ·obtain⟨g,off,e,hg,hx⟩:=h4 h0
  refine⟨g,off,e,Nll hg hf.size,fun i hi=>?_⟩
  obtain⟨s,hs,hc⟩:=hx i hi
  exact⟨s,hs,(hf.cell (p:=⟨g,off+i,none⟩) hg (by simp)).trans hc⟩
 ·obtain⟨g,off,e,hg,hx⟩:=g4 h0
  refine⟨g,off,e,Nll hg hf.size,fun i hi=>?_⟩
  obtain⟨s,hs,hc⟩:=hx i hi
  exact⟨s,hs,(hf.cell (p:=⟨g,off+i,none⟩) hg (by simp)).trans hc⟩
theorem aWq {w0:World}{m:Mo}{sz:Nat→Nat} (hw:cE ipF m=true) (hA:Y6 m 0 0 0) (hz:∀ i,10≤i→i<200→sz i=0) (hp:iM w0) (hd:pY w0):Amb w0 m sz:=by
 obtain⟨hMo,h3⟩:=jB hw
 have hfn:∀ f,f<m.fns.length→kM m f 0 []:=fun f hf=>by
  rcases hA with ⟨-,-,-,hA⟩ | ⟨h0,-⟩
  ·obtain⟨q,x,hx,ha⟩:=hA f hf
   obtain⟨-,l,h1,h2,h3⟩:=aMq ha
   have e1:lO m f=x.locs.toNat:=by simp[lO,T6,hx]
   have e2:qY m f=bl x.code:=by simp[qY,T6,hx]
   exact aMx.begin ⟨l,by rw[e1,e2];exact h1,h2,h3⟩
  ·exact absurd rfl h0
 have hw':=hw
 simp only[cE,Bool.and_eq_true,decide_eq_true_eq,List.all_eq_true] at hw'
 obtain⟨⟨⟨⟨⟨⟨⟨⟨⟨⟨-,-⟩,-⟩,-⟩,-⟩,-⟩,-⟩,-⟩,h1⟩,h2⟩,h9⟩:=hw'
 refine⟨hz,hp,hd,hMo,fun t ht=>by have:=h1 t ht;omega,fun t ht=>?_,hfn,h3,?_⟩
 ·have:=(h2 t ht).2
  simp only[ipF,Bool.and_eq_true,decide_eq_true_eq] at this
  exact⟨this.1,aPq this.1 this.2⟩
 ·clear hA hfn h1 h2 hMo h3 hw
  have key:∀ (l:List Wire.Fn) (i:Nat),bC l i=true→∀ fn ∈ l,0≤fn.locs∧fn.locs≤1000∧0≤fn.params∧fn.params≤fn.locs:=fun l=>by
   induction l with
   | nil=>intro i _ x hx;cases hx
   | cons a l ih=>
    intro i h x hx
    simp only[bC,Bool.and_eq_true] at h
    rcases List.mem_cons.1 hx with rfl | hx
    ·have:=h.1
     simp only[fI,Bool.and_eq_true,decide_eq_true_eq] at this
     omega
    ·exact ih (i+1) h.2 x hx
  exact key m.fns 0 h9
theorem aPd (w:World)(ta pa fa ra da:Option Addr)(tn tc pn pc fn fc nr rc nd dc:Nat)(m:Mo)(n:Int)(hn:-9223372036854775808≤n∧n≤9223372036854775807)(hM:eR w (.agg #[.slice ta tn tc,.slice pa pn pc,.int .i64 m.globs,.int .i64 m.arrs,.slice fa fn fc]) m)(hz:yP m)(hS:aAq w (.slice ra nr rc) (.slice da nd dc) nr nd)(hT:Tab w)(hDT:nQ w)(hDS:pY w)(hp:iM w) :
  Calls prog 3 #[.agg #[.slice ta tn tc,.slice pa pn pc,.int .i64 m.globs,.int .i64 m.arrs,.slice fa fn fc],.slice ra nr rc,.slice da nd dc,.int .i64 n] w fun e w'=>e=.returned (.bool true)∧Fr [] w w':=by
 obtain⟨W1,hW1⟩:=eX (w.alloc (.cells #[.slice ta tn tc,.slice pa pn pc,.int .i64 m.globs,.int .i64 m.arrs,.slice fa fn fc] 25))
 have k1:=wan w (.cells #[.slice ta tn tc,.slice pa pn pc,.int .i64 m.globs,.int .i64 m.arrs,.slice fa fn fc] 25)
 rw[hW1] at k1
 have F1:Fr [] w W1:=by rw[← hW1];exact (Fr.refl [] w).alloc _
 have b0:w.heap.size<W1.heap.size:=(Age.1 k1).1
 have HB:Hid (∀ V,Fr [] W1 V→V.cell? ⟨w.heap.size,0,none⟩=some (.slice ta tn tc)∧V.cell? ⟨w.heap.size,1,none⟩=some (.slice pa pn pc)∧V.cell? ⟨w.heap.size,2,none⟩=some (.int .i64 m.globs)∧V.cell? ⟨w.heap.size,3,none⟩=some (.int .i64 m.arrs)∧V.cell? ⟨w.heap.size,4,none⟩=some (.slice fa fn fc)):=fun V hV=>by
  have e:∀ t,V.cell? ⟨w.heap.size,t,none⟩=(#[.slice ta tn tc,.slice pa pn pc,.int .i64 m.globs,.int .i64 m.arrs,.slice fa fn fc]:Array Value)[t]?:=fun t=>(hV.cell (p:=⟨w.heap.size,t,none⟩) b0 (by simp)).trans (by unfold World.cell?;rw[k1];rfl)
  exact⟨(e 0).trans rfl,(e 1).trans rfl,(e 2).trans rfl,(e 3).trans rfl,(e 4).trans rfl⟩
 have H5:Hid _:=fun (V:World)=>aRh V
 have HC:Hid _:=fun (b:ByteArray) (m:Mo) (h:cE ipF m=true∧bl b=Wire.written m∧b.size≤40000) (V:World) (f:Fr [] w V)=>bCw b V h.1 h.2.1 h.2.2 (hT.fr f (by simp))
 have HR:Hid _:=fun (b:ByteArray) (m:Mo) (h:cE ipF m=true∧bl b=Wire.written m∧b.size≤40000) (V:World) (f:Fr [] w V)=>aZf b V h.1 h.2.1 h.2.2 (hDT.fr f) (hDS.fr f)
 have HPk:Hid _:=fun (V:World) (f:Fr [] w V)=>uM _ m V (hM.fr f) hz
 have HN:Hid _:=fun (k:Int) (V:World)=>aHn k V
 have hp5:cE ipF mo5=true∧bl (jQ mo5)=Wire.written mo5∧(jQ mo5).size≤40000:=by
  have:=aGz (m:=mo5) (by unfold pA;rw[if_pos aZc])
  exact⟨this.1,this.2.2⟩
 have hp5:Hid _:=hp5
 have HS:Hid (∀ (V:World),Fr [] w V→cE ipF m=true→Y6 m 0 0 0→Calls prog 9 #[.agg #[.slice ta tn tc,.slice pa pn pc,.int .i64 m.globs,.int .i64 m.arrs,.slice fa fn fc],.slice ra nr rc,.slice da nd dc] V fun e V'=>∃ X sz O,e=.returned (ptr X)∧Amb V m sz∧GSt V X m sz O 0 V'):=fun V f hw hA=>by
  have am:=aWq (w0:=V) (sz:=fun _=>0) hw hA (fun _ _ _=>rfl) (hp.fr f) (hDS.fr f)
  refine (bAz V ta pa fa ra da tn tc pn pc fn fc nr rc nd dc m (hM.fr f) am.mo (hS.fr f) am.n3 (fun fn hfn=>⟨(am.lc fn hfn).1,(am.lc fn hfn).2.1⟩) (am.fn 0 (by have:=am.n3;omega))).mono fun e V' ⟨X,sz,O,he,h0,hG⟩=>⟨X,sz,O,he,aWq hw hA h0 (hp.fr f) (hDS.fr f),hG⟩
 have HF:Hid _:=F1
 clear F1 k1 b0 hM hz hS hT hDT hDS hp
 go_enter func3,ntmps3
 go_wp2_with fail
 refine (H5.out _).mono ?_
 rintro e V1 ⟨rfl,f1⟩
 replace HF:Hid _:=HF.out.trans f1
 have F1V:Hid _:=f1
 clear f1
 go_wp2_with fail
 refine (HC.out _ _ hp5.out _ HF.out).mono ?_
 rintro e V2 ⟨f2,fx,px,x,rfl,hx,hx100⟩
 obtain⟨rfl,rfl,rfl⟩:=hx.unique aQi
 replace F1V:Hid _:=F1V.out.trans f2
 replace HF:Hid _:=HF.out.trans f2
 clear f2 hx hx100
 go_wp2_with fail
 refine (HN.out _ _).mono ?_
 rintro e V3 ⟨rfl,hw3⟩
 replace hw3:=hw3.symm
 subst hw3
 obtain⟨a0,a1,a2,a3,a4⟩:=HB.out _ F1V.out
 go_wp2_with fail
 refine (HPk.out _ HF.out).mono ?_
 rintro e V4 ⟨rfl,f4⟩
 replace F1V:Hid _:=F1V.out.trans f4
 replace HF:Hid _:=HF.out.trans f4
 clear f4 a0 a1 a2 a3 a4
 by_cases hpe:pA m=0
 ·obtain⟨hwi,hwl,hbl,hbz⟩:=aGz hpe
  rw[hpe]
  have HU:Hid _:=AI hwi (AI hbl hbz)
  clear hpe hwi hwl hbl hbz
  generalize jQ m=b at *
  go_wp2_with fail
  refine (HC.out _ _ HU.out _ HF.out).mono ?_
  rintro e V5 ⟨f5,fx,px,x,rfl,hx,hx100⟩
  replace F1V:Hid _:=F1V.out.trans f5
  replace HF:Hid _:=HF.out.trans f5
  have HX:Hid _:=hx
  clear f5 hx
  go_wp2_with fail
  refine (HN.out _ _).mono ?_
  rintro e V6 ⟨rfl,hw6⟩
  replace hw6:=hw6.symm
  subst hw6
  by_cases hx0:x=0
  ·subst hx0
   obtain⟨hwi,-⟩:=HU.out
   have hA:Y6 m 0 0 0:=by
    rcases HX.out with ⟨-,-,h3,h4⟩ | ⟨h3,-⟩
    ·exact .inl ⟨rfl,rfl,rfl,h4⟩
    ·exact absurd rfl h3
   have HG:Hid (∀ (V:World),Fr [] w V→Calls prog 9 #[.agg #[.slice ta tn tc,.slice pa pn pc,.int .i64 m.globs,.int .i64 m.arrs,.slice fa fn fc],.slice ra nr rc,.slice da nd dc] V fun e V'=>∃ X sz O,e=.returned (ptr X)∧Amb V m sz∧GSt V X m sz O 0 V'):=fun V f=>HS.out V f hwi hA
   clear HS HX HU hwi hA HC HR HPk H5 hp5
   obtain⟨a0,a1,a2,a3,a4⟩:=HB.out _ F1V.out
   have Fin:Hid (∀ (k:Int),-9223372036854775808≤k→k≤4194304→∀ (V:World) (X:Nat) (sz O:Nat→Nat),Amb V5 m sz→GSt V5 X m sz O 0 V→Calls prog 10 #[ptr X,.int .i64 k] V fun e V'=>e=.returned (.tuple #[])∧Fr [] w V'∧∃ (st:Int) (us:Nat),(V'.cell? ⟨X,12,none⟩=some (.bool false)∧V'.cell? ⟨X,9,none⟩=some (.int .i64 st)∧V'.cell? ⟨X,11,none⟩=some (.int .i64 us))∧(0≤st∧st≤9)∧((us:Int)≤k∨k<0)):=fun k k0 k1 V X sz O A G=>(goT V5 X m sz O V k G A k1 k0).mono fun e V' ⟨he,us,⟨tag,lv,R,C,K,st,L,kk,h,hst,_⟩,hus⟩=>by
    have hX:=h.B.x
    have c:=fun j (hj:j<13)=>h.S.oc (i:=0) (j:=j) (by rw[hX.2.1];exact hj)
    rw[hX.1] at c
    exact⟨he,HF.out.trans h.S.fr,st,us,⟨(c 12 (by decide)).trans (congrArg some h.B.sk),(c 9 (by decide)).trans (congrArg some h.B.st),(c 11 (by decide)).trans (congrArg some h.B.us)⟩,hst,hus⟩
   obtain⟨k,hk0,hk1,hkn⟩:∃ k:Int,-9223372036854775808≤k∧k≤4194304∧k=(if 4194304<n then 4194304 else n):=⟨if 4194304<n then 4194304 else n,by split <;> omega,by split <;> omega,rfl⟩
   by_cases hbig:4194304<n
   all_goals
    first
    | rw[if_pos hbig] at hkn
    | rw[if_neg hbig] at hkn
    subst hkn
    go_wp2_with fail
    refine (HG.out _ HF.out).mono ?_
    rintro e V7 ⟨X,sz,O,rfl,A,G⟩
    have HA:Hid _:=AI A G
    clear A G a0 a1 a2 a3 a4
    go_wp2_with fail
    refine (Fin.out _ hk0 hk1 _ X sz O HA.out.1 HA.out.2).mono ?_
    rintro e V8 ⟨rfl,f8,st,us,⟨x12,x9,x11⟩,⟨s0,s1⟩,hus⟩
    clear HA Fin HG
    have HZ:Hid _:=f8
    clear f8
    have g1:¬ (st<0):=by omega
    have g2:¬ (9<st):=by omega
    rcases hus with hu | hu
    ·go_wp2
     go_ret
     exact⟨rfl,HZ.out⟩
    ·first
     | (exfalso;omega)
     | (have g3:¬ ((us:Int)≤k):=by omega
        go_wp2
        go_ret
        exact⟨rfl,HZ.out⟩)
  ·have g1:((x:Int)==0)=false:=by simpa using hx0
   go_wp2_with fail
   refine (HR.out _ _ HU.out _ HF.out).mono ?_
   rintro e V7 ⟨f7,fy,py,y,rfl,hy,hy100⟩
   obtain⟨-,-,rfl⟩:=hy.unique HX.out
   replace HF:Hid _:=HF.out.trans f7
   clear f7 hy HX
   go_wp2_with fail
   refine (HN.out _ _).mono ?_
   rintro e V8 ⟨rfl,hw8⟩
   replace hw8:=hw8.symm
   subst hw8
   go_wp2
   go_ret
   exact⟨by simp,HF.out⟩
 ·have g1:(pA m==0)=false:=by simpa using hpe
  go_wp2
  go_ret
  exact⟨rfl,HF.out⟩
open Go.ChangeShapes Go.WideShapes Go.ChangeAt Go.RowKit Go.ChangeMaps
theorem bCy:prog.cellsOf 5=1:=by kernel_rfl
theorem U8:prog.cellsOf 3=1:=by kernel_rfl
theorem zI:prog.cellsOf 9=1:=by kernel_rfl
theorem aZh:prog.cellsOf 47=3:=by kernel_rfl
theorem aOk:prog.cellsOf 25=5:=by kernel_rfl
theorem aZk:prog.cellsOf 22=1:=by kernel_rfl
theorem aZj:prog.cellsOf 23=1:=by kernel_rfl
theorem oP {n:Int}(h:(Lit.int .i64 n).wf=true):-9223372036854775808≤n∧n≤9223372036854775807:=by
 simp[Lit.wf,IntKind.min,IntKind.max,IntKind.bits,IntKind.signed] at h
 omega
theorem yU {α:Type}(n:Nat)(f:Nat→α)(i:Nat)(x:α)(h:((List.range n).map f)[i]?=some x):i<n∧x=f i:=by
 rw[List.getElem?_map] at h
 by_cases hi:i<n
 ·rw[List.getElem?_range hi] at h
  exact⟨hi,by simpa using h.symm⟩
 ·rw[List.getElem?_eq_none (by simp;omega)] at h
  cases h
theorem aBl {H:Type}{enc:TypeId × Value→H}{W:World}{n:Nat}{v:Value}{x:DataW H × List MemPlace}
  (h:DataW.trod enc prog W 0 (fun _=>true) true n 22 [v]=some x):∃ L:List ByteArray,nO W v L∧L.length≤maxLen∧∀ s ∈ L,s.size≤maxLen:=by
 rcases Go.Deep.open_slice1 underlying22 zI h with ⟨hcs,-⟩ | ⟨a,len,cap,m,k,V,D,Pl,hcs,-,hl,hm,hmm,-,hel⟩
 ·have hv:v=.slice none 0 0:=by simpa using hcs
  subst hv
  exact⟨[],⟨none,0,0,0,rfl,Nat.le_refl _,fun h=>absurd h (Nat.lt_irrefl _),fun i x hx=>by cases hx⟩,by simp[maxLen],fun s hs=>by cases hs⟩
 ·have hv:v=.slice (some a) len cap:=by simpa using hcs
  subst hv
  simp only[if_true] at hmm
  subst hmm
  have each:∀ i,∃ s:ByteArray,i<len→W.cell? (a.add i)=some (.string s)∧s.size≤maxLen:=fun i=>by
   by_cases hi:i<len
   ·obtain⟨h1,h2⟩:=hel i (by omega)
    obtain⟨s,e,-,hs⟩:=DataW.trod_string underlying9 h2
    have:V i=.string s:=by simpa using e
    exact⟨s,fun _=>⟨by rw[h1,this],hs⟩⟩
   ·exact⟨⟨#[]⟩,fun h=>absurd h hi⟩
  obtain⟨S,hS⟩:=Classical.skolem.1 each
  obtain⟨g,off,spot⟩:=a
  refine⟨(List.range len).map S,?_,by simp;omega,?_⟩
  ·refine⟨some ⟨g,off,spot⟩,m,g,off,by simp,by simpa using hl,fun h0=>?_,fun i x hx=>?_⟩
   ·have h0':0<len:=by simpa using h0
    have hc:=(hS 0 h0').1
    have hspot:spot=none:=by simpa [Addr.add] using World.cell?_spot hc
    subst hspot
    exact⟨rfl,by have:=aC hc;simpa [Addr.add] using this⟩
   ·obtain⟨hi,rfl⟩:=yU _ _ _ _ hx
    have hc:=(hS i hi).1
    have hspot:spot=none:=by
     have h0:=(hS 0 (by omega)).1
     simpa [Addr.add] using World.cell?_spot h0
    subst hspot
    rw[add_plain] at hc
    exact hc
  ·intro s hs
   obtain⟨i,hi,rfl⟩:=List.mem_map.1 hs
   exact (hS i (List.mem_range.1 hi)).2
theorem aUm {H:Type}{enc:TypeId × Value→H}{W:World}{n:Nat}{v:Value}{x:DataW H × List MemPlace}
  (h:DataW.trod enc prog W 0 (fun _=>true) true n 23 [v]=some x):∃ L:List Wire.Fn,r9 W v L∧L.length≤maxLen∧∀ s ∈ L,s.code.size≤maxLen:=by
 rcases Go.Deep.open_slice underlying23 h with ⟨hcs,-⟩ | ⟨a,len,cap,m,k,D,Pl,hcs,-,hl,hm,hmm,-,hel⟩
 ·have hv:v=.slice none 0 0:=by simpa using hcs
  subst hv
  exact⟨[],⟨none,0,0,0,rfl,Nat.le_refl _,fun h=>absurd h (Nat.lt_irrefl _),fun i x hx=>by cases hx⟩,by simp[maxLen],fun s hs=>by cases hs⟩
 ·have hv:v=.slice (some a) len cap:=by simpa using hcs
  subst hv
  simp only[if_true] at hmm
  subst hmm
  rw[aZh] at hel
  have each:∀ i,∃ f:Wire.Fn,i<len→(W.cell? (a.add (i*3))=some (.int .i64 f.params)∧W.cell? ((a.add (i*3)).add 1)=some (.int .i64 f.locs)∧W.cell? ((a.add (i*3)).add 2)=some (.string f.code))∧f.code.size≤maxLen:=fun i=>by
   by_cases hi:i<len
   ·obtain⟨cs',h1,h2⟩:=hel i (by omega)
    obtain⟨_,hlen,hcell⟩:=World.cells?_some h1
    obtain⟨xs,k',-,-,-,hxl,hf⟩:=DataW.trod_struct underlying47 h2
    match xs,hxl,cs',hlen with
    | [y0,y1,y2],_,[v0,v1,v2],_=>
     have g0:=hf 0 _ rfl
     have g1:=hf 1 _ rfl
     have g2:=hf 2 _ rfl
     simp[U8,zI] at g0 g1 g2
     obtain⟨n0,e0,-,-⟩:=DataW.trod_int underlying3 g0
     obtain⟨n1,e1,-,-⟩:=DataW.trod_int underlying3 g1
     obtain⟨s2,e2,-,w2⟩:=DataW.trod_string underlying9 g2
     simp at e0 e1 e2
     subst e0 e1 e2
     have c0:=hcell 0 (by omega)
     have c1:=hcell 1 (by omega)
     have c2:=hcell 2 (by omega)
     exact⟨⟨n0,n1,s2⟩,fun _=>⟨⟨by simpa [Addr.add] using c0,by simpa using c1,by simpa using c2⟩,w2⟩⟩
   ·exact⟨⟨0,0,⟨#[]⟩⟩,fun h=>absurd h hi⟩
  obtain⟨S,hS⟩:=Classical.skolem.1 each
  obtain⟨g,off,spot⟩:=a
  refine⟨(List.range len).map S,?_,by simp;omega,?_⟩
  ·refine⟨some ⟨g,off,spot⟩,m,g,off,by simp,by simpa using hl,fun h0=>?_,fun i x hx=>?_⟩
   ·have h0':0<len:=by simpa using h0
    have hc:=(hS 0 h0').1.1
    have hspot:spot=none:=by simpa [Addr.add] using World.cell?_spot hc
    subst hspot
    exact⟨rfl,by have:=aC hc;simpa [Addr.add] using this⟩
   ·obtain⟨hi,rfl⟩:=yU _ _ _ _ hx
    obtain⟨c0,c1,c2⟩:=(hS i hi).1
    have hspot:spot=none:=by
     have h0:=(hS 0 (by omega)).1.1
     simpa [Addr.add] using World.cell?_spot h0
    subst hspot
    rw[Go.Deep.add_add] at c1 c2
    rw[add_plain] at c0 c1 c2
    exact⟨c0,by simpa [Nat.add_assoc] using c1,by simpa [Nat.add_assoc] using c2⟩
  ·intro s hs
   obtain⟨i,hi,rfl⟩:=List.mem_map.1 hs
   exact (hS i (List.mem_range.1 hi)).2
theorem aHg {H:Type}{enc:TypeId × Value→H}{W:World}{n:Nat}{cs:List Value}{x:DataW H × List MemPlace} (hll:cs.length=5)
  (h:DataW.trod enc prog W 0 (fun _=>true) true n 25 cs=some x):∃ (m:Mo) (tv pv fv:Value),cs=[tv,pv,.int .i64 m.globs,.int .i64 m.arrs,fv]∧eR W (.agg #[tv,pv,.int .i64 m.globs,.int .i64 m.arrs,fv]) m∧yP m:=by
 obtain⟨xs,k',-,-,-,hxl,hf⟩:=DataW.trod_struct underlying25 h
 match xs,hxl,cs,hll with
 | [y0,y1,y2,y3,y4],_,[v0,v1,v2,v3,v4],_=>
  have g0:=hf 0 _ rfl
  have g1:=hf 1 _ rfl
  have g2:=hf 2 _ rfl
  have g3:=hf 3 _ rfl
  have g4:=hf 4 _ rfl
  simp[U8,aZk,aZj] at g0 g1 g2 g3 g4
  obtain⟨L0,s0,l0,z0⟩:=aBl g0
  obtain⟨L1,s1,l1,z1⟩:=aBl g1
  obtain⟨n2,e2,-,-⟩:=DataW.trod_int underlying3 g2
  obtain⟨n3,e3,-,-⟩:=DataW.trod_int underlying3 g3
  obtain⟨L4,s4,l4,z4⟩:=aUm g4
  simp at e2 e3
  subst e2 e3
  have k:maxLen=9223372036854775807:=rfl
  rw[k] at l0 l1 l4 z0 z1 z4
  exact⟨⟨L0,L1,n2,n3,L4⟩,v0,v1,v4,rfl,⟨v0,v1,v4,rfl,s0,s1,s4⟩,⟨l0,z0,l1,z1,l4,z4⟩⟩
def xI {H:Type} (zs:List ByteArray):DataW H:=.agg (zs.map fun z=>.lit (.string z.data.toList))
theorem aAm {H:Type}{enc:TypeId × Value→H}{P:Program}{w:World}{base:Nat}{sp:Nat→Bool}{held:Bool}{fuel:Nat}{t e:TypeId}{n:Nat}{cs:List Value}{zs:List ByteArray}{p:List MemPlace}
  (ht:P.underlying t=some (.array n e)) (he:P.underlying e=some .string) (hce:P.cellsOf e=1) (hct:P.cellsOf t=n)
  (h:DataW.trod enc P w base sp held fuel t cs=some (xI zs,p)):cs=zs.map Value.string:=by
 cases fuel with
 | zero=>simp[DataW.trod] at h
 | succ fuel=>
  simp only[DataW.trod,ht,hce,hct,Nat.mul_one] at h
  split at h
  ·rename_i hl
   obtain⟨xs,hm,hx⟩:=Option.map_eq_some_iff.1 h
   have hxs:xs.map (·.1)=zs.map fun z=>(DataW.lit (.string z.data.toList):DataW H):=by
    have:=congrArg Prod.fst hx
    simpa [xI] using this
   have hxl:xs.length=n:=by simpa using Lib.mapM_length hm
   have hzl:zs.length=n:=by
    have:=congrArg List.length hxs
    simp at this
    omega
   apply List.ext_getElem?
   intro i
   by_cases hi:i<n
   ·obtain⟨b,hb,hf⟩:=Lib.mapM_at hm i i (by simp[hi])
    obtain⟨z,hc,rfl,_⟩:=DataW.trod_string he hf
    have h1:cs[i]?=some (.string z):=by
     have:=congrArg (·[0]?) hc
     simpa [List.getElem?_take,List.getElem?_drop] using this
    have h2:(xs.map (·.1))[i]?=some (DataW.lit (.string z.data.toList):DataW H):=by simp[hb]
    rw[hxs] at h2
    simp only[List.getElem?_map,Option.map_eq_some_iff,DataW.lit.injEq,Lit.string.injEq] at h2
    obtain⟨z',hz',hzz⟩:=h2
    have e:z'=z:=by
     obtain⟨⟨a⟩⟩:=z
     obtain⟨⟨b⟩⟩:=z'
     simp only at hzz
     rw[hzz]
    subst e
    simp[h1,hz']
   ·rw[List.getElem?_eq_none (by omega),List.getElem?_eq_none (by simp;omega)]
  ·cases h
theorem xH {P:Program}{W:World}{name:String}{zs:List ByteArray}{rest:List (String × DataW Unit)}{g:Nat}{t e:TypeId}{n:Nat}
  (hg:P.globalNamed name=some g) (hty:(P.globals[g]?).map (·.type)=some t) (ht:P.underlying t=some (.array n e)) (he:P.underlying e=some .string) (hce:P.cellsOf e=1) (hct:P.cellsOf t=n)
  (h:laidMet P ((name,xI zs) :: rest) W) (i:Nat) (hi:i<zs.length):W.cell? ⟨g,i,none⟩=some (.string (zs.getD i ⟨#[]⟩)):=by
 obtain⟨ps,⟨g',t',cs,fuel,p,q,hg',ht',hvar,hd,_,_⟩,_⟩:=h
 obtain rfl:=Option.some.inj (hg.symm.trans hg')
 obtain rfl:=Option.some.inj (hty.symm.trans ht')
 have hv:W.var? P name=some (zs.map Value.string).toArray:=by rw[hvar,← aAm ht he hce hct hd]
 have:=World.var?_cell hg hv i
 simpa [List.getD,hi] using this
theorem xZ {W W':World}(h:Fr [] W W'):Below W.heap.size W W':=⟨h.os,h.tape,h.output,h.size,fun k hk=>h.block k hk (by simp)⟩
theorem P9:laidOutB prog=true:=by kernel_rfl
theorem bHc:ownKnob prog.godebug=none:=by kernel_rfl
theorem aSi {H:Type}(d:DataW H):1≤Rows.uptoBulk d:=by
 cases d with
 | lit l=>cases l <;> simp[Rows.uptoBulk]
 | _=>simp[Rows.uptoBulk]
theorem aJh {H:Type}{len:Nat}{D:Nat→DataW H}{sp:List (DataW H)}{n:Nat} (h:Rows.uptoBulk (.slice ((List.range len).map D) sp)≤n):len≤n∧∀ i,i<len→Rows.uptoBulk (D i)≤n:=by
 have key:∀ l:List (DataW H),l.length≤Rows.uptoBulkAll l∧∀ d ∈ l,Rows.uptoBulk d≤Rows.uptoBulkAll l:=fun l=>by
  induction l with
  | nil=>simp[Rows.uptoBulkAll]
  | cons x r ih=>
   simp only[Rows.uptoBulkAll,List.length_cons]
   have:=aSi x
   refine⟨by omega,fun d hd=>?_⟩
   rcases List.mem_cons.1 hd with rfl | hd
   ·omega
   ·have:=ih.2 d hd;omega
 simp only[Rows.uptoBulk] at h
 have k:=key ((List.range len).map D)
 refine⟨by have:=k.1;simp at this;omega,fun i hi=>?_⟩
 have:=k.2 (D i) (List.mem_map.2 ⟨i,List.mem_range.2 hi,rfl⟩)
 omega
theorem N7 {H:Type}{enc:TypeId × Value→H}{W:World}{n:Nat}{t e:TypeId}{v:Value}{x:DataW H × List MemPlace}{Q:Value→Prop} (ht:prog.underlying t=some (.slice e)) (hc:prog.cellsOf e=1) (hQ:∀ (k:Nat) (y:Value) (z:DataW H × List MemPlace),DataW.trod enc prog W 0 (fun _=>true) true k e [y]=some z→Rows.uptoBulk z.1≤1048576→Q y)
  (h:DataW.trod enc prog W 0 (fun _=>true) true n t [v]=some x) (hb:Rows.uptoBulk x.1≤1048576):∃ (o:Option Addr) (nr c:Nat),v=.slice o nr c∧nr≤c∧nr≤1048576∧(0<nr→∃ g off,o=some ⟨g,off,none⟩∧g<W.heap.size∧∀ i,i<nr→∃ y,Q y∧W.cell? ⟨g,off+i,none⟩=some y):=by
 rcases Go.Deep.open_slice1 ht hc h with ⟨hcs,-⟩ | ⟨a,len,cap,m,k,V,D,Pl,hcs,-,hl,hm,hmm,hx,hel⟩
 ·have hv:v=.slice none 0 0:=by simpa using hcs
  exact⟨none,0,0,hv,Nat.le_refl _,by omega,fun h0=>absurd h0 (by omega)⟩
 ·have hv:v=.slice (some a) len cap:=by simpa using hcs
  subst hv
  subst hx
  simp only[if_true] at hmm
  subst hmm
  obtain⟨hlen,hD⟩:=aJh hb
  refine⟨some a,len,m,rfl,hl,hlen,fun h0=>?_⟩
  have each:∀ i,i<len→∃ y,Q y∧W.cell? (a.add i)=some y:=fun i hi=>by
   obtain⟨h1,h2⟩:=hel i (by omega)
   exact⟨V i,hQ _ _ _ h2 (hD i hi),h1⟩
  obtain⟨g,off,spot⟩:=a
  obtain⟨y,-,hc0⟩:=each 0 h0
  have hspot:spot=none:=by simpa [Addr.add] using World.cell?_spot hc0
  subst hspot
  refine⟨g,off,rfl,by have:=aC hc0;simpa [Addr.add] using this,fun i hi=>?_⟩
  obtain⟨y,hy,hc⟩:=each i hi
  rw[add_plain] at hc
  exact⟨y,hy,hc⟩
end Go.Proofs.YtgpamchpeamnfaaGreatDoor
