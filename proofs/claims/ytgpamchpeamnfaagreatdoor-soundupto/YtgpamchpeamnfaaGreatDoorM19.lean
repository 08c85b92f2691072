/-
  Texts Jf Jg Jh Ji Jj.
-/
import Derived.Deep.WholeRow
import Derived.BigQuiet
import Derived.Lib.ReflectliteSwap
import Derived.Test.YtgpamchpeamnfaaGreatDoorMA
import Derived.Test.YtgpamchpeamnfaaGreatDoorM15
import Derived.Test.YtgpamchpeamnfaaGreatDoorM16
import Derived.Test.YtgpamchpeamnfaaGreatDoorM18
import Derived.Test.YtgpamchpeamnfaaGreatDoorM02
set_option linter.unusedSimpArgs false
set_option linter.unusedVariables false
set_option maxRecDepth 100000
set_option maxHeartbeats 40000000
open _root_.Go.Proofs.Tryz
namespace Go.Proofs.YtgpamchpeamnfaaGreatDoor
open Go.RowKit
open Wire Flow Mach
def inC (s:Stp):List Value:=[.int .u8 (s.op:Nat),.int .i64 (s.pl:Nat),.int .i64 (min s.a 2000000000:Nat),.int .i64 (min s.b 2000000000:Nat),.int .i64 0]
theorem aYn (s:Stp):(inC s).length=5:=rfl
theorem aYm (f:Stp):∀ u ∈ inC f,u.oneCell'=true:=by
 intro u hu
 simp only[inC,List.mem_cons,List.not_mem_nil,or_false] at hu
 rcases hu with rfl | rfl | rfl | rfl | rfl <;> rfl
theorem bCf (w:World)(a b c d:Nat):∀ j u,[Value.int .u8 a,Value.int .i64 b,Value.int .i64 c,Value.int .i64 d,Value.int .i64 0][j]?=some u→(w.alloc (.cells #[.int .u8 a,.int .i64 b,.int .i64 c,.int .i64 d,.int .i64 0] 152)).cell? ((⟨w.heap.size,0,none⟩:Addr).add j)=some u:=by
 intro j u hj
 have hm:=wan w (.cells #[.int .u8 a,.int .i64 b,.int .i64 c,.int .i64 d,.int .i64 0] 152)
 rw[iB]
 unfold World.cell?
 rw[hm]
 simpa using hj
theorem bCb:(prog.info? 152).map (fun i=>(i.zero,i.size,i.bytes))=some (some (.agg #[.int .u8 0,.int .i64 0,.int .i64 0,.int .i64 0,.int .i64 0]),5,40):=by kernel_rfl
theorem rT.ins {w0:World}{L:List Stp}{v:Value}{W:World} (h:rT 152 5 inC w0 L v W) :
  ∃ (a0:Option Addr) (cap g:Nat),v=.slice a0 L.length cap∧L.length≤cap∧(0<L.length→a0=some ⟨g,0,none⟩∧g<W.heap.size∧w0.heap.size≤g∧rV W g L (List.replicate L.length 0)):=by
 have hc:=h.cells aYn
 obtain⟨a0,cap,g,hv,hcap,hg,hx⟩:=hc
 refine⟨a0,cap,g,hv,hcap,fun h0=>?_⟩
 obtain⟨e0,e1,e2⟩:=hg h0
 refine⟨e0,e1,e2,by simp,fun i s t hs ht=>?_,fun k=>?_⟩
 ·rw[List.getElem?_replicate] at ht
  split at ht
  ·cases ht
   have x0:=hx i s 0 _ hs (by omega) rfl
   simp only[Nat.add_zero] at x0
   exact⟨x0,hx i s 1 _ hs (by omega) rfl,hx i s 2 _ hs (by omega) rfl,hx i s 3 _ hs (by omega) rfl,hx i s 4 _ hs (by omega) rfl⟩
  ·cases ht
 ·rcases h.own.2 with ⟨hv2,h2⟩ | ⟨g',cap',cur,hv2,hb,hh,-⟩
  ·omega
  ·rw[hv2,e0] at hv
   simp only[Value.slice.injEq,Option.some.injEq,Addr.mk.injEq] at hv
   rw[hv.1.1] at hh
   unfold World.frozen?
   rw[hh]
   simp
theorem aQu (a0:Option Addr)(cap:Nat)(w:World):Calls prog 104 #[.slice a0 0 cap] w fun e w'=>e=.returned (.tuple #[.int .i64 0,.int .i64 0])∧w'=w:=by
 go_enter func104,ntmps104
 go_wp2
 go_loop [10] (fun j=>j=.int .i64 (0:Nat)) (fun _=>0)
 case atStart=>rfl
 case round=>
  subst hrel
  go_wp2
  go_ret2
  exact⟨rfl,rfl⟩
def bGc (m:Mo) (f L:Nat) (c:ByteArray) (w:World) (e:Ending) (w':World):Prop:=
 Fr [] w w'∧((∃ j x:Nat,e=.returned (.tuple #[.slice none 0 0,.int .i64 j,.int .i64 x])∧x≠0∧x≤20∧j≤20000∧(zO m f L (bl c) j x∨∃ l,uC m f L (bl c) l∧dE l l=some j∧x=11)) ∨
  (∃ (a0:Option Addr) (cap g:Nat) (l:List Stp) (T:List Nat),e=.returned (.tuple #[.slice a0 l.length cap,.int .i64 0,.int .i64 0])∧uC m f L (bl c) l∧dE l l=none∧l.length≤cap ∧
   (0<l.length→a0=some ⟨g,0,none⟩∧g<w'.heap.size∧w.heap.size≤g∧rV w' g l T∧vV l T l.length)))
theorem aPl (mv:Value)(m:Mo)(w:World)(f:Nat)(x:Wire.Fn)(hM:eR w mv m)(hMo:A9 m)(hx:m.fns[f]?=some x) :
  Calls prog 45 #[mv,.int .i64 f] w (bGc m f x.locs.toNat x.code w):=by
 obtain⟨i0,hi,hz0,hz1,hz2⟩:=info_parts bCb
 have hdec:=fun (W:World) (hW:Fr [] w W) (j:Nat) (hj:j<x.code.size)=>aGr mv m W f j x (hM.fr hW) hMo hx hj
 obtain⟨tv,pv,fv,rfl,h1,h2,h3⟩:=hM.is
 obtain⟨a0,cap,g,off,rfl,hc,hx0,hxx⟩:=h3
 have hf:=(Lgs.1 hx).1
 obtain⟨c0,c1,c2⟩:=hxx f x hx
 have hp:=hMo.f.p x (List.mem_of_getElem? hx)
 obtain⟨rfl,hgl⟩:=hx0 (by omega)
 have hn:=hMo.f.n
 have hs:x.code.size≤20000:=hp.2.2.2.2
 generalize m.fns.length=nf at *
 generalize x.code=c at *
 generalize x.locs.toNat=L at *
 have g2:(f:Int)<(nf:Int):=by omega
 obtain⟨W1,hW1⟩:=eX (w.alloc (.cells #[tv,pv,.int .i64 m.globs,.int .i64 m.arrs,.slice (some ⟨g,off,none⟩) nf cap] 25))
 have FA:Fr [] w W1:=by rw[← hW1];exact (Fr.refl [] w).alloc _
 have k1:=wan w (.cells #[tv,pv,.int .i64 m.globs,.int .i64 m.arrs,.slice (some ⟨g,off,none⟩) nf cap] 25)
 rw[hW1] at k1
 have kl:=(Age.1 k1).1
 have hst:∀ W,Fr [] W1 W→(W.cell? ⟨w.heap.size,0,none⟩=some tv∧W.cell? ⟨w.heap.size,1,none⟩=some pv∧W.cell? ⟨w.heap.size,2,none⟩=some (.int .i64 m.globs)∧W.cell? ⟨w.heap.size,3,none⟩=some (.int .i64 m.arrs)∧W.cell? ⟨w.heap.size,4,none⟩=some (.slice (some ⟨g,off,none⟩) nf cap))∧W.cell? ⟨g,off+f*3+2,none⟩=some (.string c):=fun W hW=>by
  have e1:∀ j v,(#[tv,pv,.int .i64 m.globs,.int .i64 m.arrs,.slice (some ⟨g,off,none⟩) nf cap]:Array Value)[j]?=some v→W.cell? ⟨w.heap.size,j,none⟩=some v:=fun j v hv=>by
   unfold World.cell?
   rw[hW.block _ kl (by simp),k1]
   exact hv
  exact⟨⟨e1 0 _ rfl,e1 1 _ rfl,e1 2 _ rfl,e1 3 _ rfl,e1 4 _ rfl⟩,((FA.trans hW).cell (p:=⟨g,off+f*3+2,none⟩) hgl (by simp)).trans c2⟩
 have hwW:w.heap.size≤W1.heap.size:=FA.size
 obtain⟨⟨n0,n1,n2,n3,n4⟩,n5⟩:=hst W1 (Fr.refl [] W1)
 have HD:Hid _:=fun (_:Unit)=>hdec
 have HS:Hid _:=hst
 have HFA:Hid _:=AI FA hwW
 clear hdec hst hM hMo hx h1 h2 hxx c0 c1 c2 hp hx0 k1 FA hc hf kl hwW
 go_enter func45,ntmps45
 go_wp2
 clear hW1
 go_loopw [7,9] (fun u p wr=>∃ (acc:List Stp) (j:Nat),p=.int .i64 (j:Nat)∧j≤c.size∧rT 152 5 inC W1 acc u wr∧Hid (dT m f L (bl c) 0 acc j)) (fun _ p _=>c.size-(intOf p).toNat)
 case atStart=>exact⟨[],0,rfl,by omega,rT.start (Fr.refl [] _),rfl⟩
 case round=>
  clear n0 n1 n2 n3 n4 n5
  obtain⟨acc,j,rfl,hj,J,hC⟩:=hrel
  obtain⟨⟨m0,m1,m2,m3,m4⟩,m5⟩:=HS.out wr J.fr
  obtain⟨b0,bcap,rfl⟩:=J.form
  have F0:=HFA.out.1.trans J.fr
  by_cases hlt:j<c.size
  ·have g1:(j:Int)<(c.size:Int):=by omega
   go_wp2_with fail
   refine (HD.out () wr F0 j hlt).mono ?_
   rintro e w2 ⟨F2,op,pl,a,b,len,y,rfl,hy⟩
   have hl:=hC.out.le (by rw[aD];omega)
   rw[aD] at hl
   obtain⟨W3,hW3⟩:=eX (w2.alloc (.cells #[.int .u8 op,.int .i64 pl,.int .i64 a,.int .i64 b,.int .i64 0] 152))
   have F3':Fr [] w2 W3:=by rw[← hW3];exact (Fr.refl [] w2).alloc _
   have F3:=F2.trans F3'
   have k3:=wan w2 (.cells #[.int .u8 op,.int .i64 pl,.int .i64 a,.int .i64 b,.int .i64 0] 152)
   rw[hW3] at k3
   have kl:=(Age.1 k3).1
   have s4:W3.setCell ⟨w2.heap.size,4,none⟩ (.int .i64 0)=W3:=iW k3 rfl
   have fz4:W3.frozen? ⟨w2.heap.size,4,none⟩=false:=by unfold World.frozen?;rw[k3];simp
   have e4:W3.cell? ⟨w2.heap.size,4,none⟩=some (.int .i64 0):=cof k3 rfl
   clear F3' m0 m1 m2 m3 m4 m5 HD HS
   rcases hy with ⟨y0,y20,hd⟩ | ⟨rfl,s,hd,rfl,rfl,rfl,rfl,hlen⟩
   ·have q1:((y:Int)==0)=false:=by simp;omega
    have q2:((y:Int)!=0)=true:=by simp;omega
    have HX:Hid _:=AI F3 (AI hd (AI y0 (AI k3 J)))
    clear F3 hd y0 k3 J F2
    go_wp2
    go_ret3
    obtain⟨F3,hd,y0,k3,J⟩:=HX.out
    exact⟨F0.trans F3,.inl ⟨j,y,rfl,y0,y20,by omega,.inl ⟨acc,hC.out,by rw[aD];exact hlt,hd⟩⟩⟩
   ·have hob:∀ k,(Value.slice b0 acc.length bcap).ownBlock=some k→k<wr.heap.size:=fun k hk=>(J.own.lt k hk).2
    have hw2:wr.heap.size≤w2.heap.size:=F2.size
    have J3:=J.kept F3
    have hown:=J3.own
    have hsz3:=J3.fr.size
    have hnx:=cW (by rw[aD];exact hlt) hd
    have hC2:=hC.out.snoc (by rw[aD];exact hlt) hd
    rw[aD] at hnx
    obtain⟨nx,hnxe⟩:=eX (s.nx)
    rw[hnxe] at hlen hnx hC2
    have hI:(j:Int)+(len:Int)=(nx:Int):=by omega
    have hnc:nx≤c.size:=hnx.2.2.1
    have hjn:j<nx:=hnx.2.1
    have hop54:=pG hnx.2.2.2.2
    obtain⟨sa,hsa⟩:=eX (min s.a 2000000000)
    obtain⟨sb,hsb⟩:=eX (min s.b 2000000000)
    have hone:=aYm s
    have hcs:inC s=[.int .u8 (s.op:Nat),.int .i64 (s.pl:Nat),.int .i64 (sa:Nat),.int .i64 (sb:Nat),.int .i64 0]:=by unfold inC;rw[hsa,hsb]
    rw[hcs] at hone
    rw[hsa,hsb] at hW3 k3
    have e0:W3.cell? ⟨w2.heap.size,0,none⟩=some (.int .u8 (s.op:Nat)):=cof k3 rfl
    have e1:W3.cell? ⟨w2.heap.size,1,none⟩=some (.int .i64 (s.pl:Nat)):=cof k3 rfl
    have e2:W3.cell? ⟨w2.heap.size,2,none⟩=some (.int .i64 (sa:Nat)):=cof k3 rfl
    have e3:W3.cell? ⟨w2.heap.size,3,none⟩=some (.int .i64 (sb:Nat)):=cof k3 rfl
    rw[hsa,hsb]
    have hfn:=bCf W3 s.op s.pl sa sb
    have HX:Hid _:=AI F3 (AI J3 (AI hC2 (AI hob (AI hw2 (AI hcs hnxe)))))
    clear F3 hd k3 J J3 hnx hC2 hC kl hob hw2 F2 hsa hsb hcs hnxe hlen
    go_wp2_with (at_builtin;refine wpList_append_own _ rfl _ _ 97 rfl W1.heap.size 152 i0 (.agg #[.int .u8 0,.int .i64 0,.int .i64 0,.int .i64 0,.int .i64 0]) 5 40 underlying97 hi hz0 hz1 hz2 rfl (by decide) _ _ _ rfl (hown.alloc _) ⟨W3.heap.size,0,none⟩ 1 1 [.int .u8 (s.op:Nat),.int .i64 (s.pl:Nat),.int .i64 (sa:Nat),.int .i64 (sb:Nat),.int .i64 0] rfl rfl hfn hone (by unfold maxLen;omega) (by omega) (dD _ hsz3) ?_)
    intro v' w5 hown' hgrow _
    obtain⟨F3,J3,hC2,hob,hw2,hcs,hnxe⟩:=HX.out
    rw[← hcs] at hown'
    have J4:=(J3.kept ((Fr.refl [] W3).alloc (.cells #[.int .u8 (s.op:Nat),.int .i64 (s.pl:Nat),.int .i64 (sa:Nat),.int .i64 (sb:Nat),.int .i64 0] 152))).grown (s:=s) hown' hgrow
    obtain⟨d0,dcap,rfl⟩:=J4.form
    have HJ4:Hid _:=J4
    have HC2:Hid _:=hC2
    clear F3 J3 hC2 hown hown' hgrow e0 e1 e2 e3 e4 hfn J4 HX hone hob hw2 hcs hnxe
    go_wp2
    refine⟨⟨acc++[s],nx,rfl,by omega,HJ4.out,HC2⟩,?_⟩
    simp[intOf]
    omega
  ·have g1:¬ (j:Int)<(c.size:Int):=by omega
   have hR:uC m f L (bl c) acc:=by
    have:=hC.out
    rw[show j=c.size by omega,← aD c] at this
    exact this
   have hle:=dT.le hR (by omega)
   rw[aD] at hle
   have hok:=dT.ok hR
   have hpl:=dT.pls hR
   rw[aD] at hpl
   have hso:=dT.sorted hR (by omega)
   obtain⟨a1,cap1,gg,hv,hcap1,hgg⟩:=J.ins
   have HR:Hid _:=hR
   have HF0:Hid _:=F0
   cases hacc:acc with
   | nil=>
    rw[hacc] at hR hv J
    have HJn:Hid _:=fun (_:Unit)=>aQu b0 bcap wr
    have hbj:dE ([]:List Stp) []=none:=rfl
    have HR2:Hid _:=hR
    simp only[List.length_nil]
    clear hR hle hok hpl hso hv hcap1 hgg hC J HR m0 m1 m2 m3 m4 F0 HD HS
    go_wp2_with fail
    refine (HJn.out ()).mono ?_
    rintro e w2 ⟨rfl,hw⟩
    replace hw:=hw.symm
    subst hw
    go_wp2
    go_ret3
    exact⟨HF0.out,.inr ⟨b0,bcap,0,[],[],rfl,HR2.out,rfl,by simp,fun h=>absurd h (by simp)⟩⟩
   | cons s0 l0=>
    rw[← hacc]
    have h0:0<acc.length:=by rw[hacc];simp
    obtain⟨e1,e2,e3,hI⟩:=hgg h0
    simp only[Value.slice.injEq] at hv
    obtain⟨rfl,-,rfl⟩:=hv
    subst e1
    have HJn:Hid _:=fun (_:Unit)=>aQv gg acc _ bcap h0 (by omega) wr e2 hI hso (fun s hs=>by have:=hpl s hs;omega) (fun s hs=>(hok s hs).op)
    have HG:Hid _:=AI e2 (AI e3 hcap1)
    clear hR hle hok hpl hso hcap1 hgg hC J m0 m1 m2 m3 m4 F0 HD HS hacc hI e2 e3
    generalize hna:acc.length=na at *
    go_wp2_with fail
    refine (HJn.out ()).mono ?_
    rintro e w2 ⟨F2,(⟨q,hb,hq,rfl⟩ | ⟨hb,rfl,T,hI2,hJ2⟩)⟩
    ·have HF2:Hid _:=AI F2 hb
     clear F2 hb
     go_wp2
     go_ret3
     refine⟨HF0.out.trans' HF2.out.1 (fun y hy=>.inr (by simp at hy;have:=HG.out.2.1;have:=HFA.out.2;omega)),.inl ⟨q,11,rfl,by omega,by omega,by omega,.inr ⟨acc,HR.out,HF2.out.2,rfl⟩⟩⟩
    ·have HF2:Hid _:=AI F2 (AI hb (AI hI2 hJ2))
     clear F2 hb hI2 hJ2
     go_wp2
     go_ret3
     rw[← hna]
     refine⟨HF0.out.trans' HF2.out.1 (fun y hy=>.inr (by simp at hy;have:=HG.out.2.1;have:=HFA.out.2;omega)),.inr ⟨_,bcap,gg,acc,T,rfl,HR.out,HF2.out.2.1,by rw[hna];exact HG.out.2.2,fun _=>⟨rfl,?_,?_,HF2.out.2.2.1,HF2.out.2.2.2⟩⟩⟩
     ·have:=HG.out.1;have:=HF2.out.1.size;omega
     ·have:=HG.out.2.1;have:=HFA.out.2;omega
def iK (st:List Nat) (wr:Bool):List Value:=.int .i64 (st.length:Int) :: .bool wr :: (List.range 64).map fun j=>.int .u64 (wdS st j:Nat)
theorem mT (st:List Nat)(wr:Bool):(iK st wr).length=66:=by simp[iK]
theorem H8 (st:List Nat)(wr:Bool):∀ v ∈ iK st wr,v.oneCell'=true:=by
 intro v hv
 simp only[iK,List.mem_cons,List.mem_map,List.mem_range] at hv
 rcases hv with rfl | rfl | ⟨j,-,rfl⟩ <;> rfl
theorem eP.all {w:World}{sb:Nat}{st:List Nat}{wr:Bool} (h:eP w sb st wr):∀ j v,(iK st wr)[j]?=some v→w.cell? ⟨sb,j,none⟩=some v:=by
 intro j v hv
 match j,hv with
 | 0,hv=>simp[iK] at hv;subst hv;exact h.c0
 | 1,hv=>simp[iK] at hv;subst hv;exact h.c1
 | j+2,hv=>
  simp only[iK,List.getElem?_cons_succ,List.getElem?_map] at hv
  by_cases hj:j<64
  ·rw[List.getElem?_range hj] at hv
   simp only[Option.map_some,Option.some.injEq] at hv
   subst hv
   rw[show j+2=2+j by omega]
   exact h.cw j hj
  ·rw[List.getElem?_eq_none (by simp;omega)] at hv
   cases hv
theorem mS {W:World}{sb:Nat}{st:List Nat}{wr:Bool} (h:W.heap[sb]?=some (.cells (iK st wr).toArray 165)) (hi:st.length≤1024) (sm:∀ x,x ∈ st→x<16):eP W sb st wr:=by
 have hc:∀ j,W.cell? ⟨sb,j,none⟩=(iK st wr)[j]?:=fun j=>by
  unfold World.cell?
  rw[h]
  simp
 refine⟨?_,?_,fun j hj=>?_,fun i=>?_,hi,sm⟩
 ·rw[hc];rfl
 ·rw[hc];rfl
 ·rw[hc,show 2+j=j+2 by omega]
  simp only[iK,List.getElem?_cons_succ,List.getElem?_map]
  rw[List.getElem?_range hj]
  rfl
 ·unfold World.frozen?
  rw[h]
  simp
theorem aIl:(prog.info? 165).map (fun i=>(i.zero,i.size))=some (some (.agg (iK [] false).toArray),66):=by kernel_rfl
structure FrB (B:Nat) (W W':World):Prop where
 os:W'.os=W.os
 tape:W'.tape=W.tape
 output:W'.output=W.output
 size:W.heap.size≤W'.heap.size
 block:∀ k,k<B→W'.heap[k]?=W.heap[k]?
theorem FrB.refl (B:Nat)(W:World):FrB B W W:=⟨rfl,rfl,rfl,Nat.le_refl _,fun _ _=>rfl⟩
theorem FrB.trans {B:Nat}{a b c:World} (h:FrB B a b) (k:FrB B b c):FrB B a c:=
 ⟨k.os.trans h.os,k.tape.trans h.tape,k.output.trans h.output,Nat.le_trans h.size k.size,fun i hi=>(k.block i hi).trans (h.block i hi)⟩
theorem FrB.of {B:Nat}{S:List Nat}{W W':World} (h:Fr S W W') (hB:B≤W.heap.size) (hS:∀ x,x ∈ S→B≤x):FrB B W W':=
 ⟨h.os,h.tape,h.output,h.size,fun k hk=>h.block k (by omega) (fun hx=>by have:=hS k hx;omega)⟩
theorem FrB.to_fr {W0 W W':World}{B:Nat} (h0:Fr [] W0 W) (hB:W0.heap.size≤B) (h:FrB B W W'):Fr [] W0 W':=
 ⟨h.os.trans h0.os,h.tape.trans h0.tape,h.output.trans h0.output,Nat.le_trans h0.size h.size,fun k hk hn=>(h.block k (by omega)).trans (h0.block k hk hn)⟩
structure iN (W:World) (B fb kb qb n:Nat) (av mf:Value) (G:List (Option (List Nat))) (Q:List Bool) (more wrong:Bool) (P:Nat→Nat):Prop where
 c4:W.cell? ⟨fb,4,none⟩=some mf
 c5:W.cell? ⟨fb,5,none⟩=some av
 c6:W.cell? ⟨fb,6,none⟩=some (.slice (some ⟨kb,0,none⟩) n n)
 c7:W.cell? ⟨fb,7,none⟩=some (.slice (some ⟨qb,0,none⟩) n n)
 c8:W.cell? ⟨fb,8,none⟩=some (.bool more)
 c9:W.cell? ⟨fb,9,none⟩=some (.bool wrong)
 gl:G.length=n
 ql:Q.length=n
 ks:∀ i,G[i]?=some none→W.cell? ⟨kb,i,none⟩=some (.pointer none)
 kp:∀ i s,G[i]?=some (some s)→W.cell? ⟨kb,i,none⟩=some (.pointer (some ⟨P i,0,none⟩))∧eP W (P i) s false∧B≤P i∧P i≠fb∧P i≠kb∧P i≠qb
 inj:∀ i j s t,G[i]?=some (some s)→G[j]?=some (some t)→P i=P j→i=j
 qs:∀ i b,Q[i]?=some b→W.cell? ⟨qb,i,none⟩=some (.bool b)
 zf:∀ i,W.frozen? ⟨fb,i,none⟩=false
 zk:∀ i,W.frozen? ⟨kb,i,none⟩=false
 zq:∀ i,W.frozen? ⟨qb,i,none⟩=false
 n1:fb≠kb
 n2:fb≠qb
 n3:kb≠qb
 bf:B≤fb
 bk:B≤kb
 bq:B≤qb
 lk:kb<W.heap.size
 lq:qb<W.heap.size
 hb:aCj G
theorem iN.lt {W:World}{B fb kb qb n:Nat}{av mf:Value}{G:List (Option (List Nat))}{Q:List Bool}{more wrong:Bool}{P:Nat→Nat} (h:iN W B fb kb qb n av mf G Q more wrong P):fb<W.heap.size:=aC h.c4
theorem iN.fr {W W':World}{B fb kb qb n:Nat}{av mf:Value}{G:List (Option (List Nat))}{Q:List Bool}{more wrong:Bool}{P:Nat→Nat} (h:iN W B fb kb qb n av mf G Q more wrong P)
  {S:List Nat} (hf:Fr S W W') (h1:fb ∉ S) (h2:kb ∉ S) (h3:qb ∉ S) (h4:∀ i s,G[i]?=some (some s)→P i ∉ S):iN W' B fb kb qb n av mf G Q more wrong P:=by
 have e1:∀ j,W'.cell? ⟨fb,j,none⟩=W.cell? ⟨fb,j,none⟩:=fun j=>hf.cell (p:=⟨fb,j,none⟩) h.lt h1
 have e2:∀ j,W'.cell? ⟨kb,j,none⟩=W.cell? ⟨kb,j,none⟩:=fun j=>hf.cell (p:=⟨kb,j,none⟩) h.lk h2
 have e3:∀ j,W'.cell? ⟨qb,j,none⟩=W.cell? ⟨qb,j,none⟩:=fun j=>hf.cell (p:=⟨qb,j,none⟩) h.lq h3
 refine⟨(e1 _).trans h.c4,(e1 _).trans h.c5,(e1 _).trans h.c6,(e1 _).trans h.c7,(e1 _).trans h.c8,(e1 _).trans h.c9,h.gl,h.ql,fun i hi=>(e2 i).trans (h.ks i hi),fun i s hi=>?_,h.inj,fun i b hi=>(e3 i).trans (h.qs i b hi),
  fun i=>(hf.frozen (p:=⟨fb,i,none⟩) h.lt h1).trans (h.zf i),fun i=>(hf.frozen (p:=⟨kb,i,none⟩) h.lk h2).trans (h.zk i),fun i=>(hf.frozen (p:=⟨qb,i,none⟩) h.lq h3).trans (h.zq i),h.n1,h.n2,h.n3,h.bf,h.bk,h.bq,Nll h.lk hf.size,Nll h.lq hf.size,h.hb⟩
 obtain⟨k1,k2,k3⟩:=h.kp i s hi
 exact⟨(e2 i).trans k1,k2.fr hf (h4 i s hi),k3⟩
theorem cP {W:World}{b c i j:Nat}{v:Value} (h:b≠c):(W.setCell ⟨b,i,none⟩ v).cell? ⟨c,j,none⟩=W.cell? ⟨c,j,none⟩:=World.cell?_setCell_other _ _ _ _ (by simp[h])
theorem iN.setWrong {W:World}{B fb kb qb n:Nat}{av mf:Value}{G:List (Option (List Nat))}{Q:List Bool}{more wrong:Bool}{P:Nat→Nat} (h:iN W B fb kb qb n av mf G Q more wrong P) (b:Bool):iN (W.setCell ⟨fb,9,none⟩ (.bool b)) B fb kb qb n av mf G Q more b P:=by
 refine⟨(aA (by decide)).trans h.c4,(aA (by decide)).trans h.c5,(aA (by decide)).trans h.c6,(aA (by decide)).trans h.c7,(aA (by decide)).trans h.c8,aP h.c9,h.gl,h.ql,fun i hi=>(cP h.n1).trans (h.ks i hi),fun i s hi=>?_,h.inj,fun i b hi=>(cP h.n2).trans (h.qs i b hi),
  fun i=>by rw[wfz];exact h.zf i,fun i=>by rw[wfz];exact h.zk i,fun i=>by rw[wfz];exact h.zq i,h.n1,h.n2,h.n3,h.bf,h.bk,h.bq,by simpa using h.lk,by simpa using h.lq,h.hb⟩
 obtain⟨k1,k2,k3,k4,k5⟩:=h.kp i s hi
 exact⟨(cP h.n1).trans k1,k2.of_block (aL k4),k3,k4,k5⟩
theorem iN.setMore {W:World}{B fb kb qb n:Nat}{av mf:Value}{G:List (Option (List Nat))}{Q:List Bool}{more wrong:Bool}{P:Nat→Nat} (h:iN W B fb kb qb n av mf G Q more wrong P) (b:Bool):iN (W.setCell ⟨fb,8,none⟩ (.bool b)) B fb kb qb n av mf G Q b wrong P:=by
 refine⟨(aA (by decide)).trans h.c4,(aA (by decide)).trans h.c5,(aA (by decide)).trans h.c6,(aA (by decide)).trans h.c7,aP h.c8,(aA (by decide)).trans h.c9,h.gl,h.ql,fun i hi=>(cP h.n1).trans (h.ks i hi),fun i s hi=>?_,h.inj,fun i b hi=>(cP h.n2).trans (h.qs i b hi),
  fun i=>by rw[wfz];exact h.zf i,fun i=>by rw[wfz];exact h.zk i,fun i=>by rw[wfz];exact h.zq i,h.n1,h.n2,h.n3,h.bf,h.bk,h.bq,by simpa using h.lk,by simpa using h.lq,h.hb⟩
 obtain⟨k1,k2,k3,k4,k5⟩:=h.kp i s hi
 exact⟨(cP h.n1).trans k1,k2.of_block (aL k4),k3,k4,k5⟩
theorem iN.setWait {W:World}{B fb kb qb n:Nat}{av mf:Value}{G:List (Option (List Nat))}{Q:List Bool}{more wrong:Bool}{P:Nat→Nat} (h:iN W B fb kb qb n av mf G Q more wrong P) {k:Nat} (hk:k<n) (b:Bool):iN (W.setCell ⟨qb,k,none⟩ (.bool b)) B fb kb qb n av mf G (Q.set k b) more wrong P:=by
 have n2:qb≠fb:=fun e=>h.n2 e.symm
 have n3:qb≠kb:=fun e=>h.n3 e.symm
 refine⟨(cP n2).trans h.c4,(cP n2).trans h.c5,(cP n2).trans h.c6,(cP n2).trans h.c7,(cP n2).trans h.c8,(cP n2).trans h.c9,h.gl,by rw[List.length_set];exact h.ql,fun i hi=>(cP n3).trans (h.ks i hi),fun i s hi=>?_,h.inj,fun i b' hi=>?_,
  fun i=>by rw[wfz];exact h.zf i,fun i=>by rw[wfz];exact h.zk i,fun i=>by rw[wfz];exact h.zq i,h.n1,h.n2,h.n3,h.bf,h.bk,h.bq,by simpa using h.lk,by simpa using h.lq,h.hb⟩
 ·obtain⟨k1,k2,k3,k4,k5,k6⟩:=h.kp i s hi
  exact⟨(cP n3).trans k1,k2.of_block (aL k6),k3,k4,k5,k6⟩
 ·by_cases e:i=k
  ·subst e
   rw[List.getElem?_set_self (by rw[h.ql];exact hk)] at hi
   cases hi
   obtain⟨b0,hb0⟩:∃ b0,Q[i]?=some b0:=⟨_,Lge (by rw[h.ql];exact hk)⟩
   exact aP (h.qs i b0 hb0)
  ·rw[List.getElem?_set_ne (fun e2=>e e2.symm)] at hi
   exact (aA (fun e2=>e e2.symm)).trans (h.qs i b' hi)
theorem iN.meet {W W':World}{B fb kb qb n:Nat}{av mf:Value}{G:List (Option (List Nat))}{Q:List Bool}{more wrong:Bool}{P:Nat→Nat} (h:iN W B fb kb qb n av mf G Q more wrong P)
  {k:Nat}{t u:List Nat} (hk:G[k]?=some (some t)) (hf:Fr [P k] W W') (hs:eP W' (P k) u false) (hu:bU u):iN W' B fb kb qb n av mf (G.set k (some u)) Q more wrong P:=by
 obtain⟨q1,q2,q3,q4,q5,q6⟩:=h.kp k t hk
 have hkl:=(Lgs.1 hk).1
 have e1:∀ j,W'.cell? ⟨fb,j,none⟩=W.cell? ⟨fb,j,none⟩:=fun j=>hf.cell (p:=⟨fb,j,none⟩) h.lt (by simp;exact fun e=>q4 e.symm)
 have e2:∀ j,W'.cell? ⟨kb,j,none⟩=W.cell? ⟨kb,j,none⟩:=fun j=>hf.cell (p:=⟨kb,j,none⟩) h.lk (by simp;exact fun e=>q5 e.symm)
 have e3:∀ j,W'.cell? ⟨qb,j,none⟩=W.cell? ⟨qb,j,none⟩:=fun j=>hf.cell (p:=⟨qb,j,none⟩) h.lq (by simp;exact fun e=>q6 e.symm)
 refine⟨(e1 _).trans h.c4,(e1 _).trans h.c5,(e1 _).trans h.c6,(e1 _).trans h.c7,(e1 _).trans h.c8,(e1 _).trans h.c9,by rw[List.length_set];exact h.gl,h.ql,fun i hi=>?_,fun i s hi=>?_,fun i j s s' hi hj e=>?_,fun i b hi=>(e3 i).trans (h.qs i b hi),
  fun i=>(hf.frozen (p:=⟨fb,i,none⟩) h.lt (by simp;exact fun e=>q4 e.symm)).trans (h.zf i),fun i=>(hf.frozen (p:=⟨kb,i,none⟩) h.lk (by simp;exact fun e=>q5 e.symm)).trans (h.zk i),fun i=>(hf.frozen (p:=⟨qb,i,none⟩) h.lq (by simp;exact fun e=>q6 e.symm)).trans (h.zq i),h.n1,h.n2,h.n3,h.bf,h.bk,h.bq,Nll h.lk hf.size,Nll h.lq hf.size,h.hb.set hu⟩
 ·by_cases e:i=k
  ·subst e
   rw[List.getElem?_set_self hkl] at hi
   cases hi
  ·rw[List.getElem?_set_ne (fun e2=>e e2.symm)] at hi
   exact (e2 i).trans (h.ks i hi)
 ·by_cases e:i=k
  ·subst e
   rw[List.getElem?_set_self hkl] at hi
   cases hi
   exact⟨(e2 i).trans q1,hs,q3,q4,q5,q6⟩
  ·rw[List.getElem?_set_ne (fun e2=>e e2.symm)] at hi
   obtain⟨k1,k2,k3⟩:=h.kp i s hi
   exact⟨(e2 i).trans k1,k2.fr hf (by simp;exact fun e3=>e (h.inj i k s t hi hk e3)),k3⟩
 ·have old:∀ (j:Nat) s,(G.set k (some u))[j]?=some (some s)→∃ s',G[j]?=some (some s'):=fun j s hj=>by
   by_cases e:j=k
   ·subst e;exact⟨t,hk⟩
   ·rw[List.getElem?_set_ne (fun e2=>e e2.symm)] at hj
    exact⟨s,hj⟩
  obtain⟨s1,h1⟩:=old i s hi
  obtain⟨s2,h2⟩:=old j s' hj
  exact h.inj i j s1 s2 h1 h2 e
theorem iN.new {W W':World}{B fb kb qb n:Nat}{av mf:Value}{G:List (Option (List Nat))}{Q:List Bool}{more wrong:Bool}{P:Nat→Nat} (h:iN W B fb kb qb n av mf G Q more wrong P)
  {k nb:Nat}{u:List Nat} (hk:G[k]?=some none) (hnb:W.heap.size≤nb) (hB:B≤W.heap.size) (hf:Fr [] W W') (hs:eP W' nb u false) (hu:bU u) :
  iN (W'.setCell ⟨kb,k,none⟩ (.pointer (some ⟨nb,0,none⟩))) B fb kb qb n av mf (G.set k (some u)) Q more wrong (fun i=>if i=k then nb else P i):=by
 have H:=h.fr hf (by simp) (by simp) (by simp) (fun _ _ _=>by simp)
 have hkl:=(Lgs.1 hk).1
 have l1:=h.lt
 have l2:=h.lk
 have l3:=h.lq
 have m1:kb≠fb:=fun e=>h.n1 e.symm
 refine⟨(cP m1).trans H.c4,(cP m1).trans H.c5,(cP m1).trans H.c6,(cP m1).trans H.c7,(cP m1).trans H.c8,(cP m1).trans H.c9,by rw[List.length_set];exact h.gl,h.ql,fun i hi=>?_,fun i s hi=>?_,fun i j s s' hi hj e=>?_,fun i b hi=>(cP h.n3).trans (H.qs i b hi),
  fun i=>by rw[wfz];exact H.zf i,fun i=>by rw[wfz];exact H.zk i,fun i=>by rw[wfz];exact H.zq i,h.n1,h.n2,h.n3,h.bf,h.bk,h.bq,by simpa using H.lk,by simpa using H.lq,h.hb.set hu⟩
 ·by_cases e:i=k
  ·subst e
   rw[List.getElem?_set_self hkl] at hi
   cases hi
  ·rw[List.getElem?_set_ne (fun e2=>e e2.symm)] at hi
   exact (aA (fun e2=>e e2.symm)).trans (H.ks i hi)
 ·by_cases e:i=k
  ·subst e
   rw[List.getElem?_set_self hkl] at hi
   cases hi
   simp only[if_true]
   exact⟨aP (H.ks i hk),hs.of_block (aL (by omega)),by omega,by omega,by omega,by omega⟩
  ·rw[List.getElem?_set_ne (fun e2=>e e2.symm)] at hi
   simp only[e,if_false]
   obtain⟨k1,k2,k3,k4,k5,k6⟩:=H.kp i s hi
   exact⟨(aA (fun e2=>e e2.symm)).trans k1,k2.of_block (aL k5),k3,k4,k5,k6⟩
 ·have old:∀ (j:Nat) s,j≠k→(G.set k (some u))[j]?=some (some s)→G[j]?=some (some s):=fun j s e hj=>by
   rw[List.getElem?_set_ne (fun e2=>e e2.symm)] at hj
   exact hj
  by_cases ei:i=k
  ·by_cases ej:j=k
   ·omega
   ·exfalso
    simp only[ei,ej,if_true,if_false] at e
    have:=(h.kp j s' (old j s' ej hj)).2.1.lt
    omega
  ·by_cases ej:j=k
   ·exfalso
    simp only[ei,ej,if_true,if_false] at e
    have:=(h.kp i s (old i s ei hi)).2.1.lt
    omega
   ·simp only[ei,ej,if_false] at e
    exact h.inj i j s s' (old i s ei hi) (old j s' ej hj) e
def GoR (n i:Nat) (o:Option (List Nat)) (G:List (Option (List Nat))) (Q:List Bool) (more wrong:Bool) (G':List (Option (List Nat))) (Q':List Bool) (more' wrong':Bool):Prop:=
 (wrong'=true∧G'=G∧Q'=Q∧more'=more∧(i=n∨o=none∨∃ s t,o=some s∧G[i]?=some (some t)∧t.length≠s.length)) ∨
 (wrong'=wrong∧∃ s,o=some s∧i<n∧((G[i]?=some none∧G'=G.set i (some s)∧Q'=Q.set i true∧more'=true) ∨
  ∃ t,G[i]?=some (some t)∧t.length=s.length∧((orL t s=t∧G'=G∧Q'=Q∧more'=more)∨(orL t s≠t∧G'=G.set i (some (orL t s))∧Q'=Q.set i true∧more'=true))))
def GoP (B fb kb qb n:Nat) (av mf:Value) (W:World) (sb:Nat) (o:Option (List Nat)) (G:List (Option (List Nat))) (Q:List Bool) (more wrong:Bool) (i:Nat) (e:Ending) (W':World):Prop:=
 e=.returned (.tuple #[])∧FrB B W W'∧W'.heap[sb]?=W.heap[sb]? ∧
 ∃ G' Q' more' wrong' P',iN W' B fb kb qb n av mf G' Q' more' wrong' P'∧(∀ j s,G'[j]?=some (some s)→P' j≠sb)∧GoR n i o G Q more wrong G' Q' more' wrong'
theorem fX {B fb:Nat}{W:World}{j:Nat}{v:Value} (h:B≤fb):FrB B W (W.setCell ⟨fb,j,none⟩ v):=
 ⟨rfl,rfl,rfl,by simp,fun k hk=>aL (by omega)⟩
theorem bCm (W:World)(B fb kb qb n:Nat)(aa:Option Addr)(acap:Nat)(mf:Value)(G:List (Option (List Nat)))(Q:List Bool)(more wrong:Bool)(P:Nat→Nat)(h:iN W B fb kb qb n (.slice aa n acap) mf G Q more wrong P)(hn:n≤100000)
  (sb:Nat) (o:Option (List Nat)) (hs:cY W sb o) (h1:sb≠fb) (hP:∀ j s,G[j]?=some (some s)→P j≠sb) :
  Calls prog 105 #[.pointer (some ⟨fb,0,none⟩),.int .i64 n,.pointer (some ⟨sb,0,none⟩)] W (GoP B fb kb qb n (.slice aa n acap) mf W sb o G Q more wrong n):=by
 have c5:=h.c5
 have c9:=h.c9
 have z9:=h.zf 9
 have q1:((n:Int)==(n:Int))=true:=by simp
 have HF:Hid _:=h
 clear h hs
 go_enter func105,ntmps105
 go_wp2
 go_end0
 exact⟨rfl,fX HF.out.bf,aL h1,G,Q,more,true,P,HF.out.setWrong true,hP,.inl ⟨rfl,rfl,rfl,rfl,.inl rfl⟩⟩
theorem aVj (W:World)(B fb kb qb n:Nat)(aa:Option Addr)(acap:Nat)(mf:Value)(G:List (Option (List Nat)))(Q:List Bool)(more wrong:Bool)(P:Nat→Nat)(h:iN W B fb kb qb n (.slice aa n acap) mf G Q more wrong P)(hn:n≤100000)
  (sb:Nat) (hs:cY W sb none) (h1:sb≠fb) (hP:∀ j s,G[j]?=some (some s)→P j≠sb) (i:Nat) (hi:i<n) :
  Calls prog 105 #[.pointer (some ⟨fb,0,none⟩),.int .i64 i,.pointer (some ⟨sb,0,none⟩)] W (GoP B fb kb qb n (.slice aa n acap) mf W sb none G Q more wrong i):=by
 obtain⟨st,hst⟩:=hs
 have s1:=hst.c1
 have c5:=h.c5
 have c9:=h.c9
 have z9:=h.zf 9
 have q1:((i:Int)==(n:Int))=false:=by simp;omega
 have HF:Hid _:=h
 clear h hst
 go_enter func105,ntmps105
 go_wp2
 go_end0
 exact⟨rfl,fX HF.out.bf,aL h1,G,Q,more,true,P,HF.out.setWrong true,hP,.inl ⟨rfl,rfl,rfl,rfl,.inr (.inl rfl)⟩⟩
theorem aYq (W:World)(B fb kb qb n:Nat)(aa:Option Addr)(acap:Nat)(mf:Value)(G:List (Option (List Nat)))(Q:List Bool)(more wrong:Bool)(P:Nat→Nat)(h:iN W B fb kb qb n (.slice aa n acap) mf G Q more wrong P)(hn:n≤100000)
  (sb:Nat) (s t:List Nat) (hs:cY W sb (some s)) (h1:sb≠fb) (hP:∀ j s,G[j]?=some (some s)→P j≠sb) (i:Nat) (hi:i<n) (hG:G[i]?=some (some t)) (hne:t.length≠s.length) :
  Calls prog 105 #[.pointer (some ⟨fb,0,none⟩),.int .i64 i,.pointer (some ⟨sb,0,none⟩)] W (GoP B fb kb qb n (.slice aa n acap) mf W sb (some s) G Q more wrong i):=by
 have hst:eP W sb s false:=hs
 have s0:=hst.c0
 have s1:=hst.c1
 have c5:=h.c5
 have c6:=h.c6
 have c9:=h.c9
 have z9:=h.zf 9
 have q1:((i:Int)==(n:Int))=false:=by simp;omega
 have g1:(i:Int)<(n:Int):=by omega
 obtain⟨k1,k2,-⟩:=h.kp i t hG
 have t0:=k2.c0
 have q2:((t.length:Int)!=(s.length:Int))=true:=by simp;omega
 have HF:Hid _:=AI h (AI hG hne)
 clear h hst k2 hs hG hne
 generalize P i=pb at *
 go_enter func105,ntmps105
 go_wp2
 go_quiet (fail)
 go_wp2
 go_end0
 obtain⟨hF,hG,hne⟩:=HF.out
 have hD:=hF.fr ((Fr.refl [] W).drewN nq) (by simp) (by simp) (by simp) (fun _ _ _=>by simp)
 exact⟨rfl,(FrB.of (S:=[]) ((Fr.refl [] W).drewN nq) (Nat.le_trans hF.bf (Nat.le_of_lt hF.lt)) (by simp)).trans (fX hF.bf),aL h1,G,Q,more,true,P,hD.setWrong true,hP,.inl ⟨rfl,rfl,rfl,rfl,.inr (.inr ⟨s,t,rfl,hG,hne⟩)⟩⟩
theorem fN (W:World)(B fb kb qb n:Nat)(aa:Option Addr)(acap:Nat)(mf:Value)(G:List (Option (List Nat)))(Q:List Bool)(more wrong:Bool)(P:Nat→Nat)(h:iN W B fb kb qb n (.slice aa n acap) mf G Q more wrong P)(hn:n≤100000)
  (sb:Nat) (s t:List Nat) (hs:cY W sb (some s)) (h1:sb≠fb) (h2:sb≠qb) (hP:∀ j s,G[j]?=some (some s)→P j≠sb) (i:Nat) (hi:i<n) (hG:G[i]?=some (some t)) (he:t.length=s.length) (hbs:bU s) :
  Calls prog 105 #[.pointer (some ⟨fb,0,none⟩),.int .i64 i,.pointer (some ⟨sb,0,none⟩)] W (GoP B fb kb qb n (.slice aa n acap) mf W sb (some s) G Q more wrong i):=by
 have hst:eP W sb s false:=hs
 have s0:=hst.c0
 have s1:=hst.c1
 have c5:=h.c5
 have c6:=h.c6
 have q1:((i:Int)==(n:Int))=false:=by simp;omega
 have g1:(i:Int)<(n:Int):=by omega
 obtain⟨k1,k2,-⟩:=h.kp i t hG
 have t0:=k2.c0
 have hpn:=hP i t hG
 have hlt2:=k2.lt
 have hsl:=hst.lt
 have HM:Hid _:=fun (nq:Nat)=>aUr (W.drewN nq) (P i) sb t s false false (k2.of_block rfl) (hst.of_block rfl) he hpn
 have HF:Hid _:=AI h (AI hG (AI he (AI hlt2 hsl)))
 rw[he] at t0
 have q2:((s.length:Int)!=(s.length:Int))=false:=by simp
 clear h hst k2 hs hG he hlt2 hsl
 obtain⟨pb,hpb⟩:=eX (P i)
 rw[hpb] at k1 t0 HM hpn
 have HPB:Hid _:=hpb
 clear hpb
 go_enter func105,ntmps105
 go_wp2
 go_quiet (fail)
 go_wp2_with fail
 refine (HM.out nq).mono ?_
 rintro e w2 ⟨rfl,K2,F2⟩
 obtain⟨hF,hG,he,hlt2,hsl⟩:=HF.out
 have hpb:=HPB.out
 have Fq:Fr [] W (W.drewN nq):=(Fr.refl [] W).drewN nq
 have hD:=hF.fr Fq (by simp) (by simp) (by simp) (fun _ _ _=>by simp)
 have hbt:=hF.hb i t hG
 have hB1:B≤W.heap.size:=Nat.le_trans hF.bf (Nat.le_of_lt hF.lt)
 have hBp:B≤pb:=by rw[← hpb];exact (hF.kp i t hG).2.2.1
 have hR2:=FrB.of (B:=B) F2 hB1 (by simpa using hBp)
 have hRq:=FrB.of (B:=B) (S:=[]) Fq hB1 (by simp)
 have hsb2:w2.heap[sb]?=W.heap[sb]?:=F2.block sb hsl (by simp;exact fun e=>hpn e.symm)
 by_cases hu:orL t s=t
 ·rw[decide_eq_false (by simpa using hu)]
  rw[hu] at K2
  have hM2:iN w2 B fb kb qb n (.slice aa n acap) mf G Q more wrong P:=by
   have hx:=hD.meet hG (by rw[hpb];exact F2) (by rw[hpb];exact K2) hbt
   rw[show G.set i (some t)=G from by
    apply List.ext_getElem?
    intro j
    by_cases e:j=i
    ·subst e;rw[List.getElem?_set_self (Lgs.1 hG).1,hG]
    ·rw[List.getElem?_set_ne (fun e2=>e e2.symm)]] at hx
   exact hx
  have HX:Hid _:=AI hM2 (AI (hRq.trans hR2) (AI hsb2 (AI hG (AI he hu))))
  clear hM2 hR2 hRq hsb2 hG he hu K2 F2 hD hF hbt hB1 hBp HF HM s0 s1 c5 c6 k1 t0 q2 hpb
  go_wp2
  go_end0
  obtain⟨x1,x2,x3,x4,x5,x6⟩:=HX.out
  exact⟨rfl,x2,x3,G,Q,more,wrong,P,x1,hP,.inr ⟨rfl,s,rfl,hi,.inr ⟨t,x4,x5,.inl ⟨x6,rfl,rfl,rfl⟩⟩⟩⟩
 ·rw[decide_eq_true (by simpa using hu)]
  have hM2:=hD.meet hG (by rw[hpb];exact F2) (by rw[hpb];exact K2) (aHe hbt hbs)
  have d7:=hM2.c7
  have d8:=hM2.c8
  have z8:=hM2.zf 8
  have zi:=hM2.zq i
  obtain⟨b0,hb0⟩:∃ b0,Q[i]?=some b0:=⟨_,Lge (by rw[hM2.ql];exact hi)⟩
  have di:=hM2.qs i b0 hb0
  have d8':(w2.setCell ⟨qb,i,none⟩ (.bool true)).cell? ⟨fb,8,none⟩=some (.bool more):=(hM2.setWait hi true).c8
  have z8':(w2.setCell ⟨qb,i,none⟩ (.bool true)).frozen? ⟨fb,8,none⟩=false:=(hM2.setWait hi true).zf 8
  have HX:Hid _:=AI hM2 (AI (hRq.trans hR2) (AI hsb2 (AI hG (AI he (AI hu hF)))))
  clear hM2 hR2 hRq hsb2 hG he hu K2 F2 hD hF hbt hB1 hBp HF HM s0 s1 c5 c6 k1 t0 q2 hpb
  go_wp2
  go_end0
  obtain⟨x1,x2,x3,x4,x5,x6,x7⟩:=HX.out
  refine⟨rfl,(x2.trans (fX x7.bq)).trans (fX x7.bf),?_,_,_,true,wrong,P,(x1.setWait hi true).setMore true,fun j s' hj=>?_,.inr ⟨rfl,s,rfl,hi,.inr ⟨t,x4,x5,.inr ⟨x6,rfl,rfl,rfl⟩⟩⟩⟩
  ·rw[aL h1,aL h2,x3]
  ·by_cases e:j=i
   ·subst e;exact hP j t x4
   ·rw[List.getElem?_set_ne (fun e2=>e e2.symm)] at hj
    exact hP j s' hj
theorem bHr:∀ w,(isAgg 165).run prog w=.ok true w:=fun w=>by
 simp[isAgg,go_sem,underlying165]
theorem aHu (W:World)(sb:Nat)(s:List Nat)(wr:Bool)(h:eP W sb s wr):(loadVar 165 ⟨sb,0,none⟩).run prog W=.ok (.agg (iK s wr).toArray) W:=by
 have hi:=aIl
 cases hq:prog.info? 165 with
 | none=>rw[hq] at hi;simp at hi
 | some ie=>
  rw[hq] at hi
  simp only[Option.map_some,Option.some.injEq,Prod.mk.injEq] at hi
  have:=Lib.rl_loadVar_cells (P:=prog) 165 ie hq bHr sb 0 (iK s wr) (by rw[mT,hi.2]) W (fun j v hv=>by rw[Nat.zero_add];exact h.all j v hv)
  exact this
theorem aPa (W:World)(s:List Nat)(wr:Bool):(storeVar 165 ⟨W.heap.size,0,none⟩ (.agg (iK s wr).toArray)).run prog (W.alloc (.cells (iK [] false).toArray 165))=.ok () (W.alloc (.cells (iK s wr).toArray 165)):=
 run_storeVar_new (P:=prog) W 165 (iK [] false).toArray (iK s wr).toArray (by rw[(zero_of_info aIl).2];simp[mT]) (by simp[mT]) (by simp;exact H8 s wr)
theorem aCl {ops:Array Oper}{rest:List Oper}{o:Oper}{a:Act}{w:World}{Q:Exit→Act→World→Prop} (hgd:o.guard=none) (t:TypeId) (x:Operand) (ho:o.op=.load t x) (ad:Addr) (hx:a.eval x=.pointer (some ad)) (v:Value)
  (hrun:(loadVar t ad).run prog w=.ok v w) (h:wpList prog ops Q rest (a.put o.dst v) w):wpList prog ops Q (o :: rest) a w:=by
 refine wpList_plain hgd fun K hK=>?_
 unfold Oper.wp execOp
 simp only[ho,Sem.run_bind,Sem.run_pure,Result.andThen_ok,hx,Instr.loadAt,Instr.sureAddr,hrun]
 exact hK _ _ h
theorem Y8 {ops:Array Oper}{rest:List Oper}{o:Oper}{a:Act}{w w':World}{Q:Exit→Act→World→Prop} (hgd:o.guard=none) (t:TypeId) (p x:Operand) (ho:o.op=.store t p x) (hd:o.dst=none) (ad:Addr) (hp:a.eval p=.pointer (some ad)) (v:Value) (hx:a.eval x=v)
  (hrun:(storeVar t ad v).run prog w=.ok () w') (h:wpList prog ops Q rest a w'):wpList prog ops Q (o :: rest) a w:=by
 refine wpList_plain hgd fun K hK=>?_
 unfold Oper.wp execOp
 simp only[ho,Sem.run_bind,Sem.run_pure,Result.andThen_ok,hp,hx,Instr.storeAt,Instr.sureAddr,hrun]
 refine hK _ _ ?_
 rw[hd]
 exact h
theorem Z0 {ops:Array Oper}{rest:List Oper}{o:Oper}{a:Act}{w:World}{Q:Exit→Act→World→Prop} (hgd:o.guard=none) (t:TypeId) (ho:o.op=.alloc t) (z:Value) (hz:(zeroValue t).run prog w=.ok z w)
  (h:wpList prog ops Q rest (a.put o.dst (.pointer (some ⟨w.heap.size,0,none⟩))) (w.alloc (.cells z.cells t))):wpList prog ops Q (o :: rest) a w:=by
 refine wpList_plain hgd fun K hK=>?_
 unfold Oper.wp execOp
 simp only[ho,Sem.run_bind,Sem.run_pure,Result.andThen_ok]
 have hr:(Instr.alloc t true (.tuple #[])).run prog w=.ok (.pointer (some ⟨w.heap.size,0,none⟩)) (w.alloc (.cells z.cells t)):=by
  unfold Instr.alloc
  simp[go_sem,hz,Result.andThen]
 rw[hr]
 exact hK _ _ h
theorem bCl (W:World)(B fb kb qb n:Nat)(aa:Option Addr)(acap:Nat)(mf:Value)(G:List (Option (List Nat)))(Q:List Bool)(more wrong:Bool)(P:Nat→Nat)(h:iN W B fb kb qb n (.slice aa n acap) mf G Q more wrong P)(hn:n≤100000)
  (sb:Nat) (s:List Nat) (hs:cY W sb (some s)) (h1:sb≠fb) (h2:sb≠qb) (h3:sb≠kb) (hP:∀ j s,G[j]?=some (some s)→P j≠sb) (i:Nat) (hi:i<n) (hG:G[i]?=some none) (hbs:bU s) :
  Calls prog 105 #[.pointer (some ⟨fb,0,none⟩),.int .i64 i,.pointer (some ⟨sb,0,none⟩)] W (GoP B fb kb qb n (.slice aa n acap) mf W sb (some s) G Q more wrong i):=by
 have hst:eP W sb s false:=hs
 have s0:=hst.c0
 have s1:=hst.c1
 have c5:=h.c5
 have c6:=h.c6
 have q1:((i:Int)==(n:Int))=false:=by simp;omega
 have g1:(i:Int)<(n:Int):=by omega
 have k1:=h.ks i hG
 have HF:Hid _:=AI h (AI hG hst)
 clear h hst hs hG
 go_enter func105,ntmps105
 go_wp2
 go_quiet (fail)
 go_upto_if 48 with fail
 obtain⟨WD,hWD⟩:=eX (W.drewN nq)
 have stD:eP WD sb s false:=by rw[← hWD];exact HF.out.2.2.of_block rfl
 have c6:WD.cell? ⟨fb,6,none⟩=some (.slice (some ⟨kb,0,none⟩) n n):=by rw[← hWD];exact HF.out.1.c6
 have Fq:Fr [] W WD:=by rw[← hWD];exact (Fr.refl [] W).drewN nq
 rw[hWD]
 have hld:=aHu WD sb s false stD
 have hzv:=(zero_of_info aIl).1 WD
 have hsv:=aPa WD s false
 generalize hV:iK s false=V at *
 generalize hZ:iK [] false=Z at *
 obtain⟨W5,hW5⟩:=eX (WD.alloc (.cells V.toArray 165))
 have F5:Fr [] WD W5:=by rw[← hW5];exact (Fr.refl [] WD).alloc _
 have k5:=wan WD (.cells V.toArray 165)
 rw[hW5] at k5
 have st5:eP W5 WD.heap.size s false:=mS (by rw[hV];exact k5) stD.hi stD.sm
 have hf:=HF.out.1
 have hB1:B≤W.heap.size:=Nat.le_trans hf.bf (Nat.le_of_lt hf.lt)
 have hNew:=hf.new HF.out.2.1 (nb:=WD.heap.size) Fq.size hB1 (Fq.trans F5) st5 hbs
 have hf5:=hf.fr (Fq.trans F5) (by simp) (by simp) (by simp) (fun _ _ _=>by simp)
 have c6':=hf5.c6
 have e1:=hf5.ks i HF.out.2.1
 have zk:=hf5.zk i
 obtain⟨W6,hW6⟩:=eX (W5.setCell ⟨kb,i,none⟩ (.pointer (some ⟨WD.heap.size,0,none⟩)))
 rw[hW6] at hNew
 have d7:=hNew.c7
 have d8:=hNew.c8
 have zi:=hNew.zq i
 obtain⟨b0,hb0⟩:∃ b0,Q[i]?=some b0:=⟨_,Lge (by rw[hNew.ql];exact hi)⟩
 have di:=hNew.qs i b0 hb0
 have d8':(W6.setCell ⟨qb,i,none⟩ (.bool true)).cell? ⟨fb,8,none⟩=some (.bool more):=(hNew.setWait hi true).c8
 have z8':(W6.setCell ⟨qb,i,none⟩ (.bool true)).frozen? ⟨fb,8,none⟩=false:=(hNew.setWait hi true).zf 8
 have hsbl:W5.heap[sb]?=W.heap[sb]?:=(Fq.trans F5).block sb HF.out.2.2.lt (by simp)
 have hBW:FrB B W W6:=by
  rw[← hW6]
  exact (FrB.of (S:=[]) (Fq.trans F5) hB1 (by simp)).trans (fX hf.bk)
 have hsb6:W6.heap[sb]?=W.heap[sb]?:=by rw[← hW6,aL h3,hsbl]
 have hne:WD.heap.size≠sb:=by have:=HF.out.2.2.lt;have:=Fq.size;omega
 have HX:Hid _:=AI hNew (AI hBW (AI hsb6 (AI hne (AI hf HF.out.2.1))))
 clear stD Fq hWD hV hZ F5 k5 st5 hf hB1 hNew hf5 hsbl hBW hsb6 hne hb0 c5 s0 s1 k1
 go_wp2_with (first | (refine aCl rfl 165 _ rfl _ rfl _ hld ?_) | (refine Z0 rfl 165 rfl _ hzv ?_;simp only[Value.cells]) | (refine Y8 rfl 165 _ _ rfl rfl _ rfl _ rfl hsv ?_))
 go_end0
 obtain⟨x1,x2,x3,x4,x5,x6⟩:=HX.out
 refine⟨rfl,(x2.trans (fX x5.bq)).trans (fX x5.bf),?_,_,_,true,wrong,_,(x1.setWait hi true).setMore true,fun j s' hj=>?_,.inr ⟨rfl,s,rfl,hi,.inl ⟨x6,rfl,rfl,rfl⟩⟩⟩
 ·rw[aL h1,aL h2,x3]
 ·by_cases e:j=i
  ·subst e
   simp only[if_true]
   exact x4
  ·rw[List.getElem?_set_ne (fun e2=>e e2.symm)] at hj
   simp only[e,if_false]
   exact hP j s' hj
theorem rP (W:World)(B fb kb qb n:Nat)(aa:Option Addr)(acap:Nat)(mf:Value)(G:List (Option (List Nat)))(Q:List Bool)(more wrong:Bool)(P:Nat→Nat)(h:iN W B fb kb qb n (.slice aa n acap) mf G Q more wrong P)(hn:n≤100000)
  (sb:Nat) (o:Option (List Nat)) (hs:cY W sb o) (h1:sb≠fb) (h2:sb≠qb) (h3:sb≠kb) (hP:∀ j s,G[j]?=some (some s)→P j≠sb) (i:Nat) (hi:i≤n) (hbs:∀ s,o=some s→bU s) :
  Calls prog 105 #[.pointer (some ⟨fb,0,none⟩),.int .i64 i,.pointer (some ⟨sb,0,none⟩)] W (GoP B fb kb qb n (.slice aa n acap) mf W sb o G Q more wrong i):=by
 by_cases e:i=n
 ·subst e
  exact bCm W B fb kb qb i aa acap mf G Q more wrong P h hn sb o hs h1 hP
 ·have hlt:i<n:=by omega
  cases o with
  | none=>exact aVj W B fb kb qb n aa acap mf G Q more wrong P h hn sb hs h1 hP i hlt
  | some s=>
   have hb:=hbs s rfl
   obtain⟨x,hx⟩:∃ x,G[i]?=some x:=⟨_,Lge (by rw[h.gl];exact hlt)⟩
   cases x with
   | none=>exact bCl W B fb kb qb n aa acap mf G Q more wrong P h hn sb s hs h1 h2 h3 hP i hlt hx hb
   | some t=>
    by_cases he:t.length=s.length
    ·exact fN W B fb kb qb n aa acap mf G Q more wrong P h hn sb s t hs h1 h2 hP i hlt hx he hb
    ·exact aYq W B fb kb qb n aa acap mf G Q more wrong P h hn sb s t hs h1 hP i hlt hx he
end Go.Proofs.YtgpamchpeamnfaaGreatDoor
