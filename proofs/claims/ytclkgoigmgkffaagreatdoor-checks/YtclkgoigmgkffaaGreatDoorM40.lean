/-
  Texts Gn Ir Ob Jo Jp Ka Kb.
-/
import Derived.Test.YtclkgoigmgkffaaGreatDoorMA
import Derived.Test.YtclkgoigmgkffaaGreatDoorM39
import Derived.Test.YtclkgoigmgkffaaGreatDoorM27
import Derived.Test.YtclkgoigmgkffaaGreatDoorM38
import Derived.Test.YtclkgoigmgkffaaGreatDoorM33
set_option linter.unusedSimpArgs false
set_option linter.unusedVariables false
set_option maxRecDepth 100000
set_option maxHeartbeats 40000000
namespace Go.Proofs.YtclkgoigmgkffaaGreatDoor
open Go.RowKit
open Wire
theorem unpackRf_long (b:ByteArray)(w:World)(hm:b.size≤maxLen)(hl:40000<b.size):Calls Tryz.prog 23 #[.string b] w (UnpackPost b w):=by
 have hL:=bl_length b
 have hU:unpack ipF (bl b)=.inl (1,0):=by unfold unpack;rw[if_pos (by omega)]
 have HU:Hid _:=hU
 have g1:(b.size:Int)>40000:=by omega
 unfold maxLen at hm
 have F0:Fr [] w ((w.alloc (.cells #[.slice none 0 0,.slice none 0 0,.int .i64 0,.int .i64 0,.slice none 0 0] 30)).alloc (.cells #[.slice none 0 0,.slice none 0 0,.int .i64 0,.int .i64 0,.slice none 0 0] 30)):=((Fr.refl [] w).alloc _).alloc _
 have hm0:((w.alloc (.cells #[.slice none 0 0,.slice none 0 0,.int .i64 0,.int .i64 0,.slice none 0 0] 30)).alloc (.cells #[.slice none 0 0,.slice none 0 0,.int .i64 0,.int .i64 0,.slice none 0 0] 30)).heap[w.heap.size+1]?=some (.cells #[.slice none 0 0,.slice none 0 0,.int .i64 0,.int .i64 0,.slice none 0 0] 30):=by
  have:=wan (w.alloc (.cells #[.slice none 0 0,.slice none 0 0,.int .i64 0,.int .i64 0,.slice none 0 0] 30)) (.cells #[.slice none 0 0,.slice none 0 0,.int .i64 0,.int .i64 0,.slice none 0 0] 30)
  rw[World.size_alloc] at this
  exact this
 have hres:((w.alloc (.cells #[.slice none 0 0,.slice none 0 0,.int .i64 0,.int .i64 0,.slice none 0 0] 30)).alloc (.cells #[.slice none 0 0,.slice none 0 0,.int .i64 0,.int .i64 0,.slice none 0 0] 30)).heap[w.heap.size]?=some (.cells #[.slice none 0 0,.slice none 0 0,.int .i64 0,.int .i64 0,.slice none 0 0] 30):=by
  rw[Below.heap_alloc _ _ _ (by simp),wan]
 clear hU
 go_enter Tryz.func23,Tryz.ntmps23
 obtain⟨U5,hU5⟩:∃ U5,((w.alloc (.cells #[.slice none 0 0,.slice none 0 0,.int .i64 0,.int .i64 0,.slice none 0 0] 30)).alloc (.cells #[.slice none 0 0,.slice none 0 0,.int .i64 0,.int .i64 0,.slice none 0 0] 30))=U5:=⟨_,rfl⟩
 have r0:U5.cell? ⟨w.heap.size,0,none⟩=some (.slice none 0 0):=by rw[hU5] at hres;unfold World.cell?;rw[hres];rfl
 have r1:U5.cell? ⟨w.heap.size,1,none⟩=some (.slice none 0 0):=by rw[hU5] at hres;unfold World.cell?;rw[hres];rfl
 have r2:U5.cell? ⟨w.heap.size,2,none⟩=some (.int .i64 0):=by rw[hU5] at hres;unfold World.cell?;rw[hres];rfl
 have r3:U5.cell? ⟨w.heap.size,3,none⟩=some (.int .i64 0):=by rw[hU5] at hres;unfold World.cell?;rw[hres];rfl
 have r4:U5.cell? ⟨w.heap.size,4,none⟩=some (.slice none 0 0):=by rw[hU5] at hres;unfold World.cell?;rw[hres];rfl
 rw[← hU5] at r0 r1 r2 r3 r4
 clear hU5 hres hm0
 go_wp2
 refine bodyPost_ret (v:=.tuple #[.agg #[.slice none 0 0,.slice none 0 0,.int .i64 0,.int .i64 0,.slice none 0 0],.int .i64 0,.int .i64 1]) (by simp[results,Tryz.results23,go_sem,r0,r1,r2,r3,r4]) rfl ?_
 exact⟨F0,.inl ⟨1,0,HU.out,by omega,by omega,by omega,rfl⟩⟩
theorem unpackRf_any (b:ByteArray)(w:World)(hm:b.size≤maxLen):Calls Tryz.prog 23 #[.string b] w (UnpackPost b w):=by
 by_cases h:b.size≤40000
 ·exact unpackRf_short b w h
 ·exact unpackRf_long b w hm (by omega)
open Wire Flow Mach
theorem lawfulAll_all {l:List Wire.Fn}{i:Nat} (h:lawfulAll l i=true):∀ x ∈ l,0≤x.params∧x.params≤8∧0≤x.locs∧x.locs≤16∧x.code.size≤20000:=by
 induction l generalizing i with
 | nil=>intro x hx;cases hx
 | cons a l ih=>
  simp only[lawfulAll,Bool.and_eq_true] at h
  intro x hx
  rcases List.mem_cons.1 hx with rfl | hx
  ·have:=h.1
   simp only[lawful,Bool.and_eq_true,decide_eq_true_eq] at this
   obtain⟨⟨⟨⟨⟨h1,h2⟩,h3⟩,h4⟩,h5⟩,-⟩:=this
   exact⟨h1,h2,by omega,h4,h5⟩
  ·exact ih h.2 x hx
theorem moOk_of_within {ip:ByteArray→Bool}{m:Mo} (h:within ip m=true):MoOk m∧3≤m.fns.length:=by
 simp only[within,Bool.and_eq_true,decide_eq_true_eq] at h
 obtain⟨⟨⟨⟨⟨⟨⟨⟨⟨⟨h1,h2⟩,h3⟩,h4⟩,h5⟩,h6⟩,h7⟩,h8⟩,-⟩,-⟩,h9⟩:=h
 refine⟨⟨⟨h4,fun x hx=>?_⟩,h1,h2,⟨h5,h6⟩,⟨h7,h8⟩⟩,h3⟩
 obtain⟨a,b,c,d,e⟩:=lawfulAll_all h9 x hx
 exact⟨a,b,c,by omega,e⟩
def FAns (m:Mo) (k p e:Nat):Prop:=∃ x,m.fns[k]?=some x∧Answers (parOf m) m k x.locs.toNat (bl x.code) p e
theorem FAns.unique {m:Mo}{k p e p' e':Nat} (h:FAns m k p e) (g:FAns m k p' e'):p=p'∧e=e':=by
 obtain⟨x,hx,h⟩:=h
 obtain⟨y,hy,g⟩:=g
 rw[hx] at hy
 cases hy
 exact answers_unique h g
def MAns (m:Mo) (f p e:Nat):Prop:=
 (f=0∧p=0∧e=0∧∀ k,k<m.fns.length→∃ q,FAns m k q 0)∨(e≠0∧FAns m f p e∧∀ k,k<f→∃ q,FAns m k q 0)
theorem FAns.lt {m:Mo}{k p e:Nat} (h:FAns m k p e):k<m.fns.length:=by
 obtain⟨x,hx,-⟩:=h
 exact (Lgs.1 hx).1
theorem MAns.unique {m:Mo}{f p e f' p' e':Nat} (h:MAns m f p e) (g:MAns m f' p' e'):f=f'∧p=p'∧e=e':=by
 rcases h with ⟨h1,h2,h3,h4⟩ | ⟨h1,h2,h3⟩
 ·rcases g with ⟨g1,g2,g3,g4⟩ | ⟨g1,g2,g3⟩
  ·exact⟨by omega,by omega,by omega⟩
  ·obtain⟨q,hq⟩:=h4 f' g2.lt
   exact absurd (hq.unique g2).2.symm g1
 ·rcases g with ⟨g1,g2,g3,g4⟩ | ⟨g1,g2,g3⟩
  ·obtain⟨q,hq⟩:=g4 f h2.lt
   exact absurd (hq.unique h2).2.symm h1
  ·rcases Nat.lt_trichotomy f f' with c | c | c
   ·obtain⟨q,hq⟩:=g3 f c
    exact absurd (hq.unique h2).2.symm h1
   ·subst c
    have:=h2.unique g2
    exact⟨rfl,this.1,this.2⟩
   ·obtain⟨q,hq⟩:=h3 f' c
    exact absurd (hq.unique g2).2.symm g1
def BAns (b:ByteArray) (f p e:Nat):Prop:=
 (unpack ipF (bl b)=.inl (e,p)∧f=0)∨(∃ m,unpack ipF (bl b)=.inr m∧MAns m f p e)
theorem BAns.unique {b:ByteArray}{f p e f' p' e':Nat} (h:BAns b f p e) (g:BAns b f' p' e'):f=f'∧p=p'∧e=e':=by
 rcases h with ⟨h1,h2⟩ | ⟨m,h1,h2⟩
 ·rcases g with ⟨g1,g2⟩ | ⟨m',g1,g2⟩
  ·rw[h1] at g1
   cases g1
   exact⟨by omega,rfl,rfl⟩
  ·rw[h1] at g1;cases g1
 ·rcases g with ⟨g1,g2⟩ | ⟨m',g1,g2⟩
  ·rw[h1] at g1;cases g1
  ·rw[h1] at g1
   cases g1
   exact h2.unique g2
theorem checkR_any (b:ByteArray)(w:World)(hb:b.size≤maxLen)(hT:DocT w)(hT2:DocS w) :
  Calls Tryz.prog 12 #[.string b] w fun e w'=>Fr [] w w'∧∃ f p x:Nat,e=.returned (.tuple #[.int .i64 f,.int .i64 p,.int .i64 x])∧BAns b f p x∧x≤100:=by
 have hu:=unpackRf_any b w hb
 have HB:Hid _:=hb
 clear hb
 go_enter Tryz.func12,Tryz.ntmps12
 go_wp2_with fail
 refine hu.mono ?_
 rintro ee w1 ⟨F1,(⟨e,p,hun,e0,e100,hp,rfl⟩ | ⟨m,a0,a1,a4,n0,c0,n1,c1,n4,c4,gn,an,hun,rfl,hM⟩)⟩
 ·have q1:((e:Int)==0)=false:=by simp;omega
  have q2:((e:Int)!=0)=true:=by simp;omega
  have HB2:=HB.out
  unfold maxLen at HB2
  have HX:Hid _:=AI F1 hun
  clear hun hu F1
  go_wp2
  go_ret3
  obtain⟨F1,hun⟩:=HX.out
  refine⟨F1.trans ((Fr.refl [] w1).alloc _),0,p,e,rfl,.inl ⟨hun,rfl⟩,e100⟩
 ·obtain⟨hMo,h3⟩:=moOk_of_within (unpack_inr hun).1
  have hMI:=hM.mod
  obtain⟨W1,hW1⟩:∃ W1,w1.alloc (.cells #[.slice a0 n0 c0,.slice a1 n1 c1,.int .i64 gn,.int .i64 an,.slice a4 n4 c4] 30)=W1:=⟨_,rfl⟩
  have FA:Fr [] w1 W1:=by rw[← hW1];exact (Fr.refl [] w1).alloc _
  have k1:=wan w1 (.cells #[.slice a0 n0 c0,.slice a1 n1 c1,.int .i64 gn,.int .i64 an,.slice a4 n4 c4] 30)
  rw[hW1] at k1
  have kl:=(Age.1 k1).1
  have hcs:∀ W,Fr [] W1 W→(W.cell? ⟨w1.heap.size,0,none⟩=some (.slice a0 n0 c0)∧W.cell? ⟨w1.heap.size,1,none⟩=some (.slice a1 n1 c1)∧W.cell? ⟨w1.heap.size,2,none⟩=some (.int .i64 gn)∧W.cell? ⟨w1.heap.size,3,none⟩=some (.int .i64 an)∧W.cell? ⟨w1.heap.size,4,none⟩=some (.slice a4 n4 c4)):=fun W hW=>by
   have e1:∀ j v,(#[.slice a0 n0 c0,.slice a1 n1 c1,.int .i64 gn,.int .i64 an,.slice a4 n4 c4]:Array Value)[j]?=some v→W.cell? ⟨w1.heap.size,j,none⟩=some v:=fun j v hv=>by
    unfold World.cell?
    rw[hW.block _ kl (by simp),k1]
    exact hv
   exact⟨e1 0 _ rfl,e1 1 _ rfl,e1 2 _ rfl,e1 3 _ rfl,e1 4 _ rfl⟩
  have hn4:n4=m.fns.length:=by
   obtain⟨tv,pv,fv,hv,-,-,hfn⟩:=hMI.is
   obtain⟨aa,cap,g,off,hv2,-⟩:=hfn
   subst hv2
   simp only[Value.agg.injEq,Array.mk.injEq,List.cons.injEq,Value.slice.injEq] at hv
   exact hv.2.2.2.2.1.2.1
  have hck:=fun (W:World) (hW:Fr [] W1 W) (k:Nat) (x:Wire.Fn) (hx:m.fns[k]?=some x)=>checkedR_any _ m W k x (hT.fr ((F1.trans FA).trans hW)) (hT2.fr ((F1.trans FA).trans hW)) (hMI.fr (FA.trans hW)) hMo hx
  have HCk:Hid _:=fun (_:Unit)=>hck
  have HCs:Hid _:=hcs
  have F1A:=F1.trans FA
  have HX:Hid _:=AI hun (AI F1A (AI hn4 h3))
  have hn1000:n4≤1000:=by rw[hn4];exact hMo.f.n
  clear hck hcs hun hMo hMI hM hu FA F1 F1A k1 kl hT hT2 HB h3 hn4
  go_wp2
  clear hW1
  go_loopw [8] (fun i wr=>∃ k:Nat,i=.int .i64 (k:Nat)∧k≤n4∧Fr [] W1 wr∧Hid (∀ q,q<k→∃ r,FAns m q r 0)) (fun i _=>n4-(intOf i).toNat)
  case atStart=>exact⟨0,rfl,by omega,Fr.refl [] _,fun q hq=>absurd hq (by omega)⟩
  case round=>
   obtain⟨k,rfl,hk,FW,hA⟩:=hrel
   obtain⟨d0,d1,d2,d3,d4⟩:=HCs.out wr FW
   by_cases hlt:k<n4
   ·have g1:(k:Int)<(n4:Int):=by omega
    obtain⟨x,hx⟩:∃ x,m.fns[k]?=some x:=⟨_,Lge (by rw[← HX.out.2.2.1];exact hlt)⟩
    have hcall:=HCk.out () wr FW k x hx
    have HCall:Hid _:=fun (_:Unit)=>hcall
    clear hcall
    go_wp2_with fail
    refine (HCall.out ()).mono ?_
    rintro ee w3 ⟨F3,p,y,rfl,hans,hp2,hy2⟩
    clear d0 d1 d2 d3 d4 HCall
    by_cases hy0:y=0
    ·subst hy0
     go_wp2
     refine⟨⟨k+1,by go_num,by omega,FW.trans F3,fun q hq=>?_⟩,?_⟩
     ·by_cases e:q<k
      ·exact hA.out q e
      ·have e2:q=k:=by omega
       subst e2
       exact⟨p,x,hx,hans⟩
     ·simp[intOf]
      omega
    ·have q1:((y:Int)==0)=false:=by simp;omega
     have q2:((y:Int)!=0)=true:=by simp;omega
     go_wp2
     go_ret3
     exact⟨(HX.out.2.1.trans FW).trans F3,k,p,y,rfl,.inr ⟨m,HX.out.1,.inr ⟨hy0,⟨x,hx,hans⟩,hA.out⟩⟩,by omega⟩
   ·have g1:¬ (k:Int)<(n4:Int):=by omega
    go_wp2
    go_ret3
    exact⟨HX.out.2.1.trans FW,0,0,0,rfl,.inr ⟨m,HX.out.1,.inl ⟨rfl,rfl,rfl,fun q hq=>hA.out q (by have:=HX.out.2.2.1;omega)⟩⟩,by omega⟩
theorem unpackM_any (b:ByteArray)(w:World)(hm:b.size≤maxLen)(hT:Tab w):Calls Tryz.prog 19 #[.string b] w (UnpackPost b w):=by
 by_cases h:b.size≤40000
 ·exact unpackM_short b w h hT
 ·exact unpackM_long b w hm (by omega)
def MChkP (m:Mo) (w:World) (e:Ending) (w':World):Prop:=Fr [] w w'∧∃ f p x:Nat,e=.returned (.tuple #[.int .i64 f,.int .i64 p,.int .i64 x])∧MAns m f p x∧x≤100
theorem couP_out {par:Nat→Nat}{l:List Stp}{e:Ending} (h:CouP par l e):∃ b,e=.returned (.bool b)∧(b=true↔¬ Flow.Safe par l):=h
theorem checkM_any (mv:Value)(m:Mo)(w:World)(hM:ModIn w mv m)(hMo:MoOk m)(h3:3≤m.fns.length):Calls Tryz.prog 20 #[mv] w (MChkP m w):=by
 have hM0:=hM
 have hrd:=fun (W:World) (hW:Fr [] w W) (k:Nat) (x:Wire.Fn) (hx:m.fns[k]?=some x)=>readI_any mv m W k x (hM.fr hW) hMo hx
 obtain⟨tv,pv,fv,rfl,h1,h2,h4⟩:=hM.is
 obtain⟨ta,tc,-,-,rfl,-⟩:=h1
 obtain⟨pa,pc,-,-,rfl,-⟩:=h2
 obtain⟨a0,cap,g,off,rfl,hc,hx0,hxx⟩:=h4
 obtain⟨rfl,hgl⟩:=hx0 (by omega)
 have hn:=hMo.f.n
 have hpar:∀ a,a<m.fns.length→w.cell? ⟨g,off+a*3,none⟩=some (.int .i64 (parOf m a:Nat))∧parOf m a≤8:=fun a ha=>by
  obtain⟨x,hx⟩:∃ x,m.fns[a]?=some x:=⟨_,Lge ha⟩
  have hp:=hMo.f.p x (List.mem_of_getElem? hx)
  have e:parOf m a=x.params.toNat:=by unfold parOf fnOf;rw[List.getD_eq_getElem?_getD,hx];rfl
  refine⟨?_,by rw[e];omega⟩
  rw[(hxx a x hx).1,e]
  congr 2
  omega
 have hcg:=fun (W:World) (hW:Fr [] w W) (n acap:Nat) (aa:Option Addr) (l:List Stp) (T:List Nat) (hn1:n≤100000) (hln:l.length=n) (hA:0<n→∃ ga,aa=some ⟨ga,0,none⟩∧ga<W.heap.size∧InsM W ga l T) (hJ:Joined l T n) (hok:∀ s ∈ l,StpOk m s)=>
  could_any W ta pa m.texts.length tc m.pats.length pc m g off m.fns.length cap n acap aa hn1 l T hln hA hJ rfl (fun a ha=>⟨(hW.cell (p:=⟨g,off+a*3,none⟩) hgl (by simp)).trans (hpar a ha).1,(hpar a ha).2⟩) (Nll hgl hW.size) hn hok
 obtain⟨W1,hW1⟩:∃ W1,w.alloc (.cells #[.slice ta m.texts.length tc,.slice pa m.pats.length pc,.int .i64 m.globs,.int .i64 m.arrs,.slice (some ⟨g,off,none⟩) m.fns.length cap] 30)=W1:=⟨_,rfl⟩
 have FA:Fr [] w W1:=by rw[← hW1];exact (Fr.refl [] w).alloc _
 have k1:=wan w (.cells #[.slice ta m.texts.length tc,.slice pa m.pats.length pc,.int .i64 m.globs,.int .i64 m.arrs,.slice (some ⟨g,off,none⟩) m.fns.length cap] 30)
 rw[hW1] at k1
 have kl:=(Age.1 k1).1
 have hcs:∀ W,Fr [] W1 W→(W.cell? ⟨w.heap.size,0,none⟩=some (.slice ta m.texts.length tc)∧W.cell? ⟨w.heap.size,1,none⟩=some (.slice pa m.pats.length pc)∧W.cell? ⟨w.heap.size,2,none⟩=some (.int .i64 m.globs)∧W.cell? ⟨w.heap.size,3,none⟩=some (.int .i64 m.arrs)∧W.cell? ⟨w.heap.size,4,none⟩=some (.slice (some ⟨g,off,none⟩) m.fns.length cap)):=fun W hW=>by
  have e1:∀ j v,(#[.slice ta m.texts.length tc,.slice pa m.pats.length pc,.int .i64 m.globs,.int .i64 m.arrs,.slice (some ⟨g,off,none⟩) m.fns.length cap]:Array Value)[j]?=some v→W.cell? ⟨w.heap.size,j,none⟩=some v:=fun j v hv=>by
   unfold World.cell?
   rw[hW.block _ kl (by simp),k1]
   exact hv
  exact⟨e1 0 _ rfl,e1 1 _ rfl,e1 2 _ rfl,e1 3 _ rfl,e1 4 _ rfl⟩
 obtain⟨-,-,-,-,d4⟩:=hcs W1 (Fr.refl [] W1)
 have HRd:Hid _:=fun (_:Unit)=>hrd
 have HCg:Hid _:=fun (_:Unit)=>hcg
 have HCs:Hid _:=hcs
 have HFA:Hid _:=FA
 have hcode:∀ x ∈ m.fns,x.code.size≤20000:=fun x hx=>(hMo.f.p x hx).2.2.2.2
 have HCode:Hid _:=hcode
 clear hrd hcg hcs FA k1 kl hcode hM0 hM hMo hpar hxx hx0 h3
 generalize hnf:m.fns.length=nf at *
 go_enter Tryz.func20,Tryz.ntmps20
 go_wp2
 clear hW1 d4
 go_loopw [12] (fun i wr=>∃ k:Nat,i=.int .i64 (k:Nat)∧k≤nf∧Fr [] W1 wr∧Hid (∀ q,q<k→∃ r,FAns m q r 0)) (fun i _=>nf-(intOf i).toNat)
 case atStart=>exact⟨0,rfl,by omega,Fr.refl [] _,fun q hq=>absurd hq (by omega)⟩
 case round=>
  obtain⟨k,rfl,hk,FW,hA⟩:=hrel
  obtain⟨d0,d1,d2,d3,d4⟩:=HCs.out wr FW
  by_cases hlt:k<nf
  ·have g1:(k:Int)<(nf:Int):=by omega
   obtain⟨x,hx⟩:∃ x,m.fns[k]?=some x:=⟨_,Lge (by rw[hnf];exact hlt)⟩
   have hxc:=HCode.out x (List.mem_of_getElem? hx)
   have hcall:=HRd.out () wr (HFA.out.trans FW) k x hx
   have HCall:Hid _:=fun (_:Unit)=>hcall
   clear hcall
   go_wp2_with fail
   refine (HCall.out ()).mono ?_
   rintro ee w3 ⟨F3,(⟨j,y,rfl,y0,y20,hj,hbad⟩ | ⟨aa,acap,ga,l,T,rfl,hR,hbj,hlc,hgood⟩)⟩
   ·have q1:((y:Int)==0)=false:=by simp;omega
    have q2:((y:Int)!=0)=true:=by simp;omega
    have hans:FAns m k j y:=by
     refine⟨x,hx,?_⟩
     rcases hbad with hbad | ⟨l,h1,h2,rfl⟩
     ·exact .inl hbad
     ·exact .inr ⟨l,h1,.inl ⟨_,h2,rfl,rfl⟩⟩
    have HAn:Hid _:=hans
    clear hans hbad d0 d1 d2 d3 d4 HCall
    go_wp2
    go_ret3
    exact⟨(HFA.out.trans FW).trans F3,k,j,y,rfl,.inr ⟨y0,HAn.out,hA.out⟩,by omega⟩
   ·have hok:=Chain.ok hR
    have hle:=Chain.le hR (by omega)
    rw[bl_length] at hle
    obtain⟨n,hn2⟩:∃ n,l.length=n:=⟨_,rfl⟩
    have F03:=(HFA.out.trans FW).trans F3
    have hcw:=HCg.out () w3 F03 n acap aa l T (by omega) hn2 (fun h0=>by obtain⟨e1,e2,-,e3,-⟩:=hgood (by omega);exact⟨ga,e1,e2,e3⟩) (fun i s hi hs hf=>by
     have hll:i<l.length:=by omega
     obtain⟨-,-,-,-,e5⟩:=hgood (by omega)
     exact e5 i s hll hs hf) hok
    have HCw:Hid _:=fun (_:Unit)=>hcw
    obtain⟨b0,b1,b2,b3,b4⟩:=HCs.out w3 (FW.trans F3)
    have HX:Hid _:=AI hR (AI hbj (AI hx F03))
    rw[hn2]
    clear hcw hR hbj hlc hgood hok hle F03 d0 d1 d2 d3 d4 HCall hx
    go_wp2_with fail
    refine (HCw.out ()).mono ?_
    rintro ee w4 ⟨hcp,F4⟩
    obtain⟨b,rfl,hb⟩:=couP_out hcp
    clear hcp b0 b1 b2 b3 b4 HCw
    cases b with
    | true=>
     have hns:¬ Flow.Safe (parOf m) l:=hb.1 rfl
     clear hb
     go_wp2
     go_ret3
     exact⟨HX.out.2.2.2.trans F4,k,0,12,rfl,.inr ⟨by omega,⟨x,HX.out.2.2.1,.inr ⟨l,HX.out.1,.inr ⟨HX.out.2.1,rfl,.inr ⟨hns,rfl⟩⟩⟩⟩,hA.out⟩,by omega⟩
    | false=>
     have hsf:Flow.Safe (parOf m) l:=Classical.byContradiction fun h=>by have:=hb.2 h;cases this
     have HSf:Hid _:=hsf
     clear hb hsf
     go_wp2
     refine⟨⟨k+1,by go_num,by omega,(FW.trans F3).trans F4,fun q hq=>?_⟩,?_⟩
     ·by_cases e:q<k
      ·exact hA.out q e
      ·have e2:q=k:=by omega
       subst e2
       exact⟨0,x,HX.out.2.2.1,.inr ⟨l,HX.out.1,.inr ⟨HX.out.2.1,rfl,.inl ⟨HSf.out,rfl⟩⟩⟩⟩
     ·simp[intOf]
      omega
  ·have g1:¬ (k:Int)<(nf:Int):=by omega
   go_wp2
   go_ret3
   exact⟨HFA.out.trans FW,0,0,0,rfl,.inl ⟨rfl,rfl,rfl,fun q hq=>hA.out q (by omega)⟩,by omega⟩
theorem check_any (b:ByteArray)(w:World)(hb:b.size≤maxLen)(hT:Tab w) :
  Calls Tryz.prog 9 #[.string b] w fun e w'=>Fr [] w w'∧∃ f p x:Nat,e=.returned (.tuple #[.int .i64 f,.int .i64 p,.int .i64 x])∧BAns b f p x∧x≤100:=by
 have hu:=unpackM_any b w hb hT
 have HB:Hid _:=hb
 clear hb hT
 go_enter Tryz.func9,Tryz.ntmps9
 go_wp2_with fail
 refine hu.mono ?_
 rintro ee w1 ⟨F1,(⟨e,p,hun,e0,e100,hp,rfl⟩ | ⟨m,a0,a1,a4,n0,c0,n1,c1,n4,c4,gn,an,hun,rfl,hM⟩)⟩
 ·have q1:((e:Int)==0)=false:=by simp;omega
  have q2:((e:Int)!=0)=true:=by simp;omega
  have HB2:=HB.out
  unfold maxLen at HB2
  have HX:Hid _:=AI F1 hun
  clear hun hu F1
  go_wp2
  go_ret3
  obtain⟨F1,hun⟩:=HX.out
  refine⟨F1.trans ((Fr.refl [] w1).alloc _),0,p,e,rfl,.inl ⟨hun,rfl⟩,e100⟩
 ·obtain⟨hMo,h3⟩:=moOk_of_within (unpack_inr hun).1
  have hMI:=hM.mod
  obtain⟨W1,hW1⟩:∃ W1,w1.alloc (.cells #[.slice a0 n0 c0,.slice a1 n1 c1,.int .i64 gn,.int .i64 an,.slice a4 n4 c4] 30)=W1:=⟨_,rfl⟩
  have FA:Fr [] w1 W1:=by rw[← hW1];exact (Fr.refl [] w1).alloc _
  have k1:=wan w1 (.cells #[.slice a0 n0 c0,.slice a1 n1 c1,.int .i64 gn,.int .i64 an,.slice a4 n4 c4] 30)
  rw[hW1] at k1
  have d0:W1.cell? ⟨w1.heap.size,0,none⟩=some (.slice a0 n0 c0):=by unfold World.cell?;rw[k1];rfl
  have d1:W1.cell? ⟨w1.heap.size,1,none⟩=some (.slice a1 n1 c1):=by unfold World.cell?;rw[k1];rfl
  have d2:W1.cell? ⟨w1.heap.size,2,none⟩=some (.int .i64 gn):=by unfold World.cell?;rw[k1];rfl
  have d3:W1.cell? ⟨w1.heap.size,3,none⟩=some (.int .i64 an):=by unfold World.cell?;rw[k1];rfl
  have d4:W1.cell? ⟨w1.heap.size,4,none⟩=some (.slice a4 n4 c4):=by unfold World.cell?;rw[k1];rfl
  have hck:=checkM_any _ m W1 (hMI.fr FA) hMo h3
  have HCk:Hid _:=fun (_:Unit)=>hck
  have HX:Hid _:=AI hun (F1.trans FA)
  clear hck hun hMo hMI hM hu FA F1 k1 HB h3
  go_wp2_with fail
  refine (HCk.out ()).mono ?_
  rintro ee w3 ⟨F3,f,p,x,rfl,hans,hx⟩
  clear d0 d1 d2 d3 d4
  go_wp2
  go_ret3
  exact⟨HX.out.2.trans F3,f,p,x,rfl,.inr ⟨m,HX.out.1,hans⟩,hx⟩
theorem numC_any (n:Int)(w:World):Calls Tryz.prog 10 #[.int .i64 n] w fun e w'=>e=.returned (.int .i64 n)∧w'=w:=by
 go_enter Tryz.func10,Tryz.ntmps10
 go_wp2
 go_ret
 exact⟨rfl,rfl⟩
theorem modCheck_any (w:World)(b:Nat)(bs:ByteArray)(a b':Int)(s t u:ByteArray)(hb:w.cell? ⟨b,1,none⟩=some (.string bs))(hsz:bs.size≤maxLen)(hT:Tab w)(hD:DocT w)(hS:DocS w) :
  Calls Tryz.prog 29 #[.pointer (some ⟨b,0,none⟩),.agg #[.int .i64 14,.int .i64 a,.int .i64 b',.string s,.string t,.string u]] w fun e w'=>e=.returned (.bool true)∧Fr [] w w':=by
 obtain⟨W1,hW1⟩:∃ W1,w.alloc (.cells #[.int .i64 14,.int .i64 a,.int .i64 b',.string s,.string t,.string u] 61)=W1:=⟨_,rfl⟩
 have F1:Fr [] w W1:=by rw[← hW1];exact (Fr.refl [] w).alloc _
 have k1:=wan w (.cells #[.int .i64 14,.int .i64 a,.int .i64 b',.string s,.string t,.string u] 61)
 rw[hW1] at k1
 have c0:W1.cell? ⟨w.heap.size,0,none⟩=some (.int .i64 14):=by unfold World.cell?;rw[k1];rfl
 have hbl:b<w.heap.size:=lt_of_cell hb
 have hb1:=(F1.cell (p:=⟨b,1,none⟩) hbl (by simp)).trans hb
 have HC:Hid _:=fun (_:Unit)=>check_any bs W1 hsz (hT.fr F1 (by simp))
 have HR:Hid _:=fun (W:World) (hW:Fr [] w W)=>checkR_any bs W hsz (hD.fr hW) (hS.fr hW)
 have HN:Hid _:=fun (n:Int) (W:World)=>numC_any n W
 have HF:Hid _:=AI F1 (AI hb hbl)
 clear hT hD hS F1 k1 hb hbl hsz
 go_enter Tryz.func29,Tryz.ntmps29
 go_wp2_with fail
 refine (HC.out ()).mono ?_
 rintro e w2 ⟨F2,f,p,x,rfl,h1,hx⟩
 have F02:=HF.out.1.trans F2
 have hb2:=(F02.cell (p:=⟨b,1,none⟩) HF.out.2.2 (by simp)).trans HF.out.2.1
 clear HC F2 c0 hb1
 go_wp2_with fail
 refine (HR.out w2 F02).mono ?_
 rintro e w3 ⟨F3,f',p',x',rfl,h2,hx'⟩
 obtain⟨rfl,rfl,rfl⟩:=h1.unique h2
 have F03:=F02.trans F3
 clear HR F02 F3 hb2 h1 h2
 have q1:((f:Int)==(f:Int))=true:=by simp
 have q2:((p:Int)==(p:Int))=true:=by simp
 have q3:((x:Int)==(x:Int))=true:=by simp
 go_wp2_with fail
 refine (HN.out _ _).mono ?_
 rintro e w4 ⟨rfl,hw⟩
 replace hw:=hw.symm
 subst hw
 go_wp2
 go_ret
 exact⟨rfl,F03⟩
structure ScC (w0 W:World) (b:Nat) (ms:Value) (bs:ByteArray) (r d:Value) (xs ys:List Value):Prop where
 fr:FrB w0.heap.size w0 W
 c0:W.cell? ⟨b,0,none⟩=some ms
 c1:W.cell? ⟨b,1,none⟩=some (.string bs)
 c2:W.cell? ⟨b,2,none⟩=some (.string ⟨#[]⟩)
 c3:W.cell? ⟨b,3,none⟩=some r
 c4:W.cell? ⟨b,4,none⟩=some d
 c5:W.cell? ⟨b,5,none⟩=some (.slice none 0 0)
 c6:W.cell? ⟨b,6,none⟩=some (.int .i64 0)
 c7:∀ j,7≤j→j<15→W.cell? ⟨b,j,none⟩=some (.slice none 0 0)
 fz:∀ j,W.frozen? ⟨b,j,none⟩=false
 lb:w0.heap.size≤b
 rr:W.ownsRow w0.heap.size 9 1 r xs.length xs
 rd:W.ownsRow w0.heap.size 3 1 d ys.length ys
 n1:r.ownBlock≠some b
 n2:d.ownBlock≠some b
 n3:∀ g,r.ownBlock=some g→d.ownBlock≠some g
 sz:bs.size≤9223372036854775807
theorem own_of_block {W W':World}{B:Nat}{e:TypeId}{k:Nat}{v:Value}{n:Nat}{xs:List Value} (h:W.ownsRow B e k v n xs) (hb:∀ g,v.ownBlock=some g→W'.heap[g]?=W.heap[g]?):W'.ownsRow B e k v n xs:=by
 refine⟨h.1,?_⟩
 rcases h.2 with h' | ⟨g,cap,cur,hv,hg,hh,r⟩
 ·exact .inl h'
 ·exact .inr ⟨g,cap,cur,hv,hg,by rw[hb g (by rw[hv];rfl)];exact hh,r⟩
theorem ScC.lt {w0 W:World}{b:Nat}{ms:Value}{bs:ByteArray}{r d:Value}{xs ys:List Value} (h:ScC w0 W b ms bs r d xs ys):b<W.heap.size:=lt_of_cell h.c1
theorem ScC.keep {w0 W W':World}{b:Nat}{ms:Value}{bs:ByteArray}{r d:Value}{xs ys:List Value} (h:ScC w0 W b ms bs r d xs ys) (hf:Fr [] W W'):ScC w0 W' b ms bs r d xs ys:=by
 have e:∀ j,W'.cell? ⟨b,j,none⟩=W.cell? ⟨b,j,none⟩:=fun j=>hf.cell (p:=⟨b,j,none⟩) h.lt (by simp)
 have hB:w0.heap.size≤W.heap.size:=h.fr.size
 refine⟨h.fr.trans (FrB.of hf hB (by simp)),(e _).trans h.c0,(e _).trans h.c1,(e _).trans h.c2,(e _).trans h.c3,(e _).trans h.c4,(e _).trans h.c5,(e _).trans h.c6,fun j h1 h2=>(e j).trans (h.c7 j h1 h2),fun j=>(hf.frozen (p:=⟨b,j,none⟩) h.lt (by simp)).trans (h.fz j),h.lb,own_fr h.rr hf (by simp),own_fr h.rd hf (by simp),h.n1,h.n2,h.n3,h.sz⟩
theorem ScC.bytes {w0 W:World}{b:Nat}{ms:Value}{bs:ByteArray}{r d:Value}{xs ys:List Value} (h:ScC w0 W b ms bs r d xs ys) (s:ByteArray) (hs:s.size≤9223372036854775807):ScC w0 (W.setCell ⟨b,1,none⟩ (.string s)) b ms s r d xs ys:=by
 refine⟨h.fr.trans (frB_set h.lb),(setCell_off (by decide)).trans h.c0,cell_set h.c1,(setCell_off (by decide)).trans h.c2,(setCell_off (by decide)).trans h.c3,(setCell_off (by decide)).trans h.c4,(setCell_off (by decide)).trans h.c5,(setCell_off (by decide)).trans h.c6,fun j h1 h2=>(setCell_off (by omega)).trans (h.c7 j h1 h2),fun j=>by rw[wfz];exact h.fz j,h.lb,own_of_block h.rr (fun g hg=>setCell_block (fun e=>h.n1 (by rw[hg,e]))),own_of_block h.rd (fun g hg=>setCell_block (fun e=>h.n2 (by rw[hg,e]))),h.n1,h.n2,h.n3,hs⟩
theorem ScC.bare {w0 W:World}{b:Nat}{ms:Value}{bs:ByteArray}{r d:Value}{xs ys:List Value} (h:ScC w0 W b ms bs r d xs ys):ScC w0 ((W.setCell ⟨b,3,none⟩ (.slice none 0 0)).setCell ⟨b,4,none⟩ (.slice none 0 0)) b ms bs (.slice none 0 0) (.slice none 0 0) [] []:=by
 refine⟨(h.fr.trans (frB_set h.lb)).trans (frB_set h.lb),(setCell_off (by decide)).trans ((setCell_off (by decide)).trans h.c0),(setCell_off (by decide)).trans ((setCell_off (by decide)).trans h.c1),(setCell_off (by decide)).trans ((setCell_off (by decide)).trans h.c2),(setCell_off (by decide)).trans (cell_set h.c3),cell_set ((setCell_off (by decide)).trans h.c4),(setCell_off (by decide)).trans ((setCell_off (by decide)).trans h.c5),(setCell_off (by decide)).trans ((setCell_off (by decide)).trans h.c6),fun j h1 h2=>(setCell_off (by omega)).trans ((setCell_off (by omega)).trans (h.c7 j h1 h2)),fun j=>by rw[wfz,wfz];exact h.fz j,h.lb,World.ownsRow_nil _ _ _ _,World.ownsRow_nil _ _ _ _,(by intro e;cases e),(by intro e;cases e),fun g e=>(by cases e),h.sz⟩
def OwnP (w0:World) (b:Nat) (ms:Value) (xn yn:Nat) (e:Ending) (W':World):Prop:=
 e=.returned (.tuple #[])∧∃ bs r d xs ys,ScC w0 W' b ms bs r d xs ys∧xs.length≤xn+1∧ys.length≤yn+1
def opV (k a b':Int) (s t u:ByteArray):Value:=.agg #[.int .i64 k,.int .i64 a,.int .i64 b',.string s,.string t,.string u]
theorem ownC_bytes (w0 W:World)(b:Nat)(ms:Value)(bs:ByteArray)(r d:Value)(xs ys:List Value)(a b':Int)(s t u:ByteArray)(h:ScC w0 W b ms bs r d xs ys)(hs:s.size≤9223372036854775807) :
  Calls Tryz.prog 27 #[.pointer (some ⟨b,0,none⟩),opV 1 a b' s t u] W (OwnP w0 b ms xs.length ys.length):=by
 unfold opV
 obtain⟨W1,hW1⟩:∃ W1,W.alloc (.cells #[.int .i64 1,.int .i64 a,.int .i64 b',.string s,.string t,.string u] 61)=W1:=⟨_,rfl⟩
 have F1:Fr [] W W1:=by rw[← hW1];exact (Fr.refl [] W).alloc _
 have k1:=wan W (.cells #[.int .i64 1,.int .i64 a,.int .i64 b',.string s,.string t,.string u] 61)
 rw[hW1] at k1
 have c0:W1.cell? ⟨W.heap.size,0,none⟩=some (.int .i64 1):=by unfold World.cell?;rw[k1];rfl
 have c3:W1.cell? ⟨W.heap.size,3,none⟩=some (.string s):=by unfold World.cell?;rw[k1];rfl
 have h1:=h.keep F1
 have e1:=h1.c1
 have z1:=h1.fz 1
 have HX:Hid _:=h1
 clear h h1 F1 k1
 go_enter Tryz.func27,Tryz.ntmps27
 go_wp2
 go_end0
 exact⟨rfl,s,r,d,xs,ys,HX.out.bytes s hs,by omega,by omega⟩
theorem ownC_made (w0 W:World)(b:Nat)(ms:Value)(bs:ByteArray)(r d:Value)(xs ys:List Value)(a b':Int)(s t u:ByteArray)(h:ScC w0 W b ms bs r d xs ys) :
  Calls Tryz.prog 27 #[.pointer (some ⟨b,0,none⟩),opV 4 a b' s t u] W (OwnP w0 b ms xs.length ys.length):=by
 unfold opV
 obtain⟨W1,hW1⟩:∃ W1,W.alloc (.cells #[.int .i64 4,.int .i64 a,.int .i64 b',.string s,.string t,.string u] 61)=W1:=⟨_,rfl⟩
 have F1:Fr [] W W1:=by rw[← hW1];exact (Fr.refl [] W).alloc _
 have k1:=wan W (.cells #[.int .i64 4,.int .i64 a,.int .i64 b',.string s,.string t,.string u] 61)
 rw[hW1] at k1
 have c0:W1.cell? ⟨W.heap.size,0,none⟩=some (.int .i64 4):=by unfold World.cell?;rw[k1];rfl
 have h1:=h.keep F1
 have e1:=h1.c1
 have e2:=h1.c2
 have z1:=h1.fz 1
 have HX:Hid _:=h1
 clear h h1 F1 k1
 go_enter Tryz.func27,Tryz.ntmps27
 go_wp2
 go_end0
 exact⟨rfl,_,r,d,xs,ys,HX.out.bytes ⟨#[]⟩ (by decide),by omega,by omega⟩
theorem ownC_none (w0 W:World)(b:Nat)(ms:Value)(bs:ByteArray)(r d:Value)(xs ys:List Value)(a b':Int)(s t u:ByteArray)(h:ScC w0 W b ms bs r d xs ys) :
  Calls Tryz.prog 27 #[.pointer (some ⟨b,0,none⟩),opV 7 a b' s t u] W (OwnP w0 b ms xs.length ys.length):=by
 unfold opV
 obtain⟨W1,hW1⟩:∃ W1,W.alloc (.cells #[.int .i64 7,.int .i64 a,.int .i64 b',.string s,.string t,.string u] 61)=W1:=⟨_,rfl⟩
 have F1:Fr [] W W1:=by rw[← hW1];exact (Fr.refl [] W).alloc _
 have k1:=wan W (.cells #[.int .i64 7,.int .i64 a,.int .i64 b',.string s,.string t,.string u] 61)
 rw[hW1] at k1
 have c0:W1.cell? ⟨W.heap.size,0,none⟩=some (.int .i64 7):=by unfold World.cell?;rw[k1];rfl
 have h1:=h.keep F1
 have e3:=h1.c3
 have z3:=h1.fz 3
 have e4:(W1.setCell ⟨b,3,none⟩ (.slice none 0 0)).cell? ⟨b,4,none⟩=some d:=(setCell_off (by decide)).trans h1.c4
 have z4:(W1.setCell ⟨b,3,none⟩ (.slice none 0 0)).frozen? ⟨b,4,none⟩=false:=by rw[wfz];exact h1.fz 4
 have HX:Hid _:=h1
 clear h h1 F1 k1
 go_enter Tryz.func27,Tryz.ntmps27
 go_wp2
 go_end0
 exact⟨rfl,bs,_,_,[],[],HX.out.bare,by simp,by simp⟩
end Go.Proofs.YtclkgoigmgkffaaGreatDoor
