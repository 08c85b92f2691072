/-
  Texts Gf Gg Gh Gb Pg Pe Pf.
-/
import Derived.Test.YtclkgoigmgkffaaGreatDoorMA
import Derived.Test.YtclkgoigmgkffaaGreatDoorM07
import Derived.Test.YtclkgoigmgkffaaGreatDoorM17
import Derived.Test.YtclkgoigmgkffaaGreatDoorM05
import Derived.Test.YtclkgoigmgkffaaGreatDoorM04
import Derived.Test.YtclkgoigmgkffaaGreatDoorM10
import Derived.Test.YtclkgoigmgkffaaGreatDoorM08
set_option linter.unusedSimpArgs false
set_option linter.unusedVariables false
set_option maxRecDepth 100000
set_option maxHeartbeats 40000000
namespace Go.Proofs.YtclkgoigmgkffaaGreatDoor
open Go.RowKit
open Wire
structure RfI (w:World) (r:Nat) (b:ByteArray) (s:Sta) (a e:Nat):Prop where
 c:RdC w r b a e (stR s) (stP s)
 ok:okSta (bl b) s
 at_:∀ x,s=.inr x→a=x.1∧e=x.2
 la:a≤b.size
 le:e≤b.size
theorem RfI.fr {S:List Nat}{w w':World}{r:Nat}{b:ByteArray}{s:Sta}{a e:Nat} (h:RfI w r b s a e) (hf:Fr S w w') (hr:r ∉ S):RfI w' r b s a e:=⟨h.c.fr hf hr,h.ok,h.at_,h.la,h.le⟩
theorem RfI.heap {w w':World}{r:Nat}{b:ByteArray}{s:Sta}{a e:Nat} (h:RfI w r b s a e) (hh:w'.heap=w.heap):RfI w' r b s a e:=⟨h.c.of_block (by rw[hh]),h.ok,h.at_,h.la,h.le⟩
theorem RfI.lt {w:World}{r:Nat}{b:ByteArray}{s:Sta}{a e:Nat} (h:RfI w r b s a e):r<w.heap.size:=h.c.lt
structure RfO (w:World) (r:Nat) (b:ByteArray) (s:Sta) (a e:Nat):Prop where
 c:RdC w r b a e (stR s) (stP s)
 ok:okSta (bl b) s
 at_:∀ x,s=.inr x→a=x.1∧x.2=b.size
 la:a≤b.size
 le:e≤b.size
theorem RfO.fr {S:List Nat}{w w':World}{r:Nat}{b:ByteArray}{s:Sta}{a e:Nat} (h:RfO w r b s a e) (hf:Fr S w w') (hr:r ∉ S):RfO w' r b s a e:=⟨h.c.fr hf hr,h.ok,h.at_,h.la,h.le⟩
theorem RfO.lt {w:World}{r:Nat}{b:ByteArray}{s:Sta}{a e:Nat} (h:RfO w r b s a e):r<w.heap.size:=h.c.lt
theorem faultC_any (w:World)(r:Nat)(b:ByteArray)(a e er sp place no:Nat)(h:RdC w r b a e er sp) :
  Calls Tryz.prog 54 #[.pointer (some ⟨r,0,none⟩),.int .i64 no,.int .i64 place] w fun ee w'=>ee=.returned (.tuple #[])∧RdC w' r b a e (if er=0 then no else er) (if er=0 then place else sp)∧Fr [r] w w':=by
 have K1:=h.set34 no place
 have F1:Fr [r] w ((w.setCell ⟨r,3,none⟩ (.int .i64 no)).setCell ⟨r,4,none⟩ (.int .i64 place)):=((Fr.refl [r] w).setCell (p:=⟨r,3,none⟩) (.inl (by simp)) _).setCell (p:=⟨r,4,none⟩) (.inl (by simp)) _
 have K0:=h
 obtain⟨c0,c1,c2,c3,c4,f1,f2,f3,f4⟩:=h
 by_cases he:er=0
 ·subst he
  rw[if_pos rfl,if_pos rfl]
  clear K0
  go_enter Tryz.func54,Tryz.ntmps54
  go_wp2
  go_end0
  exact⟨rfl,K1,F1⟩
 ·have g1:((er:Int)==0)=false:=by simp;omega
  rw[if_neg he,if_neg he]
  clear K1 F1
  go_enter Tryz.func54,Tryz.ntmps54
  go_wp2
  go_end0
  exact⟨rfl,K0,Fr.refl [r] w⟩
theorem faultRf_any {w:World}{r:Nat}{b:ByteArray}{s:Sta}{a e place no:Nat}{nI:Int} (hn:nI=(no:Int)) (h:RfI w r b s a e) (h0:0<no) (h1:no≤100) (hp:place≤b.size) :
  Calls Tryz.prog 54 #[.pointer (some ⟨r,0,none⟩),.int .i64 nI,.int .i64 place] w fun ee w'=>ee=.returned (.tuple #[])∧RfI w' r b (failS no place s) a e∧Fr [r] w w':=by
 subst hn
 refine (faultC_any w r b _ _ _ _ place no h.c).mono ?_
 rintro e' w' ⟨rfl,K,F⟩
 refine⟨rfl,?_,F⟩
 have hL:=bl_length b
 rcases s with ⟨x,y⟩ | ⟨x,y⟩
 ·obtain⟨k0,k1,k2⟩:=h.ok
  have k3:¬ x=0:=by simp only at k0;omega
  have e1:(if stR (.inl (x,y))=0 then place else stP (.inl (x,y)))=y:=if_neg k3
  have e2:(if stR (.inl (x,y))=0 then no else stR (.inl (x,y)))=x:=if_neg k3
  rw[e1,e2] at K
  exact⟨K,h.ok,fun x hx=>(by cases hx),h.la,h.le⟩
 ·have e1:(if stR (.inr (x,y))=0 then place else stP (.inr (x,y)))=place:=if_pos rfl
  have e2:(if stR (.inr (x,y))=0 then no else stR (.inr (x,y)))=no:=if_pos rfl
  rw[e1,e2] at K
  exact⟨K,⟨h0,h1,by simp only;omega⟩,fun x hx=>(by cases hx),h.la,h.le⟩
theorem out_bad {α:Type}{f:Rd α}{l:List UInt8}{d:α}{s:Sta}{g:Nat × Nat} (h:nextR f l s=.inl g):outR f l d s=d:=by
 rcases s with x | ⟨a,e⟩
 ·rfl
 ·cases hf:f e (seg l a e) with
  | inl x=>rw[outR_inl hf]
  | inr p=>rw[nextR_inr hf] at h;cases h
theorem numRf_any {w:World}{r:Nat}{b:ByteArray}{s:Sta}{a e lo hi:Nat}{lI hI:Int} (hl:lI=(lo:Int)) (hh:hI=(hi:Int)) (h:RfI w r b s a e) (hs:b.size≤40000) :
  Calls Tryz.prog 52 #[.pointer (some ⟨r,0,none⟩),.int .i64 lI,.int .i64 hI] w fun ee w'=>ee=.returned (.int .i64 (outR (numberR lo hi) (bl b) 0 s:Nat))∧(∃ a',RfI w' r b (nextR (numberR lo hi) (bl b) s) a' e)∧Fr [r] w w':=by
 have hm:Tryz.prog.follows Departure.mixedOrders=true:=by kernel_rfl
 have hL:=bl_length b
 subst hl hh
 have K:=h
 have hfail:=fun (no:Nat) (h0:0<no) (h1:no≤100) (W:World) (hW:RfI W r b s a e)=>faultRf_any (place:=a) (no:=no) rfl hW h0 h1 h.la
 obtain⟨⟨c0,c1,c2,c3,c4,f1,f2,f3,f4⟩,hok,hat,hla,hle⟩:=h
 rcases s with ⟨x,y⟩ | ⟨a0,e0⟩
 ·obtain⟨k0,-,-⟩:=hok
  have g1:((x:Int)!=0)=true:=by simp;simp only at k0;omega
  simp only[stR] at c3
  clear hfail
  go_enter Tryz.func52,Tryz.ntmps52
  go_wp2
  go_ret
  exact⟨rfl,⟨a,K⟩,Fr.refl [r] w⟩
 ·obtain⟨rfl,rfl⟩:=hat _ rfl
  obtain⟨o1,o2⟩:=hok
  have hread:=fun (W:World)=>NumberR_any b a e o1 hle (by omega) W
  have hsl:=seg_length (l:=bl b) (a:=a) (e:=e) o2
  cases hn:num (seg (bl b) a e) with
  | none=>
   have hx:numXi b a e = -1:=by simp only[numXi,hn]
   have hy:numYi b a e=a:=by simp only[numYi,hn]
   have hN:numberR lo hi e (seg (bl b) a e)=.inl (6,a):=by simp only[numberR,hn,hsl];congr 2;omega
   rw[nextR_inl hN,outR_inl hN]
   simp only[hx,hy] at hread
   have HF:Hid _:=hfail 6 (by omega) (by omega)
   have HR:Hid _:=hread
   clear hfail hread hx hy hN hn hsl o1 o2 hat
   go_enter Tryz.func52,Tryz.ntmps52
   go_wp2
   go_quiet (first | (go_at_call 115;refine Calls.quiet_of_same (HR.out _)))
   go_wp2_with fail
   refine (HF.out _ ?hk).mono ?_
   case hk=>exact K.heap rfl
   rintro ee w1 ⟨rfl,K1,F1⟩
   go_wp2
   go_ret
   exact⟨rfl,⟨a,K1⟩,⟨F1.os,F1.tape,F1.output,F1.size,F1.block⟩⟩
  | some p=>
   obtain⟨n,q⟩:=p
   obtain⟨e1,hlt⟩:=num_some hn
   have hlen:=congrArg List.length e1
   rw[hsl,Lla] at hlen
   have hx:numXi b a e=(n:Int):=by simp only[numXi,hn]
   have hy:numYi b a e=e-q.length:=by simp only[numYi,hn]
   simp only[hx,hy] at hread
   have g0:¬ ((n:Int)<0):=by omega
   by_cases hc:n<lo∨hi<n
   ·have hN:numberR lo hi e (seg (bl b) a e)=.inl (4,a):=by simp only[numberR,hn,hsl,if_pos hc];congr 2;omega
    rw[nextR_inl hN,outR_inl hN]
    have HF:Hid _:=hfail 4 (by omega) (by omega)
    have HR:Hid _:=hread
    clear hfail hread hx hy hN hn hsl o1 o2 hat e1 hlen
    by_cases hc1:n<lo
    ·have g1:(n:Int)<lo:=by omega
     go_enter Tryz.func52,Tryz.ntmps52
     go_wp2
     go_quiet (first | (go_at_call 115;refine Calls.quiet_of_same (HR.out _)))
     go_wp2_with fail
     refine (HF.out _ ?hk).mono ?_
     case hk=>exact K.heap rfl
     rintro ee w1 ⟨rfl,K1,F1⟩
     go_wp2
     go_ret
     exact⟨rfl,⟨a,K1⟩,⟨F1.os,F1.tape,F1.output,F1.size,F1.block⟩⟩
    ·have g1:¬ (n:Int)<lo:=by omega
     have g2:(n:Int)>hi:=by omega
     go_enter Tryz.func52,Tryz.ntmps52
     go_wp2
     go_quiet (first | (go_at_call 115;refine Calls.quiet_of_same (HR.out _)))
     go_wp2_with fail
     refine (HF.out _ ?hk).mono ?_
     case hk=>exact K.heap rfl
     rintro ee w1 ⟨rfl,K1,F1⟩
     go_wp2
     go_ret
     exact⟨rfl,⟨a,K1⟩,⟨F1.os,F1.tape,F1.output,F1.size,F1.block⟩⟩
   ·have hN:numberR lo hi e (seg (bl b) a e)=.inr (n,q):=by simp only[numberR,hn,if_neg hc]
    rw[nextR_inr hN,outR_inr hN]
    have g1:¬ (n:Int)<lo:=by omega
    have g2:¬ (n:Int)>hi:=by omega
    have K1:RfI (w.setCell ⟨r,1,none⟩ (.int .i64 ((e-q.length:Nat):Int))) r b (.inr (e-q.length,e)) (e-q.length) e:=
     ⟨K.c.set1 (e-q.length),by show e-q.length≤e∧_;exact⟨by omega,o2⟩,fun x hx=>(by cases hx;exact⟨rfl,rfl⟩),by omega,hle⟩
    obtain⟨y,hy'⟩:∃ y:Nat,e-q.length=y:=⟨_,rfl⟩
    rw[hy'] at hread K1 ⊢
    have HR:Hid _:=hread
    clear hfail hread hx hy hN hn hsl o1 o2 hat e1 hlen hy' hc
    go_enter Tryz.func52,Tryz.ntmps52
    go_wp2
    go_quiet (first | (go_at_call 115;refine Calls.quiet_of_same (HR.out _)))
    go_wp2
    go_ret
    exact⟨rfl,⟨y,K1.heap rfl⟩,((Fr.refl [r] w).setCell (p:=⟨r,1,none⟩) (.inl (by simp)) _).drewN _⟩
theorem bytesRf_any {w:World}{r:Nat}{b:ByteArray}{s:Sta}{a e lim:Nat}{lI:Int} (hlim:lI=(lim:Int)) (h:RfI w r b s a e) (hs:b.size≤40000) (h2:lim≤20000) :
  Calls Tryz.prog 116 #[.pointer (some ⟨r,0,none⟩),.int .i64 lI] w fun ee w'=>ee=.returned (.string (outR (bytesR lim) (bl b) ⟨#[]⟩ s))∧(∃ a',RfI w' r b (nextR (bytesR lim) (bl b) s) a' e)∧Fr [r] w w':=by
 subst hlim
 have hm:Tryz.prog.follows Departure.mixedOrders=true:=by kernel_rfl
 have hL:=bl_length b
 have hlm:=numRf_any (lo:=0) (hi:=lim) rfl rfl h hs
 have hok':=(numberR_tidy 0 lim).next h.ok
 have hle:=outN_le lim b s
 have hout:=fun g=>out_bad (f:=numberR 0 lim) (l:=bl b) (d:=0) (s:=s) (g:=g)
 have hat:=h.at_
 obtain⟨x,hx⟩:∃ x,outR (numberR 0 lim) (bl b) 0 s=x:=⟨_,rfl⟩
 obtain⟨s',hs'⟩:∃ s',nextR (numberR 0 lim) (bl b) s=s':=⟨_,rfl⟩
 obtain⟨e1,e2⟩:=bytesR_next lim b s h.ok x s' hx hs'
 rw[e1,e2]
 rw[hx] at hlm hle
 rw[hs'] at hlm hok'
 simp only[hx,hs'] at hout
 obtain⟨m1,m2⟩:=stA_le hok'
 change Calls Tryz.prog 52 #[.pointer (some ⟨r,0,none⟩),.int .i64 0,.int .i64 lim] w _ at hlm
 have c1:=h.c.c1
 rcases s' with ⟨f,y⟩ | ⟨a1,e0⟩
 ·have hx0:x=0:=hout _ rfl
  subst hx0
  have c0:¬ (stE b.size (.inl (f,y))-stA b.size (.inl (f,y))<0):=by omega
  rw[if_neg c0,if_neg c0]
  have hemp:b.extract (stA b.size (.inl (f,y))) (stA b.size (.inl (f,y))+0)=⟨#[]⟩:=by
   apply bl_inj
   rw[bl_extract]
   show seg (bl b) b.size (b.size+0)=_
   rw[Nat.add_zero,seg_nil]
   rfl
  rw[hemp]
  obtain⟨k0,-,-⟩:=hok'
  have g1:((f:Int)!=0)=true:=by simp;simp only at k0;omega
  clear hemp c0 e1 e2 hout hx hs' h hle m1 m2 hat
  go_enter Tryz.func116,Tryz.ntmps116
  go_wp2_with fail
  refine hlm.mono ?_
  rintro ee w1 ⟨rfl,⟨a',K1⟩,F1⟩
  have d3:=K1.c.c3
  simp only[stR] at d3
  clear hlm
  go_wp2
  go_ret
  exact⟨rfl,⟨a',K1⟩,F1⟩
 ·have hs2:∃ a0,s=.inr (a0,e0)∧e=e0:=by
   rcases s with g | ⟨a0,e9⟩
   ·cases hs'
   ·obtain⟨-,rfl⟩:=hat _ rfl
    cases hq:numberR 0 lim e (seg (bl b) a0 e) with
    | inl g=>rw[nextR_inl hq] at hs';cases hs'
    | inr p=>
     rw[nextR_inr hq] at hs'
     simp only[Sum.inr.injEq,Prod.mk.injEq] at hs'
     exact⟨a0,by rw[hs'.2],hs'.2⟩
  obtain⟨a0,rfl,rfl⟩:=hs2
  obtain⟨rfl,-⟩:=hat _ rfl
  have hla:=h.la
  have hle2:=h.le
  have hfail:=fun (W:World) (a':Nat) (hW:RfI W r b (.inr (a1,e)) a' e)=>faultRf_any (place:=a) (no:=7) rfl hW (by omega) (by omega) hla
  simp only[stA,stE] at m1 m2
  by_cases q1:stE b.size (.inr (a1,e))-stA b.size (.inr (a1,e))<x
  ·rw[if_pos q1,if_pos q1]
   change e-a1<x at q1
   have g1:(x:Int)>(e:Int)-(a1:Int):=by omega
   have HF:Hid _:=hfail
   clear hfail e1 e2 hout hx hs' h hat hok'
   go_enter Tryz.func116,Tryz.ntmps116
   go_wp2_with fail
   refine hlm.mono ?_
   rintro ee w1 ⟨rfl,⟨a',K1⟩,F1⟩
   obtain⟨d0,d1,d2,d3,d4,f1,f2,f3,f4⟩:=K1.c
   obtain⟨rfl,-⟩:=K1.at_ _ rfl
   simp only[stR] at d3
   clear hlm
   go_wp2
   go_quiet (fail)
   go_wp2_with fail
   refine (HF.out _ a' ?hk).mono ?_
   case hk=>exact K1.heap rfl
   rintro ee w2 ⟨rfl,K2,F2⟩
   have F2:Fr [r] w1 w2:=⟨F2.os,F2.tape,F2.output,F2.size,F2.block⟩
   go_wp2
   go_ret
   exact⟨rfl,⟨_,K2⟩,F1.trans F2⟩
  ·rw[if_neg q1,if_neg q1]
   change ¬ e-a1<x at q1
   change Calls Tryz.prog 116 #[.pointer (some ⟨r,0,none⟩),.int .i64 lim] w fun ee w'=>ee=.returned (.string (b.extract a1 (a1+x)))∧(∃ a',RfI w' r b (.inr (a1+x,e)) a' e)∧Fr [r] w w'
   have g1:¬ (x:Int)>(e:Int)-(a1:Int):=by omega
   have hK:∀ W:World,RfI W r b (.inr (a1,e)) a1 e→RfI (W.setCell ⟨r,1,none⟩ (.int .i64 ((a1+x:Nat):Int))) r b (.inr (a1+x,e)) (a1+x) e:=fun W hW=>
    ⟨hW.c.set1 (a1+x),by show a1+x≤e∧_;exact⟨by omega,hok'.2⟩,fun x hx=>(by cases hx;exact⟨rfl,rfl⟩),by omega,hle2⟩
   obtain⟨j,hj⟩:∃ j:Nat,a1+x=j:=⟨_,rfl⟩
   have hjI:(a1:Int)+(x:Int)=(j:Int):=by omega
   have g2:(0:Int)≤(a1:Int):=by omega
   have g3:(a1:Int)≤(j:Int):=by omega
   have g4:(j:Int)≤(b.size:Int):=by omega
   rw[hj] at hK ⊢
   have HK:Hid _:=hK
   clear hfail e1 e2 hout hx hs' h hat hok' hK hj
   go_enter Tryz.func116,Tryz.ntmps116
   go_wp2_with fail
   refine hlm.mono ?_
   rintro ee w1 ⟨rfl,⟨a',K1⟩,F1⟩
   obtain⟨d0,d1,d2,d3,d4,f1,f2,f3,f4⟩:=K1.c
   obtain⟨rfl,-⟩:=K1.at_ _ rfl
   simp only[stR] at d3
   clear hlm
   go_wp2
   go_quiet (fail)
   go_wp2
   go_quiet (fail)
   go_wp2
   go_ret
   exact⟨rfl,⟨j,(HK.out _ (K1.heap rfl))⟩,(F1.drewN _).setCell (p:=⟨r,1,none⟩) (.inl (by simp)) _⟩
theorem shutRf_any {w:World}{r:Nat}{b:ByteArray}{s:Sta}{a e:Nat} (h:RfI w r b s a e) (hs:b.size≤40000) :
  Calls Tryz.prog 51 #[.pointer (some ⟨r,0,none⟩)] w fun ee w'=>ee=.returned (.tuple #[])∧RfO w' r b (endS b.size (shutS b.size s)) a e∧Fr [r] w w':=by
 have hm:Tryz.prog.follows Departure.mixedOrders=true:=by kernel_rfl
 have hL:=bl_length b
 have hfail:=fun (W:World) (hW:RfI W r b s a e)=>faultRf_any (place:=a) (no:=7) rfl hW (by omega) (by omega) h.la
 have c1:=h.c.c1
 have c2:=h.c.c2
 have hla:=h.la
 have hle:=h.le
 by_cases hae:a=e
 ·subst hae
  have hO:RfO w r b (endS b.size (shutS b.size s)) a a:=by
   rcases s with f | ⟨a0,e0⟩
   ·rw[shutS_bad]
    exact⟨h.c,h.ok,fun x hx=>(by cases hx),h.la,h.le⟩
   ·obtain⟨rfl,rfl⟩:=h.at_ _ rfl
    have e1:shutS b.size (.inr (a,a))=.inr (a,a):=by unfold shutS;rw[if_neg (by simp[stA,stE])]
    rw[e1]
    exact⟨h.c,⟨h.la,by show b.size≤(bl b).length;omega⟩,fun x hx=>(by cases hx;exact⟨rfl,rfl⟩),h.la,h.le⟩
  clear hfail
  go_enter Tryz.func51,Tryz.ntmps51
  go_wp2
  go_quiet (fail)
  go_wp2
  go_end0
  exact⟨rfl,⟨hO.c.of_block rfl,hO.ok,hO.at_,hO.la,hO.le⟩,(Fr.refl [r] w).drewN _⟩
 ·have g1:((a:Int)!=(e:Int))=true:=by simp;omega
  have hO:∀ W:World,RfI W r b (failS 7 a s) a e→RfO W r b (endS b.size (shutS b.size s)) a e:=by
   intro W hW
   rcases s with f | ⟨a0,e0⟩
   ·rw[shutS_bad]
    exact⟨hW.c,hW.ok,fun x hx=>(by cases hx),hW.la,hW.le⟩
   ·obtain⟨rfl,rfl⟩:=h.at_ _ rfl
    obtain⟨o1,o2⟩:=h.ok
    have e1:shutS b.size (.inr (a,e))=failS 7 a (.inr (a,e)):=by unfold shutS;rw[if_pos (by simp only[stA,stE];omega)];rfl
    rw[e1]
    exact⟨hW.c,hW.ok,fun x hx=>(by cases hx),hW.la,hW.le⟩
  have HF:Hid _:=hfail
  have HO:Hid _:=hO
  clear hfail hO
  go_enter Tryz.func51,Tryz.ntmps51
  go_wp2
  go_quiet (fail)
  go_wp2_with fail
  refine (HF.out _ ?hk).mono ?_
  case hk=>exact h.heap rfl
  rintro ee w1 ⟨rfl,K1,F1⟩
  go_wp2
  go_end0
  exact⟨rfl,HO.out _ K1,⟨F1.os,F1.tape,F1.output,F1.size,F1.block⟩⟩
theorem need_yes {b:ByteArray}{a no:Nat}{c:UInt8} (ha:a<b.size) (hc:b[a]=c):nextR (needR c no) (bl b) (.inr (a,b.size))=.inr (a+1,b.size):=by
 have hcons:=seg_cons ha (Nat.le_refl b.size)
 have hL:=bl_length b
 simp only[nextR,hcons,needR,if_pos hc]
 rw[seg_length (by omega)]
 congr 2
 omega
theorem need_no {b:ByteArray}{a no:Nat}{c:UInt8} (ha:a≤b.size) (hc:∀ h:a<b.size,b[a]≠c):nextR (needR c no) (bl b) (.inr (a,b.size))=.inl (no,a):=by
 have hL:=bl_length b
 by_cases h:a<b.size
 ·have hcons:=seg_cons h (Nat.le_refl b.size)
  simp only[nextR,hcons,needR,if_neg (hc h)]
  rw[← hcons,seg_length (by omega)]
  congr 2
  omega
 ·obtain rfl:a=b.size:=by omega
  simp only[nextR,seg_nil,needR]
def beginS (n x:Nat) (s1 s2:Sta):Sta:=if stE n s2-stA n s2<x then failS 7 (stA n s1) s2 else openS x s2
theorem openRf_any {w:World}{r:Nat}{b:ByteArray}{s:Sta}{a e k:Nat}{kI:Int} (hkI:kI=(k:Int)) (hk:k<256) (h:RfO w r b s a e) (hs:b.size≤40000) {s1 s2:Sta}{x:Nat}
  (k1:nextR (needR (UInt8.ofNat k) 7) (bl b) s=s1) (h2:outR numU (bl b) 0 s1=x) (k2:nextR numU (bl b) s1=s2) :
  Calls Tryz.prog 49 #[.pointer (some ⟨r,0,none⟩),.int .i64 kI] w fun ee w'=>ee=.returned (.tuple #[])∧(∃ a' e',RfI w' r b (beginS b.size x s1 s2) a' e')∧Fr [r] w w':=by
 subst hkI
 have hm:Tryz.prog.follows Departure.mixedOrders=true:=by kernel_rfl
 have hL:=bl_length b
 rcases s with ⟨f,y⟩ | ⟨a0,e0⟩
 ·have e1:s1=.inl (f,y):=k1.symm
  subst e1
  have e2:s2=.inl (f,y):=k2.symm
  have ex:x=0:=h2.symm
  subst e2 ex
  have eB:beginS b.size 0 (.inl (f,y)) (.inl (f,y))=.inl (f,y):=by unfold beginS;rw[if_neg (by omega)];rfl
  rw[eB]
  have KI:RfI w r b (.inl (f,y)) a e:=⟨h.c,h.ok,fun x hx=>(by cases hx),h.la,h.le⟩
  obtain⟨⟨c0,c1,c2,c3,c4,f1,f2,f3,f4⟩,hok,hat,hla,hle⟩:=h
  obtain⟨k0,-,-⟩:=hok
  have g1:((f:Int)!=0)=true:=by simp;simp only at k0;omega
  simp only[stR] at c3
  clear eB k1 k2 h2
  go_enter Tryz.func49,Tryz.ntmps49
  go_wp2
  refine bodyPost_ret (results_none rfl _ _ _) rfl ?_
  exact⟨rfl,⟨a,e,KI⟩,Fr.refl [r] w⟩
 ·obtain⟨rfl,he0⟩:=h.at_ _ rfl
  simp only at he0
  subst he0
  obtain⟨o1,o2⟩:=h.ok
  try simp only at o1 o2
  have KI:∀ W:World,W.heap=w.heap→RfI W r b (.inr (a,e)) a e→True:=fun _ _ _=>trivial
  clear KI
  -- behind a fault
  have hfault:=fun (W:World) (place no:Nat) (h0:0<no) (h1:no≤100) (hp:place≤b.size) (hW:RdC W r b a e 0 0)=>faultC_any W r b a e 0 0 place no hW
  have hbad:∀ (W:World) (place no:Nat),0<no→no≤100→place≤b.size→RdC W r b a e no place→RfI W r b (.inl (no,place)) a e:=fun W place no h0 h1 hp hc=>⟨hc,⟨h0,h1,by simp only;omega⟩,fun x hx=>(by cases hx),h.la,h.le⟩
  have KC:=h.c
  obtain⟨⟨c0,c1,c2,c3,c4,f1,f2,f3,f4⟩,-,-,hla,hle⟩:=h
  simp only[stR,stP] at c3 c4 KC
  by_cases hz:a<b.size
  ·have z1:¬ ((a:Int) ≥ (b.size:Int)):=by omega
   have z2:decide (b.size≤a)=false:=by simp;omega
   have hwr:IntKind.i64.wrap (b[a].toNat:Int)=(b[a].toNat:Int):=by rw[IntKind.wrap_i64];have:=b[a].toNat_lt;omega
   have hx8:=b[a].toNat_lt
   by_cases hc:b[a]=UInt8.ofNat k
   ·have hck:b[a].toNat=k:=by rw[hc];simp[UInt8.toNat_ofNat];omega
    have z3:((b[a].toNat:Int)!=(k:Int))=false:=by simp;omega
    have z4:(decide (b.size≤a) || IntKind.i64.wrap (b[a].toNat:Int)!=(k:Int))=false:=by rw[hwr,z2,z3];rfl
    rw[need_yes hz hc] at k1
    subst k1
    have hread:=fun (W:World)=>NumberR_any b (a+1) b.size (by omega) (Nat.le_refl _) (by omega) W
    have hsl:=seg_length (l:=bl b) (a:=a+1) (e:=b.size) (by omega)
    have ea:((a+1:Nat):Int)=(a:Int)+1:=by omega
    cases hn:num (seg (bl b) (a+1) b.size) with
    | none=>
     have hx:numXi b (a+1) b.size = -1:=by simp only[numXi,hn]
     have hy:numYi b (a+1) b.size=a+1:=by simp only[numYi,hn]
     have hU:numU b.size (seg (bl b) (a+1) b.size)=.inl (6,a+1):=by simp only[numU,hn,hsl];congr 2;omega
     rw[nextR_inl hU] at k2
     rw[outR_inl hU] at h2
     subst k2 h2
     have eB:beginS b.size 0 (.inr (a+1,b.size)) (.inl (6,a+1))=.inl (6,a+1):=by unfold beginS;rw[if_neg (by omega)];rfl
     rw[eB]
     simp only[hx,hy] at hread
     rw[ea] at hread
     have HR:Hid _:=hread
     have HF:Hid _:=fun W=>hfault W (a+1) 6 (by omega) (by omega) (by omega)
     have HB:Hid _:=fun W=>hbad W (a+1) 6 (by omega) (by omega) (by omega)
     rw[ea] at HF
     clear hfault hbad hread hx hy hU hn hsl eB ea hc hck
     go_enter Tryz.func49,Tryz.ntmps49
     go_wp2
     go_quiet (fail)
     go_wp2
     have c0':(w.drewN nq).cell? ⟨r,0,none⟩=some (.string b):=c0
     have KC':RdC (w.drewN nq) r b a e 0 0:=KC.of_block rfl
     have F0:Fr [r] w (w.drewN nq):=(Fr.refl [r] w).drewN nq
     have f1':=KC'.f1
     have f2':=KC'.f2
     have c1':=KC'.c1
     have c2':=KC'.c2
     clear c0 c1 c2 c3 c4 f1 f2 f3 f4 KC
     generalize w.drewN nq=W at *
     go_quiet (first | (go_at_call 115;refine Calls.quiet_of_same (HR.out _)))
     go_wp2_with fail
     refine (HF.out _ ?hk).mono ?_
     case hk=>exact KC'.of_block rfl
     rintro ee w1 ⟨rfl,K1,F1⟩
     go_wp2
     refine bodyPost_ret (results_none rfl _ _ _) rfl ?_
     have F2:Fr [r] W w1:=⟨F1.os,F1.tape,F1.output,F1.size,F1.block⟩
     exact⟨rfl,⟨a,e,HB.out _ K1⟩,F0.trans F2⟩
    | some p=>
     obtain⟨n,q⟩:=p
     obtain⟨e1,hlt⟩:=num_some hn
     have hlen:=congrArg List.length e1
     rw[hsl,Lla] at hlen
     have hx:numXi b (a+1) b.size=(n:Int):=by simp only[numXi,hn]
     have hy:numYi b (a+1) b.size=b.size-q.length:=by simp only[numYi,hn]
     have hU:numU b.size (seg (bl b) (a+1) b.size)=.inr (n,q):=by simp only[numU,hn]
     rw[nextR_inr hU] at k2
     rw[outR_inr hU] at h2
     subst k2 h2
     obtain⟨y,hy'⟩:∃ y:Nat,b.size-q.length=y:=⟨_,rfl⟩
     simp only[hx,hy] at hread
     rw[ea,hy'] at hread
     rw[hy']
     have hyb:y≤b.size:=by omega
     have g0:¬ ((n:Int)<0):=by omega
     have HR:Hid _:=hread
     by_cases q1:b.size-y<n
     ·have g1:(n:Int)>(b.size:Int)-(y:Int):=by omega
      have eB:beginS b.size n (.inr (a+1,b.size)) (.inr (y,b.size))=.inl (7,a+1):=by unfold beginS;exact if_pos q1
      rw[eB]
      have HF:Hid _:=fun W=>hfault W (a+1) 7 (by omega) (by omega) (by omega)
      have HB:Hid _:=fun W=>hbad W (a+1) 7 (by omega) (by omega) (by omega)
      rw[ea] at HF
      clear hfault hbad hread hx hy hU hn hsl eB ea hc hck e1 hlen hy'
      go_enter Tryz.func49,Tryz.ntmps49
      go_wp2
      go_quiet (fail)
      go_wp2
      have c0':(w.drewN nq).cell? ⟨r,0,none⟩=some (.string b):=c0
      have KC':RdC (w.drewN nq) r b a e 0 0:=KC.of_block rfl
      have F0:Fr [r] w (w.drewN nq):=(Fr.refl [r] w).drewN nq
      have f1':=KC'.f1
      have f2':=KC'.f2
      have c1':=KC'.c1
      have c2':=KC'.c2
      clear c0 c1 c2 c3 c4 f1 f2 f3 f4 KC
      generalize w.drewN nq=W at *
      go_quiet (first | (go_at_call 115;refine Calls.quiet_of_same (HR.out _)))
      go_wp2_with fail
      refine (HF.out _ ?hk).mono ?_
      case hk=>exact KC'.of_block rfl
      rintro ee w1 ⟨rfl,K1,F1⟩
      go_wp2
      refine bodyPost_ret (results_none rfl _ _ _) rfl ?_
      have F2:Fr [r] W w1:=⟨F1.os,F1.tape,F1.output,F1.size,F1.block⟩
      exact⟨rfl,⟨a,e,HB.out _ K1⟩,F0.trans F2⟩
     ·have g1:¬ (n:Int)>(b.size:Int)-(y:Int):=by omega
      have eB:beginS b.size n (.inr (a+1,b.size)) (.inr (y,b.size))=.inr (y,y+n):=by unfold beginS;exact if_neg q1
      rw[eB]
      have HK:∀ w:World,RdC w r b a e 0 0→RfI ((w.setCell ⟨r,1,none⟩ (.int .i64 y)).setCell ⟨r,2,none⟩ (.int .i64 ((y:Int)+(n:Int)))) r b (.inr (y,y+n)) y (y+n):=fun w KC=>by
        have K2:RdC ((w.setCell ⟨r,1,none⟩ (.int .i64 y)).setCell ⟨r,2,none⟩ (.int .i64 ((y+n:Nat):Int))) r b y (y+n) 0 0:=(KC.set1 y).set2 (y+n)
        have K3:RfI ((w.setCell ⟨r,1,none⟩ (.int .i64 y)).setCell ⟨r,2,none⟩ (.int .i64 ((y+n:Nat):Int))) r b (.inr (y,y+n)) y (y+n):=⟨K2,⟨by show y≤y+n;omega,by show y+n≤(bl b).length;omega⟩,fun x hx=>(by cases hx;exact⟨rfl,rfl⟩),by omega,by omega⟩
        rw[Int.natCast_add] at K3
        exact K3
      have HK:Hid _:=HK
      clear hfault hbad hread hx hy hU hn hsl eB ea hc hck e1 hlen hy'
      go_enter Tryz.func49,Tryz.ntmps49
      go_wp2
      go_quiet (fail)
      go_wp2
      have c0':(w.drewN nq).cell? ⟨r,0,none⟩=some (.string b):=c0
      have KC':RdC (w.drewN nq) r b a e 0 0:=KC.of_block rfl
      have F0:Fr [r] w (w.drewN nq):=(Fr.refl [r] w).drewN nq
      have f1':=KC'.f1
      have f2':=KC'.f2
      have c1':=KC'.c1
      have c2':=KC'.c2
      clear c0 c1 c2 c3 c4 f1 f2 f3 f4 KC
      generalize w.drewN nq=W at *
      go_quiet (first | (go_at_call 115;refine Calls.quiet_of_same (HR.out _)))
      go_wp2
      go_end0
      exact⟨rfl,⟨y,y+n,(HK.out W KC').heap rfl⟩,F0.trans ((((Fr.refl [r] W).setCell (p:=⟨r,1,none⟩) (.inl (by simp)) _).setCell (p:=⟨r,2,none⟩) (.inl (by simp)) _).drewN _)⟩
   ·have z3:((b[a].toNat:Int)!=(k:Int))=true:=by
     simp only[bne_iff_ne,ne_eq]
     intro e'
     exact hc (UInt8.toNat_inj.1 (by simp[UInt8.toNat_ofNat];omega))
    have z4:(decide (b.size≤a) || IntKind.i64.wrap (b[a].toNat:Int)!=(k:Int))=true:=by rw[hwr,z2,z3];rfl
    rw[need_no o1 (fun _=>hc)] at k1
    subst k1
    have e2:s2=.inl (7,a):=k2.symm
    have ex:x=0:=h2.symm
    subst e2 ex
    have eB:beginS b.size 0 (.inl (7,a)) (.inl (7,a))=.inl (7,a):=by unfold beginS;rw[if_neg (by omega)];rfl
    rw[eB]
    have HF:Hid _:=fun W=>hfault W a 7 (by omega) (by omega) (by omega)
    have HB:Hid _:=fun W=>hbad W a 7 (by omega) (by omega) (by omega)
    clear hfault hbad eB hc
    go_enter Tryz.func49,Tryz.ntmps49
    go_wp2
    go_quiet (fail)
    go_wp2_with fail
    refine (HF.out _ ?hk).mono ?_
    case hk=>exact KC.of_block rfl
    rintro ee w1 ⟨rfl,K1,F1⟩
    go_wp2
    refine bodyPost_ret (results_none rfl _ _ _) rfl ?_
    exact⟨rfl,⟨a,e,HB.out _ K1⟩,⟨F1.os,F1.tape,F1.output,F1.size,F1.block⟩⟩
  ·have z1:(a:Int) ≥ (b.size:Int):=by omega
   have z2:decide (b.size≤a)=true:=by simp;omega
   rw[need_no o1 (fun h=>absurd h hz)] at k1
   subst k1
   have e2:s2=.inl (7,a):=k2.symm
   have ex:x=0:=h2.symm
   subst e2 ex
   have eB:beginS b.size 0 (.inl (7,a)) (.inl (7,a))=.inl (7,a):=by unfold beginS;rw[if_neg (by omega)];rfl
   rw[eB]
   have HF:Hid _:=fun W=>hfault W a 7 (by omega) (by omega) (by omega)
   have HB:Hid _:=fun W=>hbad W a 7 (by omega) (by omega) (by omega)
   clear hfault hbad eB
   go_enter Tryz.func49,Tryz.ntmps49
   go_wp2
   go_quiet (fail)
   go_wp2_with fail
   refine (HF.out _ ?hk).mono ?_
   case hk=>exact KC.of_block rfl
   rintro ee w1 ⟨rfl,K1,F1⟩
   go_wp2
   refine bodyPost_ret (results_none rfl _ _ _) rfl ?_
   exact⟨rfl,⟨a,e,HB.out _ K1⟩,⟨F1.os,F1.tape,F1.output,F1.size,F1.block⟩⟩
theorem lawfulR_any (p l:Int)(c:ByteArray)(i:Nat)(w:World)(hc:c.size≤9223372036854775807)(hi:i≤1000000000) :
  Calls Tryz.prog 43 #[.agg #[.int .i64 p,.int .i64 l,.string c],.int .i64 i] w fun e w'=>e=.returned (.bool (lawful ⟨p,l,c⟩ i))∧Fr [] w w':=by
 have hL:=lawful_iff (f:=⟨p,l,c⟩) (i:=i)
 simp only at hL
 generalize lawful ⟨p,l,c⟩ i=R at *
 by_cases h1:p<0
 ·have hR:R=false:=by cases R <;> simp at hL ⊢ <;> omega
  subst hR
  clear hL
  go_enter Tryz.func43,Tryz.ntmps43
  go_wp2
  go_ret
  exact⟨rfl,(Fr.refl [] w).alloc _⟩
 ·skip
  by_cases h2:8<p
  ·have hR:R=false:=by cases R <;> simp at hL ⊢ <;> omega
   subst hR
   clear hL
   go_enter Tryz.func43,Tryz.ntmps43
   go_wp2
   go_ret
   exact⟨rfl,(Fr.refl [] w).alloc _⟩
  ·skip
   by_cases h3:l<p
   ·have hR:R=false:=by cases R <;> simp at hL ⊢ <;> omega
    subst hR
    clear hL
    go_enter Tryz.func43,Tryz.ntmps43
    go_wp2
    go_ret
    exact⟨rfl,(Fr.refl [] w).alloc _⟩
   ·skip
    by_cases h4:16<l
    ·have hR:R=false:=by cases R <;> simp at hL ⊢ <;> omega
     subst hR
     clear hL
     go_enter Tryz.func43,Tryz.ntmps43
     go_wp2
     go_ret
     exact⟨rfl,(Fr.refl [] w).alloc _⟩
    ·skip
     by_cases h5:(20000:Int)<c.size
     ·have hR:R=false:=by cases R <;> simp at hL ⊢ <;> omega
      subst hR
      clear hL
      go_enter Tryz.func43,Tryz.ntmps43
      go_wp2
      go_ret
      exact⟨rfl,(Fr.refl [] w).alloc _⟩
     ·skip
      by_cases h6:(2:Int)<i
      ·have hR:R=true:=by cases R <;> simp at hL ⊢ <;> omega
       subst hR
       clear hL
       go_enter Tryz.func43,Tryz.ntmps43
       go_wp2
       go_ret
       exact⟨rfl,(Fr.refl [] w).alloc _⟩
      ·skip
       by_cases h7:p=0
       ·subst h7
        have hR:R=true:=by cases R <;> simp at hL ⊢ <;> omega
        subst hR
        clear hL
        go_enter Tryz.func43,Tryz.ntmps43
        go_wp2
        go_ret
        exact⟨rfl,(Fr.refl [] w).alloc _⟩
       ·have h8:(p==0)=false:=by simpa using h7
        have hR:R=false:=by cases R <;> simp at hL ⊢ <;> omega
        subst hR
        clear hL
        go_enter Tryz.func43,Tryz.ntmps43
        go_wp2
        go_ret
        exact⟨rfl,(Fr.refl [] w).alloc _⟩
theorem digitsR_ex (n:Nat)(h:n<9223372036854775808):∃ D:ByteArray,mkR (digs n)=D∧D.size≤10∧Hid (∀ W:World,Calls Tryz.prog 44 #[.int .i64 n] W fun e w'=>e=.returned (.string D)∧Fr [] W w'):=
 ⟨_,rfl,by rw[mkR_size];exact digs_len10 n,fun W=>digitsR_any n W h⟩
theorem section_walk (k:Nat)(C A B:ByteArray)(w:World)(hk:k<128)(hC:C.size≤1000000000)(hA:A.size≤10)(hB:B.size≤10)
  (H1:Hid (∀ W:World,Calls Tryz.prog 44 #[.int .i64 k] W fun e w'=>e=.returned (.string A)∧Fr [] W w')) (H2:Hid (∀ W:World,Calls Tryz.prog 44 #[.int .i64 C.size] W fun e w'=>e=.returned (.string B)∧Fr [] W w')) :
  Calls Tryz.prog 45 #[.int .i64 k,.string C] w fun e w'=>e=.returned (.string (A++B++C))∧Fr [] w w':=by
 have z3:(A++B).size=A.size+B.size:=ByteArray.size_append
 go_enter Tryz.func45,Tryz.ntmps45
 go_wp2_with fail
 refine (H1.out _).mono ?_
 rintro e w1 ⟨rfl,f1⟩
 go_wp2_with fail
 refine (H2.out _).mono ?_
 rintro e w2 ⟨rfl,f2⟩
 go_wp2
 go_ret
 exact⟨rfl,f1.trans f2⟩
theorem sectionR_any (k:Nat)(c:List UInt8)(w:World)(hk:k<128)(hc:c.length≤1000000000):Calls Tryz.prog 45 #[.int .i64 k,.string (mkR c)] w fun e w'=>e=.returned (.string (mkR (sect k c)))∧Fr [] w w':=by
 obtain⟨A,hA,zA,H1⟩:=digitsR_ex k (by omega)
 obtain⟨B,hB,zB,H2⟩:=digitsR_ex (mkR c).size (by rw[mkR_size];omega)
 have h:=section_walk k (mkR c) A B w hk (by rw[mkR_size];exact hc) zA zB H1 H2
 have e1:A++B++mkR c=mkR (sect k c):=by
  rw[← hA,← hB,mkR_app,mkR_app,mkR_size,digs_lt hk,sect]
  simp
 rw[e1] at h
 exact h
theorem textsB_snoc (L:List ByteArray)(k:Nat)(x:ByteArray)(h:L[k]?=some x):textsB (L.take (k+1))=textsB (L.take k)++(digs x.size++bl x):=by
 obtain⟨hk,rfl⟩:=Lgs.1 h
 rw[List.take_succ_eq_append_getElem hk,textsB,List.flatMap_append]
 simp[textsB,textB]
theorem textsB_size (L:List ByteArray)(k:Nat)(hs:∀ s ∈ L,s.size≤100):(textsB (L.take k)).length≤110*k:=by
 induction k with
 | zero=>simp[textsB]
 | succ k ih=>
  cases hx:L[k]? with
  | none=>
   have:L.length≤k:=by simpa using hx
   rw[List.take_of_length_le (by omega)] at ih ⊢
   omega
  | some x=>
   rw[textsB_snoc L k x hx,Lla,Lla,bl_length]
   have:=hs x (List.mem_of_getElem? hx)
   have:=digs_len10 x.size
   omega
theorem listingR_any (tv:Value)(L:List ByteArray)(w:World)(hs:∀ s ∈ L,s.size≤100)(hn:L.length≤1000)(hL:StrsIn w tv L) :
  Calls Tryz.prog 46 #[tv] w fun e w'=>e=.returned (.string (mkR (listing L)))∧Fr [] w w':=by
 have hm:Tryz.prog.follows .mixedOrders=true:=by kernel_rfl
 obtain⟨a0,cap,g,off,rfl,hc,ha,hx⟩:=hL
 have H1:Hid _:=fun W=>digitsR_any L.length W (by omega)
 have HD:Hid _:=fun (n:Nat) (W:World) (h:n<9223372036854775808)=>digitsR_any n W h
 have l1:=digs_len10 L.length
 have HX:Hid _:=hx
 have HA:Hid _:=ha
 have HS:Hid _:=hs
 clear hx ha hs
 go_enter Tryz.func46,Tryz.ntmps46
 go_wp2_with fail
 refine (H1.out _).mono ?_
 rintro e w1 ⟨rfl,f1⟩
 clear H1
 go_wp2
 go_loopw [3,4] (fun s i wr=>∃ k:Nat,k≤L.length∧i=.int .i64 k∧s=.string (mkR (digs L.length++textsB (L.take k)))∧Fr [] w wr) (fun _ i _=>L.length-(intOf i).toNat)
 case atStart=>exact⟨0,by omega,rfl,by simp[textsB],f1⟩
 case round=>
  obtain⟨k,hk,rfl,rfl,fr⟩:=hrel
  by_cases hlt:k<L.length
  ·have g1:(k:Int)<L.length:=by omega
   obtain⟨rfl,hgl⟩:=HA.out (by omega)
   obtain⟨x,hx⟩:∃ x,L[k]?=some x:=⟨_,Lge hlt⟩
   have hxs:=HS.out x (List.mem_of_getElem? hx)
   have c0:wr.cell? ⟨g,off+k,none⟩=some (.string x):=(fr.cell (p:=⟨g,off+k,none⟩) hgl (by simp)).trans (HX.out k x hx)
   have hts:=textsB_size L k HS.out
   have hsn:=textsB_snoc L k x hx
   have e1:mkR (digs L.length++textsB (L.take k))++mkR (digs x.size)++x=mkR (digs L.length++textsB (L.take (k+1))):=by
    conv=>lhs;rhs;rw[← mkR_bl x]
    rw[mkR_app,mkR_app,hsn]
    simp
   have hd:=digs_len10 x.size
   have z0:(mkR (digs L.length++textsB (L.take k))).size≤200000:=by rw[mkR_size,Lla];omega
   have z1:(mkR (digs x.size)).size≤10:=by rw[mkR_size];exact hd
   have z2:(mkR (digs L.length++textsB (L.take k))++mkR (digs x.size)).size=(mkR (digs L.length++textsB (L.take k))).size+(mkR (digs x.size)).size:=ByteArray.size_append
   have hdg:=fun W=>HD.out x.size W (by omega)
   have HDG:Hid _:=hdg
   have E1:Hid _:=e1
   have hgr:=Nll hgl fr.size
   clear hx hsn hts e1 hd hdg
   generalize mkR (digs L.length++textsB (L.take k))=T at *
   generalize mkR (digs x.size)=D at *
   go_wp2
   refine wp_region_heldD (fun w1=>w1.cell? ⟨g,off+k,none⟩=some (.string x)) hm ?_
   have hS:(fun w1=>w1.cell? ⟨g,off+k,none⟩=some (.string x)) wr.drew:=c0
   refine tkH (i:=0) (v:=?_) rfl (.inl ⟨rfl,fun w1 hS1=>?_⟩) hS ?_
   rotate_left
   ·have q1:=hS1
    go_simp
    first | rfl | (refine (if_neg (by omega)).trans ?_;rfl)
   simp only[Act.put,Z1,Z2,Z3,Z4,Z5,Z6]
   refine tkH (i:=1) (v:=?_) rfl (.inl ⟨rfl,fun w1 hS1=>?_⟩) hS ?_
   rotate_left
   ·have q1:=hS1
    go_simp
    first | rfl | (refine (if_neg (by omega)).trans ?_;rfl)
   simp only[Act.put,Z1,Z2,Z3,Z4,Z5,Z6]
   refine tkH (i:=2) (v:=?_) rfl (.inl ⟨rfl,fun w1 hS1=>?_⟩) hS ?_
   rotate_left
   ·have q1:=hS1
    go_simp
    first | rfl | (refine (if_neg (by omega)).trans ?_;rfl)
   simp only[Act.put,Z1,Z2,Z3,Z4,Z5,Z6]
   refine tkH (i:=3) (v:=?_) rfl (.inl ⟨rfl,fun w1 hS1=>?_⟩) hS ?_
   rotate_left
   ·have q1:=hS1
    go_simp
    first | rfl | (refine (if_neg (by omega)).trans ?_;rfl)
   simp only[Act.put,Z1,Z2,Z3,Z4,Z5,Z6]
   refine tkH (i:=4) (v:=?_) rfl (.inl ⟨rfl,fun w1 hS1=>?_⟩) hS ?_
   rotate_left
   ·have q1:=hS1
    go_simp
    first | rfl | (refine (if_neg (by omega)).trans ?_;rfl)
   simp only[Act.put,Z1,Z2,Z3,Z4,Z5,Z6]
   refine tkH (i:=5) (v:=?_) rfl (.inl ⟨rfl,fun w1 hS1=>?_⟩) hS ?_
   rotate_left
   ·have q1:=hS1
    go_simp
    first | rfl | (refine (if_neg (by omega)).trans ?_;rfl)
   simp only[Act.put,Z1,Z2,Z3,Z4,Z5,Z6]
   refine tkH (i:=8) (v:=?_) rfl (.inl ⟨rfl,fun w1 hS1=>?_⟩) hS ?_
   rotate_left
   ·have q1:=hS1
    go_simp
    first | rfl | (refine (if_neg (by omega)).trans ?_;rfl)
   simp only[Act.put,Z1,Z2,Z3,Z4,Z5,Z6]
   refine tkH (i:=9) (v:=?_) rfl (.inl ⟨rfl,fun w1 hS1=>?_⟩) hS ?_
   rotate_left
   ·have q1:=hS1
    go_simp
    first | rfl | (refine (if_neg (by omega)).trans ?_;rfl)
   simp only[Act.put,Z1,Z2,Z3,Z4,Z5,Z6]
   refine tkH (i:=10) (v:=?_) rfl (.inl ⟨rfl,fun w1 hS1=>?_⟩) hS ?_
   rotate_left
   ·have q1:=hS1
    go_simp
    first | rfl | (refine (if_neg (by omega)).trans ?_;rfl)
   simp only[Act.put,Z1,Z2,Z3,Z4,Z5,Z6]
   refine tkH (i:=11) (v:=?_) rfl (.inl ⟨rfl,fun w1 hS1=>?_⟩) hS ?_
   rotate_left
   ·have q1:=hS1
    go_simp
    first | rfl | (refine (if_neg (by omega)).trans ?_;rfl)
   simp only[Act.put,Z1,Z2,Z3,Z4,Z5,Z6]
   refine rdH (r:=6) ?_
   refine AllReadyH.cons rfl (fun K hK=>?_) AllReadyH.nil
   go_simp
   refine (HDG.out _).mono ?_
   rintro e W2 ⟨rfl,f2⟩
   refine hK _ _ ((f2.cell (p:=⟨g,off+k,none⟩) hgr (by simp)).trans c0) ?_
   clear hK K
   intro hS2
   refine tkH (i:=7) (v:=?_) rfl (.inl ⟨rfl,fun w1 hS1=>?_⟩) hS2 ?_
   rotate_left
   ·have q1:=hS1
    go_simp
    first | rfl | (refine (if_neg (by omega)).trans ?_;rfl)
   simp only[Act.put,Z1,Z2,Z3,Z4,Z5,Z6]
   refine tkH (i:=12) (v:=?_) rfl (.inl ⟨rfl,fun w1 hS1=>?_⟩) hS2 ?_
   rotate_left
   ·have q1:=hS1
    go_simp
    first | rfl | (refine (if_neg (by omega)).trans ?_;rfl)
   simp only[Act.put,Z1,Z2,Z3,Z4,Z5,Z6]
   refine tkH (i:=13) (v:=?_) rfl (.inl ⟨rfl,fun w1 hS1=>?_⟩) hS2 ?_
   rotate_left
   ·have q1:=hS1
    go_simp
    first | rfl | (refine (if_neg (by omega)).trans ?_;rfl)
   simp only[Act.put,Z1,Z2,Z3,Z4,Z5,Z6]
   refine wpAnyH_done (by kernel_rfl) ?_ _
   have f3:Fr [] w W2:=fr.drew.trans f2
   clear hS hS2 c0 HDG
   go_wp2
   refine⟨⟨k+1,by omega,by go_num,congrArg Value.string E1.out,f3⟩,by simp[intOf];omega⟩
  ·have g1:¬ ((k:Int)<L.length):=by omega
   have e1:mkR (digs L.length++textsB (L.take k))=mkR (listing L):=by rw[List.take_of_length_le (by omega),listing]
   rw[e1]
   go_wp2
   go_ret
   exact⟨rfl,fr⟩
variable {t : ByteArray}
def spotN (place length:Nat):Nat:=(if place=0 then 1 else 0)+(if place=length then 2 else 0)
theorem spotN_lt (p l:Nat):spotN p l<4:=by unfold spotN;split <;> split <;> decide
def byteN (x:ByteArray) (k:Nat):Nat:=if h:k<x.size then x[k].toNat else 0
theorem byteAt_eq {t:ByteArray}{k:Nat} (h:k<t.size):byteAt t k=byteN t k:=by unfold byteAt byteN;rw[dif_pos h,dif_pos h]
theorem byteAt_end {t:ByteArray}{k:Nat} (h:t.size≤k):byteAt t k = -1:=by unfold byteAt;rw[dif_neg (by omega)]
theorem byteN_lt (t:ByteArray)(k:Nat):byteN t k<256:=by
 unfold byteN
 split
 ·exact UInt8.toNat_lt _
 ·decide
section
variable {lit t : ByteArray} {k m : Nat} {q : Piece} {s : St}
end
section
variable {lit x : ByteArray} {q : Piece} {s : St}
end
end Go.Proofs.YtclkgoigmgkffaaGreatDoor
