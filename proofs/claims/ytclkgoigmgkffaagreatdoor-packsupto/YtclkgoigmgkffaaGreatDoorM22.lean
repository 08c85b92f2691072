/-
  Texts Gj Gk Gl.
-/
import Derived.Test.YtclkgoigmgkffaaGreatDoorM21
import Derived.Test.YtclkgoigmgkffaaGreatDoorM15
import Derived.Test.YtclkgoigmgkffaaGreatDoorM18
set_option linter.unusedSimpArgs false
set_option linter.unusedVariables false
set_option maxRecDepth 100000
set_option maxHeartbeats 40000000
namespace Go.Proofs.YtclkgoigmgkffaaGreatDoor
open Go.RowKit
open Wire
theorem texts_step {ip:ByteArray→Bool}{most:Nat}{b:ByteArray}{s:Sta} (hok:okSta (bl b) s) (h0:ip ⟨#[]⟩=true) {o:ByteArray}{s':Sta} (ho:outR (bytesR most) (bl b) ⟨#[]⟩ s=o) (hs':nextR (bytesR most) (bl b) s=s') :
  (ip o=true→nextR (oneR ip most) (bl b) s=s')∧(ip o=false→nextR (oneR ip most) (bl b) s=failS 2 (stA b.size s' - o.size) s')∧((∃ p,nextR (oneR ip most) (bl b) s=.inr p)→o=outR (oneR ip most) (bl b) ⟨#[]⟩ s):=by
 obtain⟨e1,e2⟩:=oneR_next ip most b s hok h0 o s' ho hs'
 refine⟨fun h=>by rw[e1,if_pos h],fun h=>by rw[e1,if_neg (by rw[h];decide)],?_⟩
 rintro ⟨p,hp⟩
 cases hi:ip o with
 | true=>exact (e2 hi).symm
 | false=>
  rw[e1,if_neg (by rw[hi];decide)] at hp
  rcases s' with f | x
  ·cases hp
  ·cases hp
theorem bytes_empty {lim:Nat}{b:ByteArray}{s:Sta}{f:Nat × Nat} (h:nextR (bytesR lim) (bl b) s=.inl f):outR (bytesR lim) (bl b) ⟨#[]⟩ s=⟨#[]⟩:=out_bad h
theorem textsRf_plain {w:World}{r:Nat}{b:ByteArray}{s:Sta}{a e:Nat} (most:Nat) {mI:Int} (hmI:mI=(most:Int)) (hmost:most≤100) (h:RfI w r b s a e) (hs:b.size≤40000) :
  Calls Tryz.prog 50 #[.pointer (some ⟨r,0,none⟩),.int .i64 mI,.bool false] w fun ee w'=>
   (∃ v L,ee=.returned v∧StrsFar w.heap.size w' v L∧((∃ p,nextR (listR (fun _=>true) most) (bl b) s=.inr p)→L=outR (listR (fun _=>true) most) (bl b) [] s))∧(∃ a',RfI w' r b (nextR (listR (fun _=>true) most) (bl b) s) a' e)∧Fr [r] w w':=by
 subst hmI
 have hm:Tryz.prog.follows Departure.mixedOrders=true:=by kernel_rfl
 obtain⟨i0,hi,hz0,hz1,hz2⟩:=info_parts infoS
 have hlm:=numRf_any (lo:=0) (hi:=1000) rfl rfl h hs
 change Calls Tryz.prog 52 #[.pointer (some ⟨r,0,none⟩),.int .i64 0,.int .i64 1000] w _ at hlm
 have M0:=MidT.start (fun _=>true) most b s h.ok
 have hn:=outN_le2 0 1000 b s
 have hrl:=h.lt
 generalize outR (numberR 0 1000) (bl b) 0 s=n at *
 generalize nextR (numberR 0 1000) (bl b) s=s1 at *
 generalize outR (listR (fun _=>true) most) (bl b) [] s=RL at *
 generalize nextR (listR (fun _=>true) most) (bl b) s=RS at *
 have HM0:Hid _:=M0
 clear M0 h
 go_enter Tryz.func50,Tryz.ntmps50
 go_wp2_with fail
 refine hlm.mono ?_
 rintro ee w1 ⟨rfl,⟨a1,K1⟩,F1⟩
 clear hlm
 go_wp2
 go_loopw [7,9] (fun u i wr=>∃ (acc:List ByteArray) (sj:Sta) (aj:Nat),i=.int .i64 (acc.length:Int)∧acc.length≤n∧RfI wr r b sj aj e∧OwnT r w acc u wr∧Hid (MidT (fun _=>true) most n (bl b) (RS,RL) acc sj)) (fun _ i _=>n-(intOf i).toNat)
 case atStart=>exact⟨[],s1,a1,rfl,by simp,K1,OwnT.start F1,HM0⟩
 case round=>
  clear HM0 K1 F1
  obtain⟨acc,sj,aj,rfl,hacc,K,J,hM⟩:=hrel
  obtain⟨a0,cap,rfl⟩:=J.form
  obtain⟨d0,d1,d2,d3,d4,f1,f2,f3,f4⟩:=K.c
  by_cases hlt:acc.length<n
  ·have g1:(acc.length:Int)<n:=by omega
   rcases sj with ⟨x,y⟩ | ⟨a2,e2⟩
   ·have k0:0<x:=K.ok.1
    simp only[stR] at d3
    have g2:((x:Int)==0)=false:=by simp;omega
    obtain⟨q1,q2⟩:=hM.out.stop K.ok (.inr ⟨_,rfl⟩)
    simp only at q1 q2
    subst q1
    have Q2:Hid _:=q2
    clear q2 hM
    go_wp2
    go_ret
    exact⟨⟨_,acc,rfl,J.far,Q2.out⟩,⟨aj,K⟩,J.fr⟩
   ·simp only[stR] at d3
    obtain⟨o,ho⟩:∃ o,outR (bytesR most) (bl b) ⟨#[]⟩ (.inr (a2,e2))=o:=⟨_,rfl⟩
    obtain⟨s',hs'⟩:∃ s',nextR (bytesR most) (bl b) (.inr (a2,e2))=s':=⟨_,rfl⟩
    have hby:=bytesRf_any (lim:=most) rfl K hs (by omega)
    rw[ho,hs'] at hby
    obtain⟨t1,t2,t3⟩:=texts_step (ip:=(fun _=>true)) K.ok rfl ho hs'
    obtain⟨p1,p2⟩:=bytes_place ho hs' K.ok
    have M2:=hM.out.step K.ok hlt o t3
    have hemp:=fun f=>bytes_empty (lim:=most) (b:=b) (s:=.inr (a2,e2)) (f:=f)
    rw[ho,hs'] at hemp
    have ha1000:acc.length≤1000:=by omega
    have hok':=(bytesR_tidy most).next K.ok
    rw[hs'] at hok'
    clear ho hs' t3 hM
    rw[t1 rfl] at M2
    have HM2:Hid _:=M2
    clear M2 t1 t2 hemp p1 p2 d0 d1 d2 d4 f1 f2 f3 f4
    go_wp2_with fail
    refine hby.mono ?_
    rintro ee w2 ⟨rfl,⟨a3,K2⟩,F2⟩
    clear hby
    have J2:=J.kept hrl F2
    clear J K F2 d3 hok'
    generalize s'=s2 at *
    have hown:=J2.own
    have hsz2:=J2.fr.size
    go_wp2_with (at_builtin;refine wpList_append_own _ rfl _ _ 27 rfl w.heap.size 9 i0 (.string ⟨#[]⟩) 1 16 Tryz.underlying27 hi hz0 hz1 hz2 rfl (by decide) _ _ _ rfl (hown.alloc _) ⟨w2.heap.size,0,none⟩ 1 1 [.string o] rfl rfl (cell_one_new _ _ _) (one_text _) (by unfold maxLen;omega) (by omega) (le_alloc _ hsz2) ?_)
    intro v' w3 hown' hgrow _
    have J3:=(J2.kept hrl ((Fr.refl [r] w2).alloc _)).grown hown' hgrow
    have K3:RfI w3 r b s2 a3 e:=by
     refine⟨K2.c.of_block ?_,K2.ok,K2.at_,K2.la,K2.le⟩
     rw[hgrow.block r (by have:=K2.lt;simp;omega) (fun e=>by have:=(hown.lt r e.symm).1;omega)]
     exact Below.heap_alloc _ _ _ K2.lt
    clear hown hown' hgrow J2 K2
    have hl3:(acc++[o]).length=acc.length+1:=by simp
    obtain⟨b0,cap3,rfl⟩:=J3.form
    go_wp2
    refine⟨⟨acc++[o],s2,a3,by rw[hl3];go_num,by omega,K3,J3,HM2⟩,?_⟩
    simp[intOf]
    omega
  ·obtain rfl:n=acc.length:=by omega
   have g1:¬ (acc.length:Int)<acc.length:=by omega
   obtain⟨q1,q2⟩:=hM.out.stop K.ok (.inl rfl)
   simp only at q1 q2
   subst q1
   have Q2:Hid _:=q2
   clear q2 hM
   go_wp2
   go_ret
   exact⟨⟨_,rfl,acc,J.far,fun x y hxy=>Q2.out ⟨_,hxy⟩⟩,⟨aj,K⟩,J.fr⟩
theorem textsRf_pat {w:World}{r:Nat}{b:ByteArray}{s:Sta}{a e:Nat} (most:Nat) {mI:Int} (hmI:mI=(most:Int)) (hmost:most≤100) (h:RfI w r b s a e) (hs:b.size≤40000) :
  Calls Tryz.prog 50 #[.pointer (some ⟨r,0,none⟩),.int .i64 mI,.bool true] w fun ee w'=>
   (∃ v L,ee=.returned v∧StrsFar w.heap.size w' v L∧((∃ p,nextR (listR ipF most) (bl b) s=.inr p)→L=outR (listR ipF most) (bl b) [] s))∧(∃ a',RfI w' r b (nextR (listR ipF most) (bl b) s) a' e)∧Fr [r] w w':=by
 subst hmI
 have hm:Tryz.prog.follows Departure.mixedOrders=true:=by kernel_rfl
 obtain⟨i0,hi,hz0,hz1,hz2⟩:=info_parts infoS
 have hlm:=numRf_any (lo:=0) (hi:=1000) rfl rfl h hs
 change Calls Tryz.prog 52 #[.pointer (some ⟨r,0,none⟩),.int .i64 0,.int .i64 1000] w _ at hlm
 have M0:=MidT.start ipF most b s h.ok
 have hn:=outN_le2 0 1000 b s
 have hrl:=h.lt
 generalize outR (numberR 0 1000) (bl b) 0 s=n at *
 generalize nextR (numberR 0 1000) (bl b) s=s1 at *
 generalize outR (listR ipF most) (bl b) [] s=RL at *
 generalize nextR (listR ipF most) (bl b) s=RS at *
 have HM0:Hid _:=M0
 clear M0 h
 go_enter Tryz.func50,Tryz.ntmps50
 go_wp2_with fail
 refine hlm.mono ?_
 rintro ee w1 ⟨rfl,⟨a1,K1⟩,F1⟩
 clear hlm
 go_wp2
 go_loopw [7,9] (fun u i wr=>∃ (acc:List ByteArray) (sj:Sta) (aj:Nat),i=.int .i64 (acc.length:Int)∧acc.length≤n∧RfI wr r b sj aj e∧OwnT r w acc u wr∧Hid (MidT ipF most n (bl b) (RS,RL) acc sj)) (fun _ i _=>n-(intOf i).toNat)
 case atStart=>exact⟨[],s1,a1,rfl,by simp,K1,OwnT.start F1,HM0⟩
 case round=>
  clear HM0 K1 F1
  obtain⟨acc,sj,aj,rfl,hacc,K,J,hM⟩:=hrel
  obtain⟨a0,cap,rfl⟩:=J.form
  obtain⟨d0,d1,d2,d3,d4,f1,f2,f3,f4⟩:=K.c
  by_cases hlt:acc.length<n
  ·have g1:(acc.length:Int)<n:=by omega
   rcases sj with ⟨x,y⟩ | ⟨a2,e2⟩
   ·have k0:0<x:=K.ok.1
    simp only[stR] at d3
    have g2:((x:Int)==0)=false:=by simp;omega
    obtain⟨q1,q2⟩:=hM.out.stop K.ok (.inr ⟨_,rfl⟩)
    simp only at q1 q2
    subst q1
    have Q2:Hid _:=q2
    clear q2 hM
    go_wp2
    go_ret
    exact⟨⟨_,acc,rfl,J.far,Q2.out⟩,⟨aj,K⟩,J.fr⟩
   ·simp only[stR] at d3
    obtain⟨o,ho⟩:∃ o,outR (bytesR most) (bl b) ⟨#[]⟩ (.inr (a2,e2))=o:=⟨_,rfl⟩
    obtain⟨s',hs'⟩:∃ s',nextR (bytesR most) (bl b) (.inr (a2,e2))=s':=⟨_,rfl⟩
    have hby:=bytesRf_any (lim:=most) rfl K hs (by omega)
    rw[ho,hs'] at hby
    obtain⟨t1,t2,t3⟩:=texts_step (ip:=ipF) K.ok ipF_empty ho hs'
    obtain⟨p1,p2⟩:=bytes_place ho hs' K.ok
    have M2:=hM.out.step K.ok hlt o t3
    have hemp:=fun f=>bytes_empty (lim:=most) (b:=b) (s:=.inr (a2,e2)) (f:=f)
    rw[ho,hs'] at hemp
    have ha1000:acc.length≤1000:=by omega
    have hok':=(bytesR_tidy most).next K.ok
    rw[hs'] at hok'
    clear ho hs' t3 hM
    rcases s' with ⟨fx,fy⟩ | ⟨a4,e4⟩
    ·have ho0:=hemp _ rfl
     rw[t1 (by rw[ho0];exact ipF_empty)] at M2
     have HM2:Hid _:=M2
     clear M2 t1 t2 hemp p1 p2 d0 d1 d2 d4 f1 f2 f3 f4
     go_wp2_with fail
     refine hby.mono ?_
     rintro ee w2 ⟨rfl,⟨a3,K2⟩,F2⟩
     clear hby
     have k0:0<fx:=K2.ok.1
     have g3:((fx:Int)==0)=false:=by simp;omega
     have J2:=J.kept hrl F2
     have c3:=K2.c.c3
     simp only[stR] at c3
     clear J K F2 d3 hok' ho0
     obtain⟨s2,hs2⟩:∃ s2:Sta,Sum.inl (fx,fy)=s2:=⟨_,rfl⟩
     have HM3:Hid (MidT ipF most n (bl b) (RS,RL) (acc++[o]) s2):=by rw[← hs2];exact HM2
     rw[hs2] at K2
     clear HM2 hs2
     have HM2:=HM3
     clear HM3
     have hown:=J2.own
     have hsz2:=J2.fr.size
     go_wp2_with (at_builtin;refine wpList_append_own _ rfl _ _ 27 rfl w.heap.size 9 i0 (.string ⟨#[]⟩) 1 16 Tryz.underlying27 hi hz0 hz1 hz2 rfl (by decide) _ _ _ rfl (hown.alloc _) ⟨w2.heap.size,0,none⟩ 1 1 [.string o] rfl rfl (cell_one_new _ _ _) (one_text _) (by unfold maxLen;omega) (by omega) (le_alloc _ hsz2) ?_)
     intro v' w3 hown' hgrow _
     have J3:=(J2.kept hrl ((Fr.refl [r] w2).alloc _)).grown hown' hgrow
     have K3:RfI w3 r b s2 a3 e:=by
      refine⟨K2.c.of_block ?_,K2.ok,K2.at_,K2.la,K2.le⟩
      rw[hgrow.block r (by have:=K2.lt;simp;omega) (fun e=>by have:=(hown.lt r e.symm).1;omega)]
      exact Below.heap_alloc _ _ _ K2.lt
     clear hown hown' hgrow J2 K2
     have hl3:(acc++[o]).length=acc.length+1:=by simp
     obtain⟨b0,cap3,rfl⟩:=J3.form
     go_wp2
     refine⟨⟨acc++[o],s2,a3,by rw[hl3];go_num,by omega,K3,J3,HM2⟩,?_⟩
     simp[intOf]
     omega
    ·obtain⟨lp,le,HL,hcase⟩:=lookR_ip o (by omega)
     simp only[stA] at p1
     rcases hcase with ⟨hi1,rfl⟩ | ⟨hi1,hne⟩
     ·rw[t1 hi1] at M2
      have HM2:Hid _:=M2
      clear M2 t1 t2 hemp p1 d0 d1 d2 d4 f1 f2 f3 f4
      go_wp2_with fail
      refine hby.mono ?_
      rintro ee w2 ⟨rfl,⟨a3,K2⟩,F2⟩
      clear hby
      have c3:=K2.c.c3
      simp only[stR] at c3
      clear d3
      go_wp2_with fail
      refine (HL.out w2).mono ?_
      rintro ee w5 ⟨rfl,F5⟩
      have K5:=K2.fr F5 (by simp)
      have J2:=J.kept hrl (F2.trans (F5.mono (by simp)))
      clear J K K2 F2 F5 c3 hok'
      obtain⟨s2,hs2⟩:∃ s2:Sta,Sum.inr (a4,e4)=s2:=⟨_,rfl⟩
      have HM3:Hid (MidT ipF most n (bl b) (RS,RL) (acc++[o]) s2):=by rw[← hs2];exact HM2
      rw[hs2] at K5
      clear HM2 hs2
      have HM2:=HM3
      clear HM3
      have hown:=J2.own
      have hsz2:=J2.fr.size
      go_wp2_with (at_builtin;refine wpList_append_own _ rfl _ _ 27 rfl w.heap.size 9 i0 (.string ⟨#[]⟩) 1 16 Tryz.underlying27 hi hz0 hz1 hz2 rfl (by decide) _ _ _ rfl (hown.alloc _) ⟨w5.heap.size,0,none⟩ 1 1 [.string o] rfl rfl (cell_one_new _ _ _) (one_text _) (by unfold maxLen;omega) (by omega) (le_alloc _ hsz2) ?_)
      intro v' w3 hown' hgrow _
      have J3:=(J2.kept hrl ((Fr.refl [r] w5).alloc _)).grown hown' hgrow
      have K3:RfI w3 r b s2 a3 e:=by
       refine⟨K5.c.of_block ?_,K5.ok,K5.at_,K5.la,K5.le⟩
       rw[hgrow.block r (by have:=K5.lt;simp;omega) (fun e=>by have:=(hown.lt r e.symm).1;omega)]
       exact Below.heap_alloc _ _ _ K5.lt
      clear hown hown' hgrow J2 K5
      have hl3:(acc++[o]).length=acc.length+1:=by simp
      obtain⟨b0,cap3,rfl⟩:=J3.form
      go_wp2
      refine⟨⟨acc++[o],s2,a3,by rw[hl3];go_num,by omega,K3,J3,HM2⟩,?_⟩
      simp[intOf]
      omega
     ·rw[t2 hi1] at M2
      have HM2:Hid _:=M2
      have hst4:a4≤b.size:=by have q1:=hok'.1;have q2:=hok'.2;have:=bl_length b;omega
      have esub:((a4-o.size:Nat):Int)=(a4:Int)-(o.size:Int):=by omega
      simp only[stA] at HM2
      have hfail:=fun (W:World) (a3:Nat) (hW:RfI W r b (.inr (a4,e4)) a3 e)=>faultRf_any (place:=a4-o.size) (no:=2) rfl hW (by omega) (by omega) (by omega)
      rw[esub] at hfail
      have HF:Hid _:=hfail
      clear M2 t1 t2 hemp d0 d1 d2 d4 f1 f2 f3 f4 hfail
      go_wp2_with fail
      refine hby.mono ?_
      rintro ee w2 ⟨rfl,⟨a3,K2⟩,F2⟩
      clear hby
      have c3:=K2.c.c3
      simp only[stR] at c3
      clear d3
      go_wp2_with fail
      refine (HL.out w2).mono ?_
      rintro ee w5 ⟨rfl,F5⟩
      have K5:=K2.fr F5 (by simp)
      obtain⟨ha3,-⟩:=K5.at_ _ rfl
      have c1:=K5.c.c1
      simp only at ha3
      subst ha3
      go_wp2_with fail
      refine (HF.out w5 _ K5).mono ?_
      rintro ee w6 ⟨rfl,K6,F6⟩
      have J2:=J.kept hrl ((F2.trans (F5.mono (by simp))).trans F6)
      clear J K K2 K5 F2 F5 F6 c3 c1 HF
      obtain⟨s2,hs2⟩:∃ s2:Sta,failS 2 (a3-o.size) (Sum.inr (a3,e4))=s2:=⟨_,rfl⟩
      have HM3:Hid (MidT ipF most n (bl b) (RS,RL) (acc++[o]) s2):=by rw[← hs2];exact HM2
      rw[hs2] at K6
      clear HM2 hs2
      have HM2:=HM3
      clear HM3
      have hown:=J2.own
      have hsz2:=J2.fr.size
      go_wp2_with (at_builtin;refine wpList_append_own _ rfl _ _ 27 rfl w.heap.size 9 i0 (.string ⟨#[]⟩) 1 16 Tryz.underlying27 hi hz0 hz1 hz2 rfl (by decide) _ _ _ rfl (hown.alloc _) ⟨w6.heap.size,0,none⟩ 1 1 [.string o] rfl rfl (cell_one_new _ _ _) (one_text _) (by unfold maxLen;omega) (by omega) (le_alloc _ hsz2) ?_)
      intro v' w3 hown' hgrow _
      have J3:=(J2.kept hrl ((Fr.refl [r] w6).alloc _)).grown hown' hgrow
      have K3:RfI w3 r b s2 a3 e:=by
       refine⟨K6.c.of_block ?_,K6.ok,K6.at_,K6.la,K6.le⟩
       rw[hgrow.block r (by have:=K6.lt;simp;omega) (fun e=>by have:=(hown.lt r e.symm).1;omega)]
       exact Below.heap_alloc _ _ _ K6.lt
      clear hown hown' hgrow J2 K6
      have hl3:(acc++[o]).length=acc.length+1:=by simp
      obtain⟨b0,cap3,rfl⟩:=J3.form
      go_wp2
      refine⟨⟨acc++[o],s2,a3,by rw[hl3];go_num,by omega,K3,J3,HM2⟩,?_⟩
      simp[intOf]
      omega
  ·obtain rfl:n=acc.length:=by omega
   have g1:¬ (acc.length:Int)<acc.length:=by omega
   obtain⟨q1,q2⟩:=hM.out.stop K.ok (.inl rfl)
   simp only at q1 q2
   subst q1
   have Q2:Hid _:=q2
   clear q2 hM
   go_wp2
   go_ret
   exact⟨⟨_,rfl,acc,J.far,fun x y hxy=>Q2.out ⟨_,hxy⟩⟩,⟨aj,K⟩,J.fr⟩
theorem funcsRf_any {w:World}{r:Nat}{b:ByteArray}{s:Sta}{a e:Nat} (h:RfI w r b s a e) (hs:b.size≤40000) :
  Calls Tryz.prog 53 #[.pointer (some ⟨r,0,none⟩)] w fun ee w'=>
   (∃ v L,ee=.returned v∧FnsFar w.heap.size w' v L∧((∃ p,nextR fnListR (bl b) s=.inr p)→L=outR fnListR (bl b) [] s))∧(∃ a',RfI w' r b (nextR fnListR (bl b) s) a' e)∧Fr [r] w w':=by
 have hm:Tryz.prog.follows Departure.mixedOrders=true:=by kernel_rfl
 obtain⟨i0,hi,hz0,hz1,hz2⟩:=info_parts infoF
 have hlm:=numRf_any (lo:=3) (hi:=1000) rfl rfl h hs
 change Calls Tryz.prog 52 #[.pointer (some ⟨r,0,none⟩),.int .i64 3,.int .i64 1000] w _ at hlm
 have M0:=MidF.start b s h.ok
 have hn:=outN_le2 3 1000 b s
 have hrl:=h.lt
 generalize outR (numberR 3 1000) (bl b) 0 s=n at *
 generalize nextR (numberR 3 1000) (bl b) s=s1 at *
 generalize outR fnListR (bl b) [] s=RL at *
 generalize nextR fnListR (bl b) s=RS at *
 have HM0:Hid _:=M0
 clear M0 h
 go_enter Tryz.func53,Tryz.ntmps53
 go_wp2_with fail
 refine hlm.mono ?_
 rintro ee w1 ⟨rfl,⟨a1,K1⟩,F1⟩
 clear hlm
 go_wp2
 go_loopw [3,5] (fun u i wr=>∃ (acc:List Wire.Fn) (sj:Sta) (aj:Nat),i=.int .i64 (acc.length:Int)∧acc.length≤n∧RfI wr r b sj aj e∧OwnF r w acc u wr∧Hid (MidF n (bl b) (RS,RL) acc sj)) (fun _ i _=>n-(intOf i).toNat)
 case atStart=>exact⟨[],s1,a1,rfl,by simp,K1,OwnF.start F1,HM0⟩
 case round=>
  clear HM0 K1 F1
  obtain⟨acc,sj,aj,rfl,hacc,K,J,hM⟩:=hrel
  obtain⟨a0,cap,rfl⟩:=J.form
  obtain⟨d0,d1,d2,d3,d4,f1,f2,f3,f4⟩:=K.c
  by_cases hlt:acc.length<n
  ·have g1:(acc.length:Int)<n:=by omega
   rcases sj with ⟨x,y⟩ | ⟨a2,e2⟩
   ·have k0:0<x:=K.ok.1
    simp only[stR] at d3
    have g2:((x:Int)==0)=false:=by simp;omega
    obtain⟨q1,q2⟩:=hM.out.stop K.ok (.inr ⟨_,rfl⟩)
    simp only at q1 q2
    subst q1
    have Q2:Hid _:=q2
    clear q2 hM
    go_wp2
    go_ret
    exact⟨⟨_,acc,rfl,J.far,Q2.out⟩,⟨aj,K⟩,J.fr⟩
   ·simp only[stR] at d3
    have hwl:=J.fr.size
    have hrw:=K.lt
    have ha1000:acc.length≤1000:=by omega
    obtain⟨x1,hx1⟩:∃ x1,outR (numberR 0 (maxP acc.length)) (bl b) 0 (.inr (a2,e2))=x1:=⟨_,rfl⟩
    obtain⟨t1,ht1⟩:∃ t1,nextR (numberR 0 (maxP acc.length)) (bl b) (.inr (a2,e2))=t1:=⟨_,rfl⟩
    obtain⟨x2,hx2⟩:∃ x2,outR (numberR x1 16) (bl b) 0 t1=x2:=⟨_,rfl⟩
    obtain⟨t2,ht2⟩:∃ t2,nextR (numberR x1 16) (bl b) t1=t2:=⟨_,rfl⟩
    obtain⟨o,ho⟩:∃ o,outR (bytesR 20000) (bl b) ⟨#[]⟩ t2=o:=⟨_,rfl⟩
    obtain⟨t3,ht3⟩:∃ t3,nextR (bytesR 20000) (bl b) t2=t3:=⟨_,rfl⟩
    obtain⟨q1,q2⟩:=fnR_next acc.length K.ok hx1 ht1 hx2 ht2 ho ht3
    have M2:=hM.out.step K.ok hlt ⟨(x1:Int),(x2:Int),o⟩ (fun hp=>(q2 (by rw[← q1];exact hp)).symm)
    rw[q1] at M2
    have HM2:Hid (MidF n (bl b) (RS,RL) (acc++[(⟨(x1:Int),(x2:Int),o⟩:Wire.Fn)]) t3):=M2
    have C1:=fun (W:World) (hW:RfI W r b (.inr (a2,e2)) aj e)=>numRf_any (lo:=0) (hi:=maxP acc.length) rfl rfl hW hs
    have C2:=fun (W:World) (a3:Nat) (hW:RfI W r b t1 a3 e)=>numRf_any (lo:=x1) (hi:=16) rfl rfl hW hs
    have C3:=fun (W:World) (a3:Nat) (hW:RfI W r b t2 a3 e)=>bytesRf_any (lim:=20000) rfl hW hs (by omega)
    rw[hx1,ht1] at C1
    rw[hx2,ht2] at C2
    rw[ho,ht3] at C3
    change ∀ (W:World) (a3:Nat),RfI W r b t1 a3 e→Calls Tryz.prog 52 #[.pointer (some ⟨r,0,none⟩),.int .i64 x1,.int .i64 16] W _ at C2
    change ∀ (W:World) (a3:Nat),RfI W r b t2 a3 e→Calls Tryz.prog 116 #[.pointer (some ⟨r,0,none⟩),.int .i64 20000] W _ at C3
    have hle1:=outN_le2 0 (maxP acc.length) b (.inr (a2,e2))
    rw[hx1] at hle1
    have hmp8:maxP acc.length≤8:=by unfold maxP;split <;> omega
    have hle2:=outN_le2 x1 16 b t1
    rw[hx2] at hle2
    have HC1:Hid _:=C1
    have HC2:Hid _:=C2
    have HC3:Hid _:=C3
    have K0:RfI (wr.alloc (.cells #[.int .i64 0,.int .i64 0,.string ⟨#[]⟩] 65)) r b (.inr (a2,e2)) aj e:=K.fr ((Fr.refl [] wr).alloc _) (by simp)
    have F0:Fr [r] wr (wr.alloc (.cells #[.int .i64 0,.int .i64 0,.string ⟨#[]⟩] 65)):=(Fr.refl [r] wr).alloc _
    have hnew:=World.alloc_heap_new wr (.cells #[.int .i64 0,.int .i64 0,.string ⟨#[]⟩] 65)
    have hgl:wr.heap.size<(wr.alloc (.cells #[.int .i64 0,.int .i64 0,.string ⟨#[]⟩] 65)).heap.size:=by simp
    clear M2 q1 q2 C1 C2 C3 hx1 ht1 hx2 ht2 ho ht3 hM d0 d1 d2 d4 f1 f2 f3 f4
    have hmain:∀ (w2:World) (a3:Nat),RfI w2 r b t1 a3 e→Fr [r] (wr.alloc (.cells #[.int .i64 0,.int .i64 0,.string ⟨#[]⟩] 65)) w2 →
      w2.heap[wr.heap.size]?=some (.cells #[.int .i64 0,.int .i64 0,.string ⟨#[]⟩] 65):=fun w2 a3 _ F2=>by rw[F2.block _ hgl (by simp;omega),hnew]
    have HMn:Hid _:=hmain
    clear hmain
    by_cases h3:acc.length<3
    ·have g3:(acc.length:Int)<3:=by omega
     have hmv:maxP acc.length=0:=by unfold maxP;rw[if_pos h3]
     rw[hmv] at HC1
     go_wp2_with fail
     refine (HC1.out _ K0).mono ?_
     rintro ee w2 ⟨rfl,⟨a3,K2⟩,F2⟩
     have hblk:=HMn.out w2 a3 K2 F2
     have FA:=F0.trans F2
     have e0:w2.cell? ⟨wr.heap.size,0,none⟩=some (.int .i64 0):=by unfold World.cell?;rw[hblk];rfl
     have e1:w2.cell? ⟨wr.heap.size,1,none⟩=some (.int .i64 0):=by unfold World.cell?;rw[hblk];rfl
     have e2':w2.cell? ⟨wr.heap.size,2,none⟩=some (.string ⟨#[]⟩):=by unfold World.cell?;rw[hblk];rfl
     have z0:∀ i,w2.frozen? ⟨wr.heap.size,i,none⟩=false:=fun i=>by unfold World.frozen?;rw[hblk];simp
     have z00:=z0 0
     obtain⟨W2,hW2⟩:∃ W2,w2.setCell ⟨wr.heap.size,0,none⟩ (.int .i64 (x1:Int))=W2:=⟨_,rfl⟩
     have G2:Fr [wr.heap.size] w2 W2:=by rw[← hW2];exact (Fr.refl [wr.heap.size] w2).setCell (p:=⟨wr.heap.size,0,none⟩) (.inl (by simp)) _
     have KW2:=K2.fr G2 (by simp;omega)
     have i0':W2.cell? ⟨wr.heap.size,0,none⟩=some (.int .i64 (x1:Int)):=by rw[← hW2];exact cell_set e0
     have i1':W2.cell? ⟨wr.heap.size,1,none⟩=some (.int .i64 0):=by rw[← hW2];exact (setCell_off (by decide)).trans e1
     have i2':W2.cell? ⟨wr.heap.size,2,none⟩=some (.string ⟨#[]⟩):=by rw[← hW2];exact (setCell_off (by decide)).trans e2'
     have y0:∀ i,W2.frozen? ⟨wr.heap.size,i,none⟩=false:=fun i=>by rw[← hW2,World.frozen?_setCell];exact z0 i
     have FB:=FA.trans' G2 (fun x hx=>.inr (by simp at hx;omega))
     have hgW2:wr.heap.size<W2.heap.size:=lt_of_cell (a:=⟨wr.heap.size,0,none⟩) i0'
     have HW2:Hid _:=hW2
     have i0h:=i0'
     rw[← hW2] at i0h
     clear hW2 K2 F2 FA G2 e1 e2' z0 hblk K0 F0 hnew hgl HMn HC1
     go_wp2_with fail
     rw[HW2.out]
     clear i0h HW2 z00 e0
     refine (HC2.out W2 a3 KW2).mono ?_
     rintro ee w3 ⟨rfl,⟨a4,K3⟩,F3⟩
     have FC:=FB.trans F3
     have j0:w3.cell? ⟨wr.heap.size,0,none⟩=some (.int .i64 (x1:Int)):=(F3.cell (p:=⟨wr.heap.size,0,none⟩) hgW2 (by simp;omega)).trans i0'
     have j1:w3.cell? ⟨wr.heap.size,1,none⟩=some (.int .i64 0):=(F3.cell (p:=⟨wr.heap.size,1,none⟩) hgW2 (by simp;omega)).trans i1'
     have j2:w3.cell? ⟨wr.heap.size,2,none⟩=some (.string ⟨#[]⟩):=(F3.cell (p:=⟨wr.heap.size,2,none⟩) hgW2 (by simp;omega)).trans i2'
     have y1:∀ i,w3.frozen? ⟨wr.heap.size,i,none⟩=false:=fun i=>(F3.frozen (p:=⟨wr.heap.size,i,none⟩) hgW2 (by simp;omega)).trans (y0 i)
     have y11:=y1 1
     obtain⟨W3,hW3⟩:∃ W3,w3.setCell ⟨wr.heap.size,1,none⟩ (.int .i64 (x2:Int))=W3:=⟨_,rfl⟩
     have G3:Fr [wr.heap.size] w3 W3:=by rw[← hW3];exact (Fr.refl [wr.heap.size] w3).setCell (p:=⟨wr.heap.size,1,none⟩) (.inl (by simp)) _
     have KW3:=K3.fr G3 (by simp;omega)
     have l0:W3.cell? ⟨wr.heap.size,0,none⟩=some (.int .i64 (x1:Int)):=by rw[← hW3];exact (setCell_off (by decide)).trans j0
     have l1:W3.cell? ⟨wr.heap.size,1,none⟩=some (.int .i64 (x2:Int)):=by rw[← hW3];exact cell_set j1
     have l2:W3.cell? ⟨wr.heap.size,2,none⟩=some (.string ⟨#[]⟩):=by rw[← hW3];exact (setCell_off (by decide)).trans j2
     have y2:∀ i,W3.frozen? ⟨wr.heap.size,i,none⟩=false:=fun i=>by rw[← hW3,World.frozen?_setCell];exact y1 i
     have FD:=FC.trans' G3 (fun x hx=>.inr (by simp at hx;omega))
     have hgW3:wr.heap.size<W3.heap.size:=lt_of_cell (a:=⟨wr.heap.size,0,none⟩) l0
     have HW3:Hid _:=hW3
     clear hW3 K3 F3 FB FC G3 j0 j2 y0 y1 i0' i1' i2' KW2 HC2 hgW2
     go_wp2_with fail
     rw[HW3.out]
     clear HW3 y11 j1
     refine (HC3.out W3 a4 KW3).mono ?_
     rintro ee w4 ⟨rfl,⟨a5,K4⟩,F4⟩
     have FE:=FD.trans F4
     have m0:w4.cell? ⟨wr.heap.size,0,none⟩=some (.int .i64 (x1:Int)):=(F4.cell (p:=⟨wr.heap.size,0,none⟩) hgW3 (by simp;omega)).trans l0
     have m1:w4.cell? ⟨wr.heap.size,1,none⟩=some (.int .i64 (x2:Int)):=(F4.cell (p:=⟨wr.heap.size,1,none⟩) hgW3 (by simp;omega)).trans l1
     have m2:w4.cell? ⟨wr.heap.size,2,none⟩=some (.string ⟨#[]⟩):=(F4.cell (p:=⟨wr.heap.size,2,none⟩) hgW3 (by simp;omega)).trans l2
     have y3:w4.frozen? ⟨wr.heap.size,2,none⟩=false:=(F4.frozen (p:=⟨wr.heap.size,2,none⟩) hgW3 (by simp;omega)).trans (y2 2)
     obtain⟨W4,hW4⟩:∃ W4,w4.setCell ⟨wr.heap.size,2,none⟩ (.string o)=W4:=⟨_,rfl⟩
     have G4:Fr [wr.heap.size] w4 W4:=by rw[← hW4];exact (Fr.refl [wr.heap.size] w4).setCell (p:=⟨wr.heap.size,2,none⟩) (.inl (by simp)) _
     have KW4:=K4.fr G4 (by simp;omega)
     have n0:(w4.setCell ⟨wr.heap.size,2,none⟩ (.string o)).cell? ⟨wr.heap.size,0,none⟩=some (.int .i64 (x1:Int)):=(setCell_off (by decide)).trans m0
     have n1:(w4.setCell ⟨wr.heap.size,2,none⟩ (.string o)).cell? ⟨wr.heap.size,1,none⟩=some (.int .i64 (x2:Int)):=(setCell_off (by decide)).trans m1
     have n2:(w4.setCell ⟨wr.heap.size,2,none⟩ (.string o)).cell? ⟨wr.heap.size,2,none⟩=some (.string o):=cell_set m2
     have FG:=FE.trans' G4 (fun x hx=>.inr (by simp at hx;omega))
     have J2:=J.kept hrl FG
     have hown:=J2.own
     have hsz2:=J2.fr.size
     clear K4 F4 FD FE G4 l0 l1 l2 y2 KW3 HC3 hgW3 J K m0 m1
     rw[← hW4] at hown hsz2
     have HW4:Hid _:=hW4
     clear hW4
     have hfn:=fnC_new (w4.setCell ⟨wr.heap.size,2,none⟩ (.string o)) (x1:Int) (x2:Int) o
     rw[show (w4.setCell ⟨wr.heap.size,2,none⟩ (.string o)).heap.size=w4.heap.size by simp] at hfn
     go_wp2_with (at_builtin;refine wpList_append_own _ rfl _ _ 28 rfl w.heap.size 65 i0 (.agg #[.int .i64 0,.int .i64 0,.string ⟨#[]⟩]) 3 32 Tryz.underlying28 hi hz0 hz1 hz2 rfl (by decide) _ _ _ rfl (hown.alloc _) ⟨w4.heap.size,0,none⟩ 1 1 [.int .i64 x1,.int .i64 x2,.string o] rfl rfl hfn (fnC_one ⟨x1,x2,o⟩) (by unfold maxLen;omega) (by omega) (le_alloc _ hsz2) ?_)
     intro v' w5 hown' hgrow _
     have hW4:=HW4.out
     rw[hW4] at hown hgrow hsz2
     clear n0 n1 n2 hW4 HW4 m2 y3 hfn
     have J3:=(J2.kept hrl ((Fr.refl [r] W4).alloc _)).grown (s:=⟨x1,x2,o⟩) hown' hgrow
     have K5:RfI w5 r b t3 a5 e:=by
      refine⟨KW4.c.of_block ?_,KW4.ok,KW4.at_,KW4.la,KW4.le⟩
      rw[hgrow.block r (by have:=KW4.lt;simp;omega) (fun e=>by have:=(hown.lt r e.symm).1;omega)]
      exact Below.heap_alloc _ _ _ KW4.lt
     clear hown hown' hgrow J2 KW4
     have hl3:(acc++[(⟨(x1:Int),(x2:Int),o⟩:Wire.Fn)]).length=acc.length+1:=by simp
     obtain⟨b0,cap3,rfl⟩:=J3.form
     go_wp2
     refine⟨⟨acc++[(⟨(x1:Int),(x2:Int),o⟩:Wire.Fn)],t3,a5,by rw[hl3];go_num,by omega,K5,J3,HM2⟩,?_⟩
     simp[intOf]
     omega
    ·have g3:¬ (acc.length:Int)<3:=by omega
     have hmv:maxP acc.length=8:=by unfold maxP;rw[if_neg h3]
     rw[hmv] at HC1
     go_wp2_with fail
     refine (HC1.out _ K0).mono ?_
     rintro ee w2 ⟨rfl,⟨a3,K2⟩,F2⟩
     have hblk:=HMn.out w2 a3 K2 F2
     have FA:=F0.trans F2
     have e0:w2.cell? ⟨wr.heap.size,0,none⟩=some (.int .i64 0):=by unfold World.cell?;rw[hblk];rfl
     have e1:w2.cell? ⟨wr.heap.size,1,none⟩=some (.int .i64 0):=by unfold World.cell?;rw[hblk];rfl
     have e2':w2.cell? ⟨wr.heap.size,2,none⟩=some (.string ⟨#[]⟩):=by unfold World.cell?;rw[hblk];rfl
     have z0:∀ i,w2.frozen? ⟨wr.heap.size,i,none⟩=false:=fun i=>by unfold World.frozen?;rw[hblk];simp
     have z00:=z0 0
     obtain⟨W2,hW2⟩:∃ W2,w2.setCell ⟨wr.heap.size,0,none⟩ (.int .i64 (x1:Int))=W2:=⟨_,rfl⟩
     have G2:Fr [wr.heap.size] w2 W2:=by rw[← hW2];exact (Fr.refl [wr.heap.size] w2).setCell (p:=⟨wr.heap.size,0,none⟩) (.inl (by simp)) _
     have KW2:=K2.fr G2 (by simp;omega)
     have i0':W2.cell? ⟨wr.heap.size,0,none⟩=some (.int .i64 (x1:Int)):=by rw[← hW2];exact cell_set e0
     have i1':W2.cell? ⟨wr.heap.size,1,none⟩=some (.int .i64 0):=by rw[← hW2];exact (setCell_off (by decide)).trans e1
     have i2':W2.cell? ⟨wr.heap.size,2,none⟩=some (.string ⟨#[]⟩):=by rw[← hW2];exact (setCell_off (by decide)).trans e2'
     have y0:∀ i,W2.frozen? ⟨wr.heap.size,i,none⟩=false:=fun i=>by rw[← hW2,World.frozen?_setCell];exact z0 i
     have FB:=FA.trans' G2 (fun x hx=>.inr (by simp at hx;omega))
     have hgW2:wr.heap.size<W2.heap.size:=lt_of_cell (a:=⟨wr.heap.size,0,none⟩) i0'
     have HW2:Hid _:=hW2
     have i0h:=i0'
     rw[← hW2] at i0h
     clear hW2 K2 F2 FA G2 e1 e2' z0 hblk K0 F0 hnew hgl HMn HC1
     go_wp2_with fail
     rw[HW2.out]
     clear i0h HW2 z00 e0
     refine (HC2.out W2 a3 KW2).mono ?_
     rintro ee w3 ⟨rfl,⟨a4,K3⟩,F3⟩
     have FC:=FB.trans F3
     have j0:w3.cell? ⟨wr.heap.size,0,none⟩=some (.int .i64 (x1:Int)):=(F3.cell (p:=⟨wr.heap.size,0,none⟩) hgW2 (by simp;omega)).trans i0'
     have j1:w3.cell? ⟨wr.heap.size,1,none⟩=some (.int .i64 0):=(F3.cell (p:=⟨wr.heap.size,1,none⟩) hgW2 (by simp;omega)).trans i1'
     have j2:w3.cell? ⟨wr.heap.size,2,none⟩=some (.string ⟨#[]⟩):=(F3.cell (p:=⟨wr.heap.size,2,none⟩) hgW2 (by simp;omega)).trans i2'
     have y1:∀ i,w3.frozen? ⟨wr.heap.size,i,none⟩=false:=fun i=>(F3.frozen (p:=⟨wr.heap.size,i,none⟩) hgW2 (by simp;omega)).trans (y0 i)
     have y11:=y1 1
     obtain⟨W3,hW3⟩:∃ W3,w3.setCell ⟨wr.heap.size,1,none⟩ (.int .i64 (x2:Int))=W3:=⟨_,rfl⟩
     have G3:Fr [wr.heap.size] w3 W3:=by rw[← hW3];exact (Fr.refl [wr.heap.size] w3).setCell (p:=⟨wr.heap.size,1,none⟩) (.inl (by simp)) _
     have KW3:=K3.fr G3 (by simp;omega)
     have l0:W3.cell? ⟨wr.heap.size,0,none⟩=some (.int .i64 (x1:Int)):=by rw[← hW3];exact (setCell_off (by decide)).trans j0
     have l1:W3.cell? ⟨wr.heap.size,1,none⟩=some (.int .i64 (x2:Int)):=by rw[← hW3];exact cell_set j1
     have l2:W3.cell? ⟨wr.heap.size,2,none⟩=some (.string ⟨#[]⟩):=by rw[← hW3];exact (setCell_off (by decide)).trans j2
     have y2:∀ i,W3.frozen? ⟨wr.heap.size,i,none⟩=false:=fun i=>by rw[← hW3,World.frozen?_setCell];exact y1 i
     have FD:=FC.trans' G3 (fun x hx=>.inr (by simp at hx;omega))
     have hgW3:wr.heap.size<W3.heap.size:=lt_of_cell (a:=⟨wr.heap.size,0,none⟩) l0
     have HW3:Hid _:=hW3
     clear hW3 K3 F3 FB FC G3 j0 j2 y0 y1 i0' i1' i2' KW2 HC2 hgW2
     go_wp2_with fail
     rw[HW3.out]
     clear HW3 y11 j1
     refine (HC3.out W3 a4 KW3).mono ?_
     rintro ee w4 ⟨rfl,⟨a5,K4⟩,F4⟩
     have FE:=FD.trans F4
     have m0:w4.cell? ⟨wr.heap.size,0,none⟩=some (.int .i64 (x1:Int)):=(F4.cell (p:=⟨wr.heap.size,0,none⟩) hgW3 (by simp;omega)).trans l0
     have m1:w4.cell? ⟨wr.heap.size,1,none⟩=some (.int .i64 (x2:Int)):=(F4.cell (p:=⟨wr.heap.size,1,none⟩) hgW3 (by simp;omega)).trans l1
     have m2:w4.cell? ⟨wr.heap.size,2,none⟩=some (.string ⟨#[]⟩):=(F4.cell (p:=⟨wr.heap.size,2,none⟩) hgW3 (by simp;omega)).trans l2
     have y3:w4.frozen? ⟨wr.heap.size,2,none⟩=false:=(F4.frozen (p:=⟨wr.heap.size,2,none⟩) hgW3 (by simp;omega)).trans (y2 2)
     obtain⟨W4,hW4⟩:∃ W4,w4.setCell ⟨wr.heap.size,2,none⟩ (.string o)=W4:=⟨_,rfl⟩
     have G4:Fr [wr.heap.size] w4 W4:=by rw[← hW4];exact (Fr.refl [wr.heap.size] w4).setCell (p:=⟨wr.heap.size,2,none⟩) (.inl (by simp)) _
     have KW4:=K4.fr G4 (by simp;omega)
     have n0:(w4.setCell ⟨wr.heap.size,2,none⟩ (.string o)).cell? ⟨wr.heap.size,0,none⟩=some (.int .i64 (x1:Int)):=(setCell_off (by decide)).trans m0
     have n1:(w4.setCell ⟨wr.heap.size,2,none⟩ (.string o)).cell? ⟨wr.heap.size,1,none⟩=some (.int .i64 (x2:Int)):=(setCell_off (by decide)).trans m1
     have n2:(w4.setCell ⟨wr.heap.size,2,none⟩ (.string o)).cell? ⟨wr.heap.size,2,none⟩=some (.string o):=cell_set m2
     have FG:=FE.trans' G4 (fun x hx=>.inr (by simp at hx;omega))
     have J2:=J.kept hrl FG
     have hown:=J2.own
     have hsz2:=J2.fr.size
     clear K4 F4 FD FE G4 l0 l1 l2 y2 KW3 HC3 hgW3 J K m0 m1
     rw[← hW4] at hown hsz2
     have HW4:Hid _:=hW4
     clear hW4
     have hfn:=fnC_new (w4.setCell ⟨wr.heap.size,2,none⟩ (.string o)) (x1:Int) (x2:Int) o
     rw[show (w4.setCell ⟨wr.heap.size,2,none⟩ (.string o)).heap.size=w4.heap.size by simp] at hfn
     go_wp2_with (at_builtin;refine wpList_append_own _ rfl _ _ 28 rfl w.heap.size 65 i0 (.agg #[.int .i64 0,.int .i64 0,.string ⟨#[]⟩]) 3 32 Tryz.underlying28 hi hz0 hz1 hz2 rfl (by decide) _ _ _ rfl (hown.alloc _) ⟨w4.heap.size,0,none⟩ 1 1 [.int .i64 x1,.int .i64 x2,.string o] rfl rfl hfn (fnC_one ⟨x1,x2,o⟩) (by unfold maxLen;omega) (by omega) (le_alloc _ hsz2) ?_)
     intro v' w5 hown' hgrow _
     have hW4:=HW4.out
     rw[hW4] at hown hgrow hsz2
     clear n0 n1 n2 hW4 HW4 m2 y3 hfn
     have J3:=(J2.kept hrl ((Fr.refl [r] W4).alloc _)).grown (s:=⟨x1,x2,o⟩) hown' hgrow
     have K5:RfI w5 r b t3 a5 e:=by
      refine⟨KW4.c.of_block ?_,KW4.ok,KW4.at_,KW4.la,KW4.le⟩
      rw[hgrow.block r (by have:=KW4.lt;simp;omega) (fun e=>by have:=(hown.lt r e.symm).1;omega)]
      exact Below.heap_alloc _ _ _ KW4.lt
     clear hown hown' hgrow J2 KW4
     have hl3:(acc++[(⟨(x1:Int),(x2:Int),o⟩:Wire.Fn)]).length=acc.length+1:=by simp
     obtain⟨b0,cap3,rfl⟩:=J3.form
     go_wp2
     refine⟨⟨acc++[(⟨(x1:Int),(x2:Int),o⟩:Wire.Fn)],t3,a5,by rw[hl3];go_num,by omega,K5,J3,HM2⟩,?_⟩
     simp[intOf]
     omega
  ·obtain rfl:n=acc.length:=by omega
   have g1:¬ (acc.length:Int)<acc.length:=by omega
   obtain⟨q1,q2⟩:=hM.out.stop K.ok (.inl rfl)
   simp only at q1 q2
   subst q1
   have Q2:Hid _:=q2
   clear q2 hM
   go_wp2
   go_ret
   exact⟨⟨_,rfl,acc,J.far,fun x y hxy=>Q2.out ⟨_,hxy⟩⟩,⟨aj,K⟩,J.fr⟩
structure BoxR (B:Nat) (r mb:Nat) (o0 o1:Option (List ByteArray)) (o2 o3:Option Nat) (o4:Option (List Wire.Fn)) (W:World):Prop where
 m0:∃ v L,W.cell? ⟨mb,0,none⟩=some v∧StrsFar B W v L∧∀ X,o0=some X→L=X
 m1:∃ v L,W.cell? ⟨mb,1,none⟩=some v∧StrsFar B W v L∧∀ X,o1=some X→L=X
 m2:∃ n:Nat,W.cell? ⟨mb,2,none⟩=some (.int .i64 n)∧∀ X,o2=some X→n=X
 m3:∃ n:Nat,W.cell? ⟨mb,3,none⟩=some (.int .i64 n)∧∀ X,o3=some X→n=X
 m4:∃ v L,W.cell? ⟨mb,4,none⟩=some v∧FnsFar B W v L∧∀ X,o4=some X→L=X
 fz:∀ i,W.frozen? ⟨mb,i,none⟩=false
 dis:∀ v0 v1 g,W.cell? ⟨mb,0,none⟩=some v0→W.cell? ⟨mb,1,none⟩=some v1→v0.ownBlock=some g→v1.ownBlock=some g→False
 n2:r≠mb
 lr:r<B
 lm:mb<B
 lB:B≤W.heap.size
variable {B r mb : Nat} {o0 o1 : Option (List ByteArray)} {o2 o3 : Option Nat} {o4 : Option (List Wire.Fn)} {W W' : World}
theorem BoxR.ltm (h:BoxR B r mb o0 o1 o2 o3 o4 W):mb<W.heap.size:=Nat.lt_of_lt_of_le h.lm h.lB
theorem BoxR.fr (h:BoxR B r mb o0 o1 o2 o3 o4 W) (hf:Fr [r] W W'):BoxR B r mb o0 o1 o2 o3 o4 W':=by
 have hS:∀ x,x ∈ [r]→x<B:=fun x hx=>by have:=h.lr;simp at hx;omega
 have cm:∀ i,W'.cell? ⟨mb,i,none⟩=W.cell? ⟨mb,i,none⟩:=fun i=>hf.cell (p:=⟨mb,i,none⟩) h.ltm (by simpa using fun e=>h.n2 e.symm)
 obtain⟨v0,L0,a0,b0,c0⟩:=h.m0
 obtain⟨v1,L1,a1,b1,c1⟩:=h.m1
 obtain⟨n2,a2,c2⟩:=h.m2
 obtain⟨n3,a3,c3⟩:=h.m3
 obtain⟨v4,L4,a4,b4,c4⟩:=h.m4
 refine⟨⟨v0,L0,(cm 0).trans a0,b0.fr hf hS,c0⟩,⟨v1,L1,(cm 1).trans a1,b1.fr hf hS,c1⟩,
  ⟨n2,(cm 2).trans a2,c2⟩,⟨n3,(cm 3).trans a3,c3⟩,⟨v4,L4,(cm 4).trans a4,b4.fr hf hS,c4⟩,fun i=>(hf.frozen (p:=⟨mb,i,none⟩) h.ltm (by simpa using fun e=>h.n2 e.symm)).trans (h.fz i),fun w0 w1 g j0 j1=>h.dis w0 w1 g ((cm 0).symm.trans j0) ((cm 1).symm.trans j1),h.n2,h.lr,h.lm,Nat.le_trans h.lB hf.size⟩
theorem BoxR.set (h:BoxR B r mb o0 o1 o2 o3 o4 W) (i:Nat) (v:Value) (q0 q1:Option (List ByteArray)) (q2 q3:Option Nat) (q4:Option (List Wire.Fn))
  (h0:∃ v' L,(W.setCell ⟨mb,i,none⟩ v).cell? ⟨mb,0,none⟩=some v'∧StrsFar B W v' L∧∀ X,q0=some X→L=X)
  (h1:∃ v' L,(W.setCell ⟨mb,i,none⟩ v).cell? ⟨mb,1,none⟩=some v'∧StrsFar B W v' L∧∀ X,q1=some X→L=X)
  (h2:∃ n:Nat,(W.setCell ⟨mb,i,none⟩ v).cell? ⟨mb,2,none⟩=some (.int .i64 n)∧∀ X,q2=some X→n=X)
  (h3:∃ n:Nat,(W.setCell ⟨mb,i,none⟩ v).cell? ⟨mb,3,none⟩=some (.int .i64 n)∧∀ X,q3=some X→n=X)
  (h4:∃ v' L,(W.setCell ⟨mb,i,none⟩ v).cell? ⟨mb,4,none⟩=some v'∧FnsFar B W v' L∧∀ X,q4=some X→L=X)
  (hd:∀ v0 v1 g,(W.setCell ⟨mb,i,none⟩ v).cell? ⟨mb,0,none⟩=some v0→(W.setCell ⟨mb,i,none⟩ v).cell? ⟨mb,1,none⟩=some v1→v0.ownBlock=some g→v1.ownBlock=some g→False):BoxR B r mb q0 q1 q2 q3 q4 (W.setCell ⟨mb,i,none⟩ v):=by
 have hf:=fr_set W mb i v
 have hS:∀ x,x ∈ [mb]→x<B:=fun x hx=>by have:=h.lm;simp at hx;omega
 obtain⟨v0,L0,a0,b0,c0⟩:=h0
 obtain⟨v1,L1,a1,b1,c1⟩:=h1
 obtain⟨v4,L4,a4,b4,c4⟩:=h4
 exact⟨⟨v0,L0,a0,b0.fr hf hS,c0⟩,⟨v1,L1,a1,b1.fr hf hS,c1⟩,h2,h3,⟨v4,L4,a4,b4.fr hf hS,c4⟩,
  fun j=>by rw[World.frozen?_setCell];exact h.fz j,hd,h.n2,h.lr,h.lm,Nat.le_trans h.lB hf.size⟩
theorem set_sameR (h:BoxR B r mb o0 o1 o2 o3 o4 W) (i:Nat) (hi:i<5) (v:Value):(W.setCell ⟨mb,i,none⟩ v).cell? ⟨mb,i,none⟩=some v:=by
 obtain⟨v0,L0,a0,-⟩:=h.m0
 obtain⟨v1,L1,a1,-⟩:=h.m1
 obtain⟨n2,a2,-⟩:=h.m2
 obtain⟨n3,a3,-⟩:=h.m3
 obtain⟨v4,L4,a4,-⟩:=h.m4
 obtain rfl | rfl | rfl | rfl | rfl:i=0∨i=1∨i=2∨i=3∨i=4:=by omega
 ·exact cell_set a0
 ·exact cell_set a1
 ·exact cell_set a2
 ·exact cell_set a3
 ·exact cell_set a4
theorem BoxR.set0 (h:BoxR B r mb o0 o1 o2 o3 o4 W) (v:Value) (L:List ByteArray) (q:Option (List ByteArray)) (hv:StrsFar B W v L) (hq:∀ X,q=some X→L=X) (hn:∀ v1 g,W.cell? ⟨mb,1,none⟩=some v1→v.ownBlock=some g→v1.ownBlock=some g→False):BoxR B r mb q o1 o2 o3 o4 (W.setCell ⟨mb,0,none⟩ v):=by
 obtain⟨v1,L1,a1,b1⟩:=h.m1
 obtain⟨n2,a2,c2⟩:=h.m2
 obtain⟨n3,a3,c3⟩:=h.m3
 obtain⟨v4,L4,a4,b4⟩:=h.m4
 exact h.set 0 v q o1 o2 o3 o4 ⟨v,L,set_sameR h 0 (by omega) v,hv,hq⟩ ⟨v1,L1,(setCell_off (by decide)).trans a1,b1⟩ ⟨n2,(setCell_off (by decide)).trans a2,c2⟩ ⟨n3,(setCell_off (by decide)).trans a3,c3⟩ ⟨v4,L4,(setCell_off (by decide)).trans a4,b4⟩
  (fun w0 w1 g j0 j1 e0 e1=>by rw[set_sameR h 0 (by omega) v] at j0;cases j0;exact hn w1 g ((setCell_off (by decide)).symm.trans j1) e0 e1)
theorem BoxR.set1 (h:BoxR B r mb o0 o1 o2 o3 o4 W) (v:Value) (L:List ByteArray) (q:Option (List ByteArray)) (hv:StrsFar B W v L) (hq:∀ X,q=some X→L=X) (hn:∀ v1 g,W.cell? ⟨mb,0,none⟩=some v1→v.ownBlock=some g→v1.ownBlock=some g→False):BoxR B r mb o0 q o2 o3 o4 (W.setCell ⟨mb,1,none⟩ v):=by
 obtain⟨v0,L0,a0,b0⟩:=h.m0
 obtain⟨n2,a2,c2⟩:=h.m2
 obtain⟨n3,a3,c3⟩:=h.m3
 obtain⟨v4,L4,a4,b4⟩:=h.m4
 exact h.set 1 v o0 q o2 o3 o4 ⟨v0,L0,(setCell_off (by decide)).trans a0,b0⟩ ⟨v,L,set_sameR h 1 (by omega) v,hv,hq⟩ ⟨n2,(setCell_off (by decide)).trans a2,c2⟩ ⟨n3,(setCell_off (by decide)).trans a3,c3⟩ ⟨v4,L4,(setCell_off (by decide)).trans a4,b4⟩
  (fun w0 w1 g j0 j1 e0 e1=>by rw[set_sameR h 1 (by omega) v] at j1;cases j1;exact hn w0 g ((setCell_off (by decide)).symm.trans j0) e1 e0)
theorem BoxR.set2 (h:BoxR B r mb o0 o1 o2 o3 o4 W) (n:Nat) (q:Option Nat) (hq:∀ X,q=some X→n=X):BoxR B r mb o0 o1 q o3 o4 (W.setCell ⟨mb,2,none⟩ (.int .i64 n)):=by
 obtain⟨v0,L0,a0,b0⟩:=h.m0
 obtain⟨v1,L1,a1,b1⟩:=h.m1
 obtain⟨n3,a3,c3⟩:=h.m3
 obtain⟨v4,L4,a4,b4⟩:=h.m4
 exact h.set 2 _ o0 o1 q o3 o4 ⟨v0,L0,(setCell_off (by decide)).trans a0,b0⟩ ⟨v1,L1,(setCell_off (by decide)).trans a1,b1⟩ ⟨n,set_sameR h 2 (by omega) _,hq⟩ ⟨n3,(setCell_off (by decide)).trans a3,c3⟩ ⟨v4,L4,(setCell_off (by decide)).trans a4,b4⟩
  (fun w0 w1 g j0 j1=>h.dis w0 w1 g ((setCell_off (by decide)).symm.trans j0) ((setCell_off (by decide)).symm.trans j1))
theorem BoxR.set3 (h:BoxR B r mb o0 o1 o2 o3 o4 W) (n:Nat) (q:Option Nat) (hq:∀ X,q=some X→n=X):BoxR B r mb o0 o1 o2 q o4 (W.setCell ⟨mb,3,none⟩ (.int .i64 n)):=by
 obtain⟨v0,L0,a0,b0⟩:=h.m0
 obtain⟨v1,L1,a1,b1⟩:=h.m1
 obtain⟨n2,a2,c2⟩:=h.m2
 obtain⟨v4,L4,a4,b4⟩:=h.m4
 exact h.set 3 _ o0 o1 o2 q o4 ⟨v0,L0,(setCell_off (by decide)).trans a0,b0⟩ ⟨v1,L1,(setCell_off (by decide)).trans a1,b1⟩ ⟨n2,(setCell_off (by decide)).trans a2,c2⟩ ⟨n,set_sameR h 3 (by omega) _,hq⟩ ⟨v4,L4,(setCell_off (by decide)).trans a4,b4⟩
  (fun w0 w1 g j0 j1=>h.dis w0 w1 g ((setCell_off (by decide)).symm.trans j0) ((setCell_off (by decide)).symm.trans j1))
theorem BoxR.set4 (h:BoxR B r mb o0 o1 o2 o3 o4 W) (v:Value) (L:List Wire.Fn) (q:Option (List Wire.Fn)) (hv:FnsFar B W v L) (hq:∀ X,q=some X→L=X):BoxR B r mb o0 o1 o2 o3 q (W.setCell ⟨mb,4,none⟩ v):=by
 obtain⟨v0,L0,a0,b0⟩:=h.m0
 obtain⟨v1,L1,a1,b1⟩:=h.m1
 obtain⟨n2,a2,c2⟩:=h.m2
 obtain⟨n3,a3,c3⟩:=h.m3
 exact h.set 4 v o0 o1 o2 o3 q ⟨v0,L0,(setCell_off (by decide)).trans a0,b0⟩ ⟨v1,L1,(setCell_off (by decide)).trans a1,b1⟩ ⟨n2,(setCell_off (by decide)).trans a2,c2⟩ ⟨n3,(setCell_off (by decide)).trans a3,c3⟩ ⟨v,L,set_sameR h 4 (by omega) v,hv,hq⟩
  (fun w0 w1 g j0 j1=>h.dis w0 w1 g ((setCell_off (by decide)).symm.trans j0) ((setCell_off (by decide)).symm.trans j1))
theorem sect_ref {α:Type} (k:Nat) (hk:k<256) (f:Rd α) (hf:Tidy f) (d:α) (b:ByteArray) {s s1 s2:Sta}{x:Nat} (hok:okSta (bl b) s) (hend:∀ p,s=.inr p→p.2=b.size)
  (k1:nextR (needR (UInt8.ofNat k) 7) (bl b) s=s1) (h2:outR numU (bl b) 0 s1=x) (k2:nextR numU (bl b) s1=s2) :
  nextR (fun base l=>sectR k base f l) (bl b) s=endS b.size (shutS b.size (nextR f (bl b) (beginS b.size x s1 s2))) ∧
  ((∃ p,nextR (fun base l=>sectR k base f l) (bl b) s=.inr p)→(∃ p,nextR f (bl b) (beginS b.size x s1 s2)=.inr p)∧outR (fun base l=>sectR k base f l) (bl b) d s=outR f (bl b) d (beginS b.size x s1 s2)):=by
 obtain⟨q1,q2⟩:=sect_next k hk f hf d b hok hend k1 h2 k2
 by_cases hc:stE b.size s2-stA b.size s2<x
 ·have e1:=q1 hc
  have hb:beginS b.size x s1 s2=failS 7 (stA b.size s1) s2:=by unfold beginS;exact if_pos hc
  rw[hb,e1]
  rcases s2 with g | p
  ·exfalso
   have hx0:x=0:=by rw[← h2];exact out_bad k2
   omega
  ·refine⟨?_,?_⟩
   ·show failS 7 (stA b.size s1) (.inr p)=endS b.size (shutS b.size (.inl (7,stA b.size s1)))
    rw[shutS_bad]
    rfl
   ·rintro ⟨y,hy⟩
    cases hy
 ·obtain⟨e1,e2⟩:=q2 hc
  have hb:beginS b.size x s1 s2=openS x s2:=by unfold beginS;exact if_neg hc
  rw[hb]
  refine⟨e1,fun h=>e2 (by rw[← e1];exact h)⟩
theorem BoxR.start {w:World}{r mb:Nat} (hm:w.heap[mb]?=some (.cells zeroM 30)) (hrm:r≠mb) (hr:r<w.heap.size):BoxR w.heap.size r mb none none none none none w:=by
 have cm:∀ i,w.cell? ⟨mb,i,none⟩=zeroM[i]?:=fun i=>by unfold World.cell?;rw[hm];simp
 exact⟨⟨_,[],cm 0,far_nil _ _,fun X h=>by cases h⟩,⟨_,[],cm 1,far_nil _ _,fun X h=>by cases h⟩,⟨0,cm 2,fun X h=>by cases h⟩,⟨0,cm 3,fun X h=>by cases h⟩,⟨_,[],cm 4,farF_nil _ _,fun X h=>by cases h⟩,
  fun i=>by unfold World.frozen?;rw[hm];simp,fun w0 w1 g j0 _ e0 _=>by (rw[cm 0] at j0;simp[zeroM] at j0;subst j0;cases e0),hrm,hr,(Array.getElem?_eq_some_iff.1 hm).1,Nat.le_refl _⟩
end Go.Proofs.YtclkgoigmgkffaaGreatDoor
