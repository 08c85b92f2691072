/-
  Texts Co Cp Cq Cr Cs.
-/
import Derived.Test.YtgpamchpeamnfaaGreatDoorMA
import Derived.Test.YtgpamchpeamnfaaGreatDoorM28
import Derived.Test.YtgpamchpeamnfaaGreatDoorM00
set_option linter.unusedSimpArgs false
set_option linter.unusedVariables false
set_option maxRecDepth 100000
set_option maxHeartbeats 40000000
open _root_.Go.Proofs.Tryz
namespace Go.Proofs.YtgpamchpeamnfaaGreatDoor
open Go.RowKit
open Wire Flow Mach
theorem MT.refield {E:Ev}{ks:List UInt8}{tag:Nat→Nat}{W W2 W':World} (h:MT E ks tag W) (f2:Fr [] W W2) {L:List ByteArray}{v:Value} (hL:OwS W2 L v W') {t:ByteArray} (ht:t.size≤1048576) (hl:L.length≤1048577) (hb:∀ x ∈ L,x.size≤1048576):MW E ks tag W ((W'.setCell ⟨E.O 1,2,none⟩ (.string t)).setCell ⟨E.O 1,3,none⟩ v):=by
 have wt:=h.wt
 obtain⟨R,sv,h3⟩:=h.frm f2
 have hX:=h3.B.x.2.2
 have S4:=h3.S.refield hL h3.B.fd.1
 have S5:=(S4.set (i:=1) (j:=2) (by omega) (.string t)).set (i:=1) (j:=3) (by omega) v
 have MM:=h3.world S5 (fun i j hi=>by rw[bJ _ _ (by omega),bJ _ _ (by omega)]) (fun i hi=>aJ _ _ hi) h3.B.rd ⟨⟨t,rfl,ht⟩,h3.B.rc.2⟩ ⟨L,hl,hb,rfl⟩
 refine⟨upC (upC E.C 1 2 (.string t)) 1 3 v,fun j=>rfl,_,⟨_,sv,MM⟩,?_⟩
 have t5:aM (aM tag W.heap.size 6) W2.heap.size 5 (E.O 1)≠6:=by rw[aI (Nll wt.2 f2.size),aI wt.2,wt.1];decide
 exact ((((Kp.refl tag W).frm f2).trans (Kp.of_fr hL.fr (fun k hk=>aI hk))).trans (Kp.set t5)).trans (Kp.set t5)
theorem aPg (E:Ev)(ks:List UInt8)(tag:Nat→Nat)(W:World)(h:MT E ks tag W)(hp:iM W)(n:Int)(d m:Int)(s0:ByteArray)(h0:SzN m s0):Calls prog 62 #[ptr (E.O 1),.int .i64 n,vlV d m s0] W (bDq E ks tag W):=by
 obtain⟨W1,hW1⟩:=eX (W.alloc (.cells #[.int .i64 d,.int .i64 m,.string s0] 118))
 have F1:Fr [] W W1:=by rw[← hW1];exact (Fr.refl [] W).alloc _
 have k1:=wan W (.cells #[.int .i64 d,.int .i64 m,.string s0] 118)
 rw[hW1] at k1
 have e1:∀ t,W1.cell? ⟨W.heap.size,t,none⟩=(#[.int .i64 d,.int .i64 m,.string s0]:Array Value)[t]?:=fun t=>by unfold World.cell?;rw[k1];rfl
 have a0:=e1 0
 have a1:=e1 1
 have a2:=e1 2
 simp at a0 a1 a2
 have HT:Hid _:=fun (_:Unit)=>uF d m s0 h0 W1 (hp.fr F1)
 have HZ:Hid _:=fun (W':World) (f:Fr [] W W')=>MW.of (h.mk f)
 clear k1 e1 h0 hp
 by_cases hbad:n<0∨50<n
 ·have Z:=HZ.out _ F1
  clear HZ HT h
  by_cases hneg:n<0
  ·clear hbad
   go_enter func62,ntmps62
   go_wp2
   go_ret
   exact⟨⟨5,rfl,by decide,by decide⟩,Z⟩
  ·have g2:50<n:=by omega
   clear hbad
   go_enter func62,ntmps62
   go_wp2
   go_ret
   exact⟨⟨5,rfl,by decide,by decide⟩,Z⟩
 ·obtain⟨nn,rfl⟩:∃ nn:Nat,n=nn:=⟨n.toNat,by omega⟩
  have g1:¬ ((nn:Int)<0):=by omega
  have g2:¬ ((50:Int)<nn):=by omega
  clear hbad
  have wt:=h.wt
  by_cases hz:nn=0
  ·subst hz
   go_enter func62,ntmps62
   go_wp2_with fail
   refine (HT.out ()).mono ?_
   rintro e W2 ⟨⟨s,rfl,hs⟩,f2⟩
   have F2:=F1.trans f2
   have T2:=h.frm F2
   obtain⟨p2,z2⟩:=T2.wc (j:=2) (by decide)
   obtain⟨R,sv,h3⟩:=id T2
   have hX:=h3.B.x.2.2
   obtain⟨⟨s2,e2,-⟩,-⟩:=h3.B.rc
   rw[e2] at p2
   obtain⟨W3,hW3⟩:=eX (W2.setCell ⟨E.O 1,2,none⟩ (.string s))
   have S3:=h3.S.set (i:=1) (j:=2) (by omega) (.string s)
   rw[hW3] at S3
   have tO:aM tag W.heap.size 6 (E.O 1)=1:=by rw[aI wt.2,wt.1]
   have K3:Kp tag (aM tag W.heap.size 6) W W3:=((Kp.refl tag W).frm F2).trans (by rw[← hW3];exact Kp.set (by rw[tO];decide))
   obtain⟨-,L0,-,-,r5⟩:=h3.B.fd
   obtain⟨o3,c3,e3⟩:=cN (h3.S.row h3.B.fd.1 r5).own
   have Fin:Hid _:=fun (L:List ByteArray) (v:Value) (W4:World) (hL:OwS W3 L v W4) (hl:L.length≤s.size+1) (hb:∀ x ∈ L,x.size≤s.size)=>(show
     (W4.cell? ⟨E.O 1,3,none⟩=some (E.C 1 3)∧W4.frozen? ⟨E.O 1,3,none⟩=false)∧MW E ks tag W (W4.setCell ⟨E.O 1,3,none⟩ v) from by
    have S4:=S3.refield hL h3.B.fd.1
    have S5:=S4.set (i:=1) (j:=3) (by omega) v
    have MM:=h3.world S5 (fun i j hi=>by rw[bJ _ _ (by omega),bJ _ _ (by omega)]) (fun i hi=>aJ _ _ hi) h3.B.rd ⟨⟨s,rfl,hs⟩,h3.B.rc.2⟩ ⟨L,by omega,fun x hx=>Nat.le_trans (hb x hx) hs,rfl⟩
    refine⟨⟨S4.oc (i:=1) (j:=3) (by omega),S4.oz (i:=1) (j:=3) (by omega)⟩,upC (upC E.C 1 2 (.string s)) 1 3 v,fun j=>rfl,_,⟨_,sv,MM⟩,?_⟩
    have t5:aM (aM tag W.heap.size 6) W3.heap.size 5 (E.O 1)≠6:=by rw[aI (Nll wt.2 K3.size),tO];decide
    exact (K3.trans (Kp.of_fr hL.fr (fun k hk=>aI hk))).trans (Kp.set t5))
   rw[e3] at Fin
   have HC:Hid _:=fun (_:Unit)=>qX s hs W3
   clear h h3 T2 S3 K3 tO wt hX HZ HT f2 F2 F1 e2 e3 r5
   go_wp2_with fail
   refine (HC.out ()).mono ?_
   rintro e W4 ⟨v,L,rfl,hL,hl,hb⟩
   obtain⟨o6,c6,e6⟩:=cN hL.own
   generalize hln:L.length=ln at e6
   subst e6
   obtain⟨⟨p3,pz3⟩,Z⟩:=Fin.out L _ W4 hL hl hb
   have HZ:Hid _:=Z
   clear Fin HC hL hl hb Z hln hW3 p2 z2
   go_wp2
   go_ret
   exact⟨⟨0,rfl,by decide,by decide⟩,HZ.out⟩
  ·obtain⟨i0,hi,hz0,hz1,hz2⟩:=info_parts Q7
   have g3:((nn:Int)==0)=false:=by simp;omega
   go_enter func62,ntmps62
   go_wp2_with fail
   refine (HT.out ()).mono ?_
   rintro e W2 ⟨⟨s,rfl,hs⟩,f2⟩
   have F2:=F1.trans f2
   have T2:=h.frm F2
   have fc:∀ W3,Fr [] W2 W3→MT E ks (aM (aM tag W.heap.size 6) W2.heap.size 6) W3:=fun W3 f3=>T2.frm f3
   obtain⟨R,sv,h3⟩:=id T2
   obtain⟨l5,L5,hl5,hb5,r5⟩:=h3.B.fd
   have own5:=(h3.S.row l5 r5).own
   obtain⟨o3,c3,e3⟩:=cN own5
   have p3:=T2.wc (j:=3) (by decide)
   rw[e3] at p3 own5
   have cl:∀ k,k<L5.length→∃ (g:Nat) (f:ByteArray),o3=some ⟨g,0,none⟩∧g<W2.heap.size∧f.size≤1048576∧W2.cell? ⟨g,k,none⟩=some (.string f):=fun k hk=>by
    obtain⟨g,cap,eg,-,hg⟩:=fG own5 (by omega)
    simp only[Value.slice.injEq,true_and] at eg
    obtain⟨rfl,rfl⟩:=eg
    exact⟨g,L5[k],rfl,hg,hb5 _ (List.getElem_mem hk),bV own5 (by rw[List.getElem?_map,Lge hk];rfl)⟩
   have Cl:Hid _:=cl
   have hO:E.O 1<W2.heap.size:=Nll wt.2 F2.size
   have Fin:Hid _:=fun (W':World) (L:List ByteArray) (v:Value) (hL:OwS W2 L v W') (t:ByteArray) (ht:t.size≤1048576) (hl:L.length≤1048577) (hb:∀ x ∈ L,x.size≤1048576)=>h.refield F2 hL ht hl hb
   have HW:Hid _:=fun (W':World) (f:Fr [] W2 W')=>HZ.out W' (F2.trans f)
   have p2:=T2.wc (j:=2) (by decide)
   obtain⟨⟨s2,e2,-⟩,-⟩:=h3.B.rc
   rw[e2] at p2
   clear cl h h3 T2 fc own5 e3 e2 hb5 r5 l5 HZ HT f2 F1 F2 wt a0 a1 a2
   generalize L5.length=n5 at *
   obtain⟨p3,z3⟩:=p3
   obtain⟨p2,z2⟩:=p2
   have HP:Hid _:=AI p3 (AI z3 (AI p2 (AI z2 hW1)))
   clear p3 z3 p2 z2 hW1
   go_wp2
   go_loopw [8,9] (fun l i wr=>∃ (j:Nat) (L:List ByteArray),i=.int .i64 ((j:Int)+1)∧L.length=j∧(j≤n5∨j≤nn)∧Hid (∀ x ∈ L,x.size≤1048576)∧OwS W2 L l wr) (fun _ i _=>n5+nn+1-(intOf i).toNat)
   case atStart=>exact⟨0,[],rfl,rfl,by omega,(by intro x hx;cases hx),OwS.start W2⟩
   case round=>
    obtain⟨_,L,rfl,rfl,hj,hx,J⟩:=hrel
    obtain⟨p3,z3,p2,z2,-⟩:=HP.out
    replace p3:=(J.fr.cell (p:=⟨E.O 1,3,none⟩) hO (by simp)).trans p3
    replace z3:=(J.fr.frozen (p:=⟨E.O 1,3,none⟩) hO (by simp)).trans z3
    replace p2:=(J.fr.cell (p:=⟨E.O 1,2,none⟩) hO (by simp)).trans p2
    replace z2:=(J.fr.frozen (p:=⟨E.O 1,2,none⟩) hO (by simp)).trans z2
    have hsz:=J.fr.size
    by_cases hgo:L.length<n5∨L.length<nn
    ·have hown:=J.own
     have hjn:(L.length:Int)+1≤1048627:=by omega
     have:∃ f:ByteArray,f.size≤1048576∧((L.length<n5∧∃ g f',o3=some ⟨g,0,none⟩∧wr.cell? ⟨g,L.length,none⟩=some (.string f')∧((L.length+1=nn∧f=s)∨(L.length+1≠nn∧f'=f)))∨(n5≤L.length∧L.length+1=nn∧f=s)∨(n5≤L.length∧L.length+1<nn∧f=⟨#[]⟩)):=by
      by_cases hA:L.length<n5
      ·obtain⟨g,f',eo,hg,hf,hc⟩:=Cl.out L.length hA
       have hc':=(J.fr.cell (p:=⟨g,L.length,none⟩) hg (by simp)).trans hc
       by_cases hn:L.length+1=nn
       ·exact⟨s,hs,.inl ⟨hA,g,f',eo,hc',.inl ⟨hn,rfl⟩⟩⟩
       ·exact⟨f',hf,.inl ⟨hA,g,f',eo,hc',.inr ⟨hn,rfl⟩⟩⟩
      ·by_cases hn:L.length+1=nn
       ·exact⟨s,hs,.inr (.inl ⟨by omega,hn,rfl⟩)⟩
       ·exact⟨⟨#[]⟩,by decide,.inr (.inr ⟨by omega,by omega,rfl⟩)⟩
     obtain⟨f,hf,hcase⟩:=this
     have J3:Hid _:=fun v' w3 hown' hgrow=>J.grown (s:=f) (o:=.cells #[.string f] 9) (v':=v') (W':=w3) hown' hgrow
     have hx3:Hid (∀ x ∈ L++[f],x.size≤1048576):=by
      intro x hm
      rcases List.mem_append.1 hm with h | h
      ·exact hx.out x h
      ·simp at h
       subst h
       exact hf
     clear hx J Cl Fin HW HP
     rcases hcase with ⟨hA,g,f',rfl,hc,⟨hn,rfl⟩ | ⟨hn,rfl⟩⟩ | ⟨hA,hn,rfl⟩ | ⟨hA,hn,rfl⟩
     ·have gA:(L.length:Int)+1≤n5:=by omega
      have gN:((L.length:Int)+1==nn)=true:=by simp;omega
      clear hn hA
      go_wp2_with (at_builtin;refine wpList_append_own _ rfl _ _ 22 rfl W2.heap.size 9 i0 (.string ⟨#[]⟩) 1 16 underlying22 hi hz0 hz1 hz2 rfl (by decide) _ _ _ rfl (hown.alloc _) ⟨wr.heap.size,0,none⟩ 1 1 [.string f] rfl rfl (jE wr _ 9) (fun u hu=>by simp at hu;subst hu;rfl) (by unfold maxLen;omega) (by omega) (by simp;omega) ?_)
      intro v' w3 hown' hgrow _
      have J4:=J3.out v' w3 hown' hgrow
      clear hown hown' hgrow J3
      go_wp2
      exact⟨⟨L.length+1,L++[f],by go_num,by simp,by omega,hx3,J4⟩,by simp[intOf];omega⟩
     ·have gA:(L.length:Int)+1≤n5:=by omega
      have gN:((L.length:Int)+1==nn)=false:=by simp;omega
      clear hn hA
      go_wp2_with (at_builtin;refine wpList_append_own _ rfl _ _ 22 rfl W2.heap.size 9 i0 (.string ⟨#[]⟩) 1 16 underlying22 hi hz0 hz1 hz2 rfl (by decide) _ _ _ rfl (hown.alloc _) ⟨wr.heap.size,0,none⟩ 1 1 [.string f'] rfl rfl (jE wr _ 9) (fun u hu=>by simp at hu;subst hu;rfl) (by unfold maxLen;omega) (by omega) (by simp;omega) ?_)
      intro v' w3 hown' hgrow _
      have J4:=J3.out v' w3 hown' hgrow
      clear hown hown' hgrow J3
      go_wp2
      exact⟨⟨L.length+1,L++[f'],by go_num,by simp,by omega,hx3,J4⟩,by simp[intOf];omega⟩
     ·have gA:¬ ((L.length:Int)+1≤n5):=by omega
      have gB:(L.length:Int)+1≤nn:=by omega
      have gN:((L.length:Int)+1==nn)=true:=by simp;omega
      clear hn hA
      go_wp2_with (at_builtin;refine wpList_append_own _ rfl _ _ 22 rfl W2.heap.size 9 i0 (.string ⟨#[]⟩) 1 16 underlying22 hi hz0 hz1 hz2 rfl (by decide) _ _ _ rfl (hown.alloc _) ⟨wr.heap.size,0,none⟩ 1 1 [.string f] rfl rfl (jE wr _ 9) (fun u hu=>by simp at hu;subst hu;rfl) (by unfold maxLen;omega) (by omega) (by simp;omega) ?_)
      intro v' w3 hown' hgrow _
      have J4:=J3.out v' w3 hown' hgrow
      clear hown hown' hgrow J3
      go_wp2
      exact⟨⟨L.length+1,L++[f],by go_num,by simp,by omega,hx3,J4⟩,by simp[intOf];omega⟩
     ·have gA:¬ ((L.length:Int)+1≤n5):=by omega
      have gB:(L.length:Int)+1≤nn:=by omega
      have gN:((L.length:Int)+1==nn)=false:=by simp;omega
      clear hn hA
      go_wp2_with (at_builtin;refine wpList_append_own _ rfl _ _ 22 rfl W2.heap.size 9 i0 (.string ⟨#[]⟩) 1 16 underlying22 hi hz0 hz1 hz2 rfl (by decide) _ _ _ rfl (hown.alloc _) ⟨wr.heap.size,0,none⟩ 1 1 [.string ⟨#[]⟩] rfl rfl (jE wr _ 9) (fun u hu=>by simp at hu;subst hu;rfl) (by unfold maxLen;omega) (by omega) (by simp;omega) ?_)
      intro v' w3 hown' hgrow _
      have J4:=J3.out v' w3 hown' hgrow
      clear hown hown' hgrow J3
      go_wp2
      exact⟨⟨L.length+1,L++[⟨#[]⟩],by go_num,by simp,by omega,hx3,J4⟩,by simp[intOf];omega⟩
    ·have gA:¬ ((L.length:Int)+1≤n5):=by omega
     have gB:¬ ((L.length:Int)+1≤nn):=by omega
     obtain⟨g,cap,ev,hcap,hg⟩:=fG J.own (by omega)
     subst ev
     have hlen:L.length≤1048577:=by omega
     have hlp:0<L.length:=by omega
     have own:=J.own
     have Cl2:Hid _:=(show ∀ k,k<L.length→∃ f:ByteArray,f.size≤1048576∧wr.cell? ⟨g,k,none⟩=some (.string f) from fun k hk=>⟨L[k],hx.out _ (List.getElem_mem hk),bV own (by rw[List.getElem?_map,Lge hk];rfl)⟩)
     have Fin2:Hid _:=fun (t:ByteArray) (ht:t.size≤1048576)=>Fin.out wr L _ J t ht hlen hx.out
     have Z:=HW.out wr J.fr
     have HZ:Hid _:=Z
     clear Z own hx J Cl Fin HW HP hgo hj hcap hg hsz
     generalize L.length=ln at *
     obtain⟨f0,hf0,hc0⟩:=Cl2.out 0 hlp
     go_wp2
     go_loop [11,12] (fun t i=>∃ (k:Nat) (u:ByteArray),1≤k∧k≤ln∧u.size≤k*1048577∧t=.string u∧i=.int .i64 k) (fun _ i=>ln-(intOf i).toNat)
     case atStart=>exact⟨1,f0,by omega,by omega,by omega,rfl,rfl⟩
     case round=>
      obtain⟨k,u,hk1,hk,hu,rfl,rfl⟩:=hrel
      have hu2:u.size≤1099513724929:=by omega
      by_cases hlt:k<ln
      ·have g4:(k:Int)<ln:=by omega
       obtain⟨f,hf,hc⟩:=Cl2.out k hlt
       go_wp2
       exact⟨⟨k+1,_,by omega,by omega,by rw[ByteArray.size_append,ByteArray.size_append,show (ByteArray.mk #[32]).size=1 from rfl];omega,rfl,by go_num⟩,by simp[intOf];omega⟩
      ·have g4:¬ ((k:Int)<ln):=by omega
       by_cases hb:u.size≤100
       ·have g5:(u.size:Int)≤100:=by omega
        have HF:Hid _:=Fin2.out u (by omega)
        go_wp2
        go_ret
        exact⟨⟨0,rfl,by decide,by decide⟩,HF.out⟩
       ·have g5:¬ ((u.size:Int)≤100):=by omega
        go_wp2
        go_ret
        exact⟨⟨6,rfl,by decide,by decide⟩,HZ.out⟩
theorem MB.arr {w0:World}{X:Nat}{m:Mo}{lv:Nat→Bool}{R R':Nat→Rw}{sz O:Nat→Nat}{C C':Nat→Nat→Value}{st:Int}{us:Nat} (B:MB w0 X m lv R sz O C st us) (a:Nat) (hC:∀ i j,i≠200+2*a→C' i j=C i j) (hR:∀ i,i≠201+2*a→R' i=R i)
  (hn:∃ n xs,R' (201+2*a)=⟨C' (200+2*a) 0,171,4,n,xs⟩∧vA n xs):MB w0 X m lv R' sz O C' st us:=by
 have e0:∀ j,C' 0 j=C 0 j:=fun j=>hC 0 j (by omega)
 have e1:∀ j,C' 1 j=C 1 j:=fun j=>hC 1 j (by omega)
 refine⟨B.x,?_,?_,?_,?_,fun j hj=>?_,?_,?_,?_,?_,?_,?_,?_,B.ah⟩
 ·rw[e0,e0,e0,e0,e0];exact B.md
 ·rw[e0];exact B.w
 ·rw[e0,hR 2 (by omega)];exact B.gl
 ·rw[e0,hR 3 (by omega)];exact B.ar
 ·by_cases e:j=a
  ·subst e
   exact⟨(B.ae j hj).1,(B.ae j hj).2.1,hn⟩
  ·rw[hC _ 0 (by omega),hR _ (by omega)];exact B.ae j hj
 ·rw[e1,e1,e1,e1];exact B.rd
 ·rw[e1,e1];exact B.rc
 ·rw[e1,hR 5 (by omega)];exact B.fd
 ·rw[e0];exact B.st
 ·rw[e0];exact B.cd
 ·rw[e0];exact B.us
 ·rw[e0];exact B.sk
theorem MS.arr {w0 W W':World}{X:Nat}{m:Mo}{tag tag':Nat→Nat}{lv:Nat→Bool}{R R':Nat→Rw}{sz O:Nat→Nat}{C C':Nat→Nat→Value}{K:Value→Prop}{st:Int}{us:Nat}{fs:List FrV}{kk:List (List UInt8)} (h:MS w0 W X m tag lv R sz O C K st us fs kk) (S:Sto w0 W' tag' lv R' sz O C' K) (a:Nat) (hC:∀ i j,i≠200+2*a→C' i j=C i j) (hR:∀ i,i≠201+2*a→R' i=R i)
  (hn:∃ n xs,R' (201+2*a)=⟨C' (200+2*a) 0,171,4,n,xs⟩∧vA n xs):MS w0 W' X m tag' lv R' sz O C' K st us fs kk:=by
 have hl:=h.ln.2
 refine⟨S,h.B.arr a hC hR hn,⟨h.fr.1,by rw[hR 4 (by omega),hC 0 8 (by omega)];exact h.fr.2⟩,h.ln,fun i x ks hi hk=>?_⟩
 have o:=h.each i x ks hi hk
 have:=(Lgs.1 hi).1
 exact⟨by rw[hR _ (by omega)];exact o.f,by rw[hR _ (by omega)];exact o.s⟩
def bDw (W:World) (o:Option Addr) (n:Nat):Prop:=∀ i,i<n→∃ (g:Nat) (k:ByteArray),o=some ⟨g,0,none⟩∧k.size≤1048576∧W.cell? ⟨g,i*4,none⟩=some (.string k)
structure ArI (E:Ev) (a:Nat) (W:World) (o:Option Addr) (n c:Nat):Prop where
 c:W.cell? ⟨E.O (200+2*a),0,none⟩=some (.slice o n c)
 z:W.frozen? ⟨E.O (200+2*a),0,none⟩=false
 le:n≤30
 k:bDw W o n
theorem MT.ar {E:Ev}{ks:List UInt8}{tag:Nat→Nat}{W:World} (h:MT E ks tag W) {a:Nat} (ha:(a:Int)<E.m.arrs):∃ o n c,E.C (200+2*a) 0=.slice o n c∧ArI E a W o n c:=by
 obtain⟨R,sv,h⟩:=h
 obtain⟨hz,hl,n,xs,hR,hE⟩:=h.B.ae a ha
 have own:=(h.S.row hl hR).own
 obtain⟨o,c,e⟩:=cN own
 rw[e] at own
 refine⟨o,n,c,e,by rw[h.S.oc (i:=200+2*a) (j:=0) (by omega),e],h.S.oz (i:=200+2*a) (j:=0) (by omega),hE.2.1,fun i hi=>?_⟩
 obtain⟨g,cap,eg,-,-⟩:=fG own (by omega)
 simp only[Value.slice.injEq,true_and] at eg
 obtain⟨rfl,rfl⟩:=eg
 obtain⟨k,d,m,s,hk,hs,h0,-⟩:=hE.2.2 i hi
 exact⟨g,k,rfl,hk,bV own h0⟩
def bHs (n:Nat) (e:Ending):Prop:=e=.returned (.int .i64 (-1))∨∃ i:Nat,i<n∧e=.returned (.int .i64 i)
theorem aCo (A:Nat)(k:ByteArray)(o:Option Addr)(n c:Nat)(W:World)(hA:W.cell? ⟨A,0,none⟩=some (.slice o n c))(hn:n≤30)(hk:bDw W o n):Calls prog 73 #[ptr A,.string k] W fun e W'=>bHs n e∧W'=W:=by
 have HK:Hid _:=hk
 clear hk
 go_enter func73,ntmps73
 go_wp2
 go_loop [5] (fun i=>∃ j:Nat,j≤n∧i=.int .i64 j) (fun i=>n-(intOf i).toNat)
 case atStart=>exact⟨0,by omega,rfl⟩
 case round=>
  obtain⟨j,hj,rfl⟩:=hrel
  by_cases hlt:j<n
  ·have g1:(j:Int)<n:=by omega
   obtain⟨g,k',rfl,-,hc⟩:=HK.out j hlt
   go_wp2
   ·go_ret
    exact⟨.inr ⟨j,hlt,rfl⟩,rfl⟩
   ·exact⟨⟨j+1,by omega,by go_num⟩,by simp[intOf];omega⟩
  ·have g1:¬ ((j:Int)<n):=by omega
   go_wp2
   go_ret
   exact⟨.inl rfl,rfl⟩
theorem aVf:(prog.info? 171).map (fun i=>(i.zero,i.size,i.bytes))=some (some (.agg #[.string ⟨#[]⟩,.int .i64 0,.int .i64 0,.string ⟨#[]⟩]),4,48):=by kernel_rfl
theorem vA.push {n:Nat}{xs:List Value} (h:vA n xs) (hn:n<30) {k s:ByteArray}{d m:Int} (hk:k.size≤1048576) (hs:SzN m s):vA (n+1) (xs++[.string k,.int .i64 d,.int .i64 m,.string s]):=by
 obtain⟨hl,h1,h2⟩:=h
 refine⟨by simp[hl,Nat.succ_mul],by omega,fun i hi=>?_⟩
 by_cases e:i<n
 ·obtain⟨k',d',m',s',a,b,c0,c1,c2,c3⟩:=h2 i e
  exact⟨k',d',m',s',a,b,by rw[List.getElem?_append_left (by omega)];exact c0,by rw[List.getElem?_append_left (by omega)];exact c1,by rw[List.getElem?_append_left (by omega)];exact c2,by rw[List.getElem?_append_left (by omega)];exact c3⟩
 ·obtain rfl:i=n:=by omega
  have e:∀ t,(xs++[.string k,.int .i64 d,.int .i64 m,.string s])[i*4+t]?=[.string k,.int .i64 d,.int .i64 m,.string s][t]?:=fun t=>by rw[List.getElem?_append_right (by omega),hl,Nat.add_sub_cancel_left]
  exact⟨k,d,m,s,hk,hs,e 0,e 1,e 2,e 3⟩
theorem vA.put {n:Nat}{xs:List Value} (h:vA n xs) {i:Nat} (hi:i<n) {s:ByteArray}{d m:Int} (hs:SzN m s):vA n (((xs.set (i*4+1) (.int .i64 d)).set (i*4+2) (.int .i64 m)).set (i*4+3) (.string s)):=by
 obtain⟨hl,h1,h2⟩:=h
 refine⟨by simp[hl],h1,fun j hj=>?_⟩
 obtain⟨k',d',m',s',a,b,c0,c1,c2,c3⟩:=h2 j hj
 by_cases e:j=i
 ·subst e
  refine⟨k',d,m,s,a,hs,?_,?_,?_,?_⟩
  ·rw[List.getElem?_set_ne (by omega),List.getElem?_set_ne (by omega),List.getElem?_set_ne (by omega)];exact c0
  ·rw[List.getElem?_set_ne (by omega),List.getElem?_set_ne (by omega),List.getElem?_set_self (by omega)]
  ·rw[List.getElem?_set_ne (by omega),List.getElem?_set_self (by rw[List.length_set];omega)]
  ·rw[List.getElem?_set_self (by rw[List.length_set,List.length_set];omega)]
 ·refine⟨k',d',m',s',a,b,?_,?_,?_,?_⟩
  ·rw[List.getElem?_set_ne (by omega),List.getElem?_set_ne (by omega),List.getElem?_set_ne (by omega)];exact c0
  ·rw[List.getElem?_set_ne (by omega),List.getElem?_set_ne (by omega),List.getElem?_set_ne (by omega)];exact c1
  ·rw[List.getElem?_set_ne (by omega),List.getElem?_set_ne (by omega),List.getElem?_set_ne (by omega)];exact c2
  ·rw[List.getElem?_set_ne (by omega),List.getElem?_set_ne (by omega),List.getElem?_set_ne (by omega)];exact c3
theorem bAn (E:Ev)(ks:List UInt8)(tag:Nat→Nat)(W:World)(h:MT E ks tag W)(a:Nat)(ha:(a:Int)<E.m.arrs)(k:ByteArray)(hk:k.size≤1048576)(d m:Int)(s:ByteArray)(hs:SzN m s):Calls prog 69 #[ptr (E.O (200+2*a)),.string k,vlV d m s] W (bDq E ks tag W):=by
 have hm:prog.follows Departure.mixedOrders=true:=by kernel_rfl
 obtain⟨i0,hi,hz0,hz1,hz2⟩:=info_parts aVf
 obtain⟨W1,hW1⟩:=eX (W.alloc (.cells #[.int .i64 d,.int .i64 m,.string s] 118))
 have F1:Fr [] W W1:=by rw[← hW1];exact (Fr.refl [] W).alloc _
 have k1:=wan W (.cells #[.int .i64 d,.int .i64 m,.string s] 118)
 rw[hW1] at k1
 have hl1:=(Age.1 k1).1
 have e1:∀ w,Fr [] W1 w→∀ t,w.cell? ⟨W.heap.size,t,none⟩=(#[.int .i64 d,.int .i64 m,.string s]:Array Value)[t]?:=fun w hw t=>(hw.cell (p:=⟨W.heap.size,t,none⟩) hl1 (by simp)).trans (by unfold World.cell?;rw[k1];rfl)
 obtain⟨o,n,c,eC,AI1⟩:=(h.frm F1).ar ha
 have HW:Hid _:=fun (_:Unit)=>aCo (E.O (200+2*a)) k o n c W1 AI1.c AI1.le AI1.k
 have c1:=AI1.c
 have hn:=AI1.le
 have wt:tag (E.O (200+2*a))=200+2*a∧E.O (200+2*a)<W.heap.size:=by
  obtain⟨R,sv,h⟩:=h
  have:=h.S.objs (200+2*a) (by have:=(h.B.ae a ha).1;omega)
  exact⟨this.2.2.1,this.2.1⟩
 have HZ:Hid _:=MW.of (h.mk F1)
 obtain⟨WD,hWD⟩:=eX (W1.drew)
 have FD:Fr [] W1 WD:=by rw[← hWD];exact (Fr.refl [] W1).drew
 obtain⟨R,sv,h2⟩:=h.frm (F1.trans FD)
 obtain⟨hz,hl,n',xs,hR,hE⟩:=h2.B.ae a ha
 have own:=(h2.S.row hl hR).own
 have hnn:n'=n:=by
  obtain⟨o',c',e'⟩:=cN own
  rw[eC] at e'
  simp only[Value.slice.injEq] at e'
  omega
 subst hnn
 rw[eC] at own
 have dA:WD.cell? ⟨E.O (200+2*a),0,none⟩=some (.slice o n' c):=by rw[← hWD];exact c1
 have dB:∀ t,WD.cell? ⟨W.heap.size,t,none⟩=(#[.int .i64 d,.int .i64 m,.string s]:Array Value)[t]?:=e1 WD FD
 have b0:=dB 0
 have b1:=dB 1
 have b2:=dB 2
 simp at b0 b1 b2
 have tD:aM tag W.heap.size 6 (E.O (200+2*a))=200+2*a:=by rw[aI wt.2,wt.1]
 clear AI1 k1
 go_enter func69,ntmps69
 go_wp2_with fail
 refine (HW.out ()).mono ?_
 rintro e W' ⟨hwp,hw⟩
 replace hw:=hw.symm
 subst hw
 rcases hwp with rfl | ⟨i,hin,rfl⟩
 ·by_cases hf:30≤n'
  ·have g1:(30:Int)≤n':=by omega
   clear h2 own dB e1 HW h
   go_wp2
   go_ret
   exact⟨⟨7,rfl,by decide,by decide⟩,HZ.out⟩
  ·have g1:¬ ((30:Int)≤n'):=by omega
   obtain⟨W3,hW3⟩:=eX (WD.alloc (.cells #[.string k,.int .i64 d,.int .i64 m,.string s] 171))
   have F3:Fr [] WD W3:=by rw[← hW3];exact (Fr.refl [] WD).alloc _
   have hnews:=oQ WD #[.string k,.int .i64 d,.int .i64 m,.string s] 171
   rw[hW3] at hnews
   have S3:=h2.S.frm F3
   have own3:=(S3.row hl hR).own
   rw[eC] at own3
   obtain⟨v',W4,hr4,hown',hgrow,-,hwh⟩:=run_append_own_at (P:=prog) W3 E.w0.heap.size 59 59 171 i0 _ 4 48 underlying59 hi hz0 hz1 hz2 rfl (by decide) _ _ _ own3 ⟨WD.heap.size,0,none⟩ 1 1 [.string k,.int .i64 d,.int .i64 m,.string s] rfl hnews (by intro u hu;simp at hu;rcases hu with rfl | rfl | rfl | rfl <;> rfl) (by unfold maxLen;omega) (by omega) (h2.S.fr.trans F3).size
   obtain⟨vo,vc,rfl⟩:=iF hown'
   have S4:=S3.grow (i:=201+2*a) hl hown' (by rw[hR];show W3.grownBy W4 (E.C (200+2*a) 0).ownBlock;rw[eC];exact hgrow) (by rw[hR];show _=(E.C (200+2*a) 0).ownBlock∨_;rw[eC];exact hwh)
   have S5:=S4.set (i:=200+2*a) (j:=0) (by omega) (.slice vo (n'+1) vc)
   have c5:=S4.oc (i:=200+2*a) (j:=0) (by omega)
   have z5:=S4.oz (i:=200+2*a) (j:=0) (by omega)
   rw[eC] at c5
   have MM:=h2.arr S5 a (fun i j hi=>bJ _ _ (by omega)) (fun i hi=>aJ _ _ hi) ⟨n'+1,_,by rw[bG,fS],hE.push (by omega) hk hs⟩
   have F03:Fr [] W W3:=(F1.trans FD).trans F3
   have t5:aM (aM tag W.heap.size 6) W3.heap.size (201+2*a) (E.O (200+2*a))≠6:=by rw[aI (Nll wt.2 F03.size),tD];omega
   have kp3:Kp tag (aM (aM tag W.heap.size 6) W3.heap.size (201+2*a)) W W3:=Kp.of_fr F03 (fun k hk=>by rw[aI (Nll hk F03.size),aI hk])
   have rowA:=h2.S.row hl hR
   have kp4:Kp tag (aM (aM tag W.heap.size 6) W3.heap.size (201+2*a)) W W4:=⟨Nat.le_trans kp3.size hgrow.size,kp3.ret,fun k hk ht=>(hgrow.block k (Nll hk kp3.size) (fun e=>by
    have:=rowA.tg k (by rw[eC];exact e.symm)
    rw[aI hk] at this
    omega)).trans (kp3.blk k hk ht)⟩
   have Z:MW E ks tag W (W4.setCell ⟨E.O (200+2*a),0,none⟩ (.slice vo (n'+1) vc)):=⟨upC E.C (200+2*a) 0 (.slice vo (n'+1) vc),fun j=>bJ _ _ (by omega),_,⟨_,sv,MM⟩,kp4.trans (Kp.set t5)⟩
   replace HZ:Hid _:=Z
   have Hr4:Hid _:=hr4
   have p3:W3.cell? ⟨E.O (200+2*a),0,none⟩=some (.slice o n' c):=(F3.cell (p:=⟨E.O (200+2*a),0,none⟩) (Nll wt.2 (F1.trans FD).size) (by simp)).trans dA
   clear h h2 MM S3 S4 S5 Z own own3 kp3 kp4 rowA hgrow hwh hown' hr4 hnews F03 t5 tD wt dB e1 HW hE hR F1 FD F3 eC
   generalize E.O (200+2*a)=A at *
   go_wp2
   refine aE (fun _=>True) hm ?_
   rw[hWD]
   have hS:(fun _:World=>True) WD:=trivial
   refine aH (fun _ _ _ _ _ h=>h) hS [0,1,2,3,5] (by kernel_rfl) ?_
   iterate 5
    refine Yls.cons (v:=?_) rfl (.inl ⟨rfl,fun w1 hS1=>?_⟩) ?_
    rotate_left
    ·have q1:=hS1
     go_simp
     first | rfl | (refine (if_neg (by omega)).trans ?_;rfl)
    simp only[Act.put,Z1,Z2,Z3,Z4,Z5,Z6]
   refine Yls.nil ?_
   refine wpAnyH_ready (rs:=[4,6]) (by kernel_rfl) (by simp) ?_
   refine (AllReadyH.cons rfl (fun K hK=>?_) (AllReadyH.cons rfl (fun K hK=>?_) AllReadyH.nil))
   ·go_simp
    refine hK _ _ trivial ?_
    clear hK K
    intro _
    try simp only[Act.put,Z1,Z2,Z3,Z4,Z5,Z6]
    refine rd1 (r:=6) (by kernel_rfl) rfl fun K hK=>?_
    go_simp
    refine hK _ _ trivial ?_
    clear hK K
    intro _
    try simp only[Act.put,Z1,Z2,Z3,Z4,Z5,Z6]
    refine wpAnyH_take (i:=7) (v:=?_) rfl (by kernel_rfl) (by kernel_rfl) (by kernel_rfl) (fun _ _ _ h=>h) (.inl ⟨rfl,fun w1 hS1=>?_⟩) hS ?_
    rotate_left
    ·have q1:=hS1
     go_simp
     first | rfl | (refine (if_neg (by omega)).trans ?_;rfl)
    simp only[Act.put,Z1,Z2,Z3,Z4,Z5,Z6]
    refine rd1 (r:=8) (by kernel_rfl) rfl fun K hK=>?_
    go_simp
    refine hK _ _ trivial ?_
    clear hK K
    intro _
    try simp only[Act.put,Z1,Z2,Z3,Z4,Z5,Z6]
    refine rd1 (r:=9) (by kernel_rfl) rfl fun K hK=>?_
    refine cF (.tmp 31) (.tmp 35) 59 rfl _ _ _ rfl rfl Hr4.out ?_
    refine hK _ _ trivial ?_
    clear hK K
    intro _
    try simp only[Act.put,Z1,Z2,Z3,Z4,Z5,Z6]
    refine aH (fun _ _ _ _ _ h=>h) hS [10,11] (by kernel_rfl) ?_
    iterate 2
     refine Yls.cons (v:=?_) rfl (.inl ⟨rfl,fun w1 hS1=>?_⟩) ?_
     rotate_left
     ·have q1:=hS1
      go_simp
      first | rfl | (refine (if_neg (by omega)).trans ?_;rfl)
     simp only[Act.put,Z1,Z2,Z3,Z4,Z5,Z6]
    refine Yls.nil ?_
    refine rd1 (r:=12) (by kernel_rfl) rfl fun K hK=>?_
    go_simp
    refine hK _ _ trivial ?_
    clear hK K
    intro _
    try simp only[Act.put,Z1,Z2,Z3,Z4,Z5,Z6]
    refine wpAnyH_done (by kernel_rfl) ?_ _
    go_wp2
    go_ret
    exact⟨⟨0,rfl,by decide,by decide⟩,HZ.out⟩
   ·go_simp
    refine hK _ _ trivial ?_
    clear hK K
    intro _
    try simp only[Act.put,Z1,Z2,Z3,Z4,Z5,Z6]
    refine wpAnyH_take (i:=7) (v:=?_) rfl (by kernel_rfl) (by kernel_rfl) (by kernel_rfl) (fun _ _ _ h=>h) (.inl ⟨rfl,fun w1 hS1=>?_⟩) hS ?_
    rotate_left
    ·have q1:=hS1
     go_simp
     first | rfl | (refine (if_neg (by omega)).trans ?_;rfl)
    simp only[Act.put,Z1,Z2,Z3,Z4,Z5,Z6]
    refine wpAnyH_ready (rs:=[4,8]) (by kernel_rfl) (by simp) ?_
    refine (AllReadyH.cons rfl (fun K hK=>?_) (AllReadyH.cons rfl (fun K hK=>?_) AllReadyH.nil))
    ·go_simp
     refine hK _ _ trivial ?_
     clear hK K
     intro _
     try simp only[Act.put,Z1,Z2,Z3,Z4,Z5,Z6]
     refine rd1 (r:=8) (by kernel_rfl) rfl fun K hK=>?_
     go_simp
     refine hK _ _ trivial ?_
     clear hK K
     intro _
     try simp only[Act.put,Z1,Z2,Z3,Z4,Z5,Z6]
     refine rd1 (r:=9) (by kernel_rfl) rfl fun K hK=>?_
     refine cF (.tmp 31) (.tmp 35) 59 rfl _ _ _ rfl rfl Hr4.out ?_
     refine hK _ _ trivial ?_
     clear hK K
     intro _
     try simp only[Act.put,Z1,Z2,Z3,Z4,Z5,Z6]
     refine aH (fun _ _ _ _ _ h=>h) hS [10,11] (by kernel_rfl) ?_
     iterate 2
      refine Yls.cons (v:=?_) rfl (.inl ⟨rfl,fun w1 hS1=>?_⟩) ?_
      rotate_left
      ·have q1:=hS1
       go_simp
       first | rfl | (refine (if_neg (by omega)).trans ?_;rfl)
      simp only[Act.put,Z1,Z2,Z3,Z4,Z5,Z6]
     refine Yls.nil ?_
     refine rd1 (r:=12) (by kernel_rfl) rfl fun K hK=>?_
     go_simp
     refine hK _ _ trivial ?_
     clear hK K
     intro _
     try simp only[Act.put,Z1,Z2,Z3,Z4,Z5,Z6]
     refine wpAnyH_done (by kernel_rfl) ?_ _
     go_wp2
     go_ret
     exact⟨⟨0,rfl,by decide,by decide⟩,HZ.out⟩
    ·go_simp
     refine hK _ _ trivial ?_
     clear hK K
     intro _
     try simp only[Act.put,Z1,Z2,Z3,Z4,Z5,Z6]
     refine rd1 (r:=4) (by kernel_rfl) rfl fun K hK=>?_
     go_simp
     refine hK _ _ trivial ?_
     clear hK K
     intro _
     try simp only[Act.put,Z1,Z2,Z3,Z4,Z5,Z6]
     refine rd1 (r:=9) (by kernel_rfl) rfl fun K hK=>?_
     refine cF (.tmp 31) (.tmp 35) 59 rfl _ _ _ rfl rfl Hr4.out ?_
     refine hK _ _ trivial ?_
     clear hK K
     intro _
     try simp only[Act.put,Z1,Z2,Z3,Z4,Z5,Z6]
     refine aH (fun _ _ _ _ _ h=>h) hS [10,11] (by kernel_rfl) ?_
     iterate 2
      refine Yls.cons (v:=?_) rfl (.inl ⟨rfl,fun w1 hS1=>?_⟩) ?_
      rotate_left
      ·have q1:=hS1
       go_simp
       first | rfl | (refine (if_neg (by omega)).trans ?_;rfl)
      simp only[Act.put,Z1,Z2,Z3,Z4,Z5,Z6]
     refine Yls.nil ?_
     refine rd1 (r:=12) (by kernel_rfl) rfl fun K hK=>?_
     go_simp
     refine hK _ _ trivial ?_
     clear hK K
     intro _
     try simp only[Act.put,Z1,Z2,Z3,Z4,Z5,Z6]
     refine wpAnyH_done (by kernel_rfl) ?_ _
     go_wp2
     go_ret
     exact⟨⟨0,rfl,by decide,by decide⟩,HZ.out⟩
 ·obtain⟨g,cap,eg,hcap,hg⟩:=fG own (by omega)
  simp only[Value.slice.injEq,true_and] at eg
  obtain⟨rfl,rfl⟩:=eg
  have hR':=hR
  rw[eC] at hR'
  obtain⟨k',d',m',s',-,-,x0,x1,x2,x3⟩:=hE.2.2 i hin
  have q1:=bV own x1
  have q2:=bV own x2
  have q3:=bV own x3
  have y1:=pB own (i*4+1)
  have y2:=pB own (i*4+2)
  have y3:=pB own (i*4+3)
  have S1:=h2.S.put (i:=201+2*a) hl hR' (j:=i*4+1) (by omega) (.int .i64 d)
  have S2:=S1.put (i:=201+2*a) hl (bG _ _ _) (j:=i*4+2) (by omega) (.int .i64 m)
  have S3:=S2.put (i:=201+2*a) hl (bG _ _ _) (j:=i*4+3) (by omega) (.string s)
  have MM:=h2.arr S3 a (fun _ _ _=>rfl) (fun i hi=>by rw[aJ _ _ hi,aJ _ _ hi,aJ _ _ hi]) ⟨n',_,by rw[bG,eC],hE.put hin hs⟩
  have tg:aM tag W.heap.size 6 g≠6:=by
   have:=(h2.S.row hl hR').tg g rfl
   omega
  have Z:MW E ks tag W (((WD.setCell ⟨g,i*4+1,none⟩ (.int .i64 d)).setCell ⟨g,i*4+2,none⟩ (.int .i64 m)).setCell ⟨g,i*4+3,none⟩ (.string s)):=⟨E.C,fun _=>rfl,_,⟨_,sv,MM⟩,((((Kp.refl tag W).frm (F1.trans FD)).trans (Kp.set tg)).trans (Kp.set tg)).trans (Kp.set tg)⟩
  replace HZ:Hid _:=Z
  have g1:(i:Int)<n':=by omega
  clear h h2 MM S1 S2 S3 Z own tg tD wt dB e1 HW hE hR hR' F1 FD eC x0 x1 x2 x3 hg
  generalize E.O (200+2*a)=A at *
  go_wp2
  go_region
  go_wp2
  go_ret
  exact⟨⟨0,rfl,by decide,by decide⟩,HZ.out⟩
def bIi (E:Ev) (ks:List UInt8) (tag:Nat→Nat) (W:World) (e:Ending) (W':World):Prop:=(∃ (d n:Int) (s:ByteArray) (st:Int),e=.returned (.tuple #[vlV d n s,.int .i64 st])∧SzN n s∧0≤st∧st≤9)∧MW E ks tag W W'
theorem MW.w6 {E:Ev}{ks:List UInt8}{tag:Nat→Nat}{W W1 W2 W3:World} (f1:Fr [] W W1) (h:MW E ks (aM tag W.heap.size 6) W1 W2) {g:Nat} (hg:W.heap.size≤g) (hg1:g<W1.heap.size) (f3:Fr [g] W2 W3):MW E ks tag W W3:=by
 obtain⟨C',hC,tag',hM,kp⟩:=h
 refine⟨C',hC,tag',hM.w6 (g:=g) (by rw[kp.ret g hg1];exact cX hg) f3,?_⟩
 exact (((Kp.refl tag W).frm f1).trans kp).w6 f3 hg
theorem bDj (E:Ev)(ks:List UInt8)(tag:Nat→Nat)(W:World)(h:MT E ks tag W)(a:Nat)(ha:(a:Int)<E.m.arrs)(k:ByteArray)(hk:k.size≤1048576):Calls prog 72 #[ptr (E.O (200+2*a)),.string k] W (bIi E ks tag W):=by
 obtain⟨W1,hW1⟩:=eX (W.alloc (.cells #[.int .i64 0,.int .i64 0,.string ⟨#[]⟩] 118))
 have F1:Fr [] W W1:=by rw[← hW1];exact (Fr.refl [] W).alloc _
 have k1:=wan W (.cells #[.int .i64 0,.int .i64 0,.string ⟨#[]⟩] 118)
 rw[hW1] at k1
 have hl1:=(Age.1 k1).1
 have T1:=h.frm F1
 obtain⟨o,n,c,eC,AI1⟩:=T1.ar ha
 have HW:Hid _:=fun (_:Unit)=>aCo (E.O (200+2*a)) k o n c W1 AI1.c AI1.le AI1.k
 have HS:Hid _:=fun (_:Unit)=>bAn E ks _ W1 T1 a ha k hk 0 0 ⟨#[]⟩ ⟨by decide,by decide,by decide⟩
 have c1:=AI1.c
 have hn:=AI1.le
 obtain⟨R,sv,h2⟩:=id T1
 obtain⟨hz,hl,n',xs,hR,hE⟩:=h2.B.ae a ha
 have own:=(h2.S.row hl hR).own
 have hnn:n'=n:=by
  obtain⟨o',c',e'⟩:=cN own
  rw[eC] at e'
  simp only[Value.slice.injEq] at e'
  omega
 subst hnn
 rw[eC] at own
 have Fin:Hid _:=fun (d n:Int) (s:ByteArray)=>bEj W W1 (by rw[hW1];exact Fr.refl _ _) d n s
 have HM:Hid _:=fun (W2:World) (f:Fr [] W W2)=>h.mk f
 have HF:Hid _:=AI F1 (AI k1 hl1)
 clear h T1 h2 AI1 k1 hl1 hR eC F1
 go_enter func72,ntmps72
 go_wp2_with fail
 refine (HW.out ()).mono ?_
 rintro e W' ⟨hwp,hw⟩
 replace hw:=hw.symm
 subst hw
 rcases hwp with rfl | ⟨i,hin,rfl⟩
 ·clear own hE Fin HW
  go_wp2_with fail
  refine (HS.out ()).mono ?_
  rintro e W2 ⟨⟨st,rfl,hs0,hs1⟩,Z⟩
  obtain⟨F1,k1,hl1⟩:=HF.out
  have kA:W2.heap[W.heap.size]?=some (.cells #[.int .i64 0,.int .i64 0,.string ⟨#[]⟩] 118):=by
   obtain⟨C',hC,tag',hM,kp⟩:=Z
   exact (kp.blk _ hl1 (cX (Nat.le_refl _))).trans k1
  have eA:∀ t,W2.cell? ⟨W.heap.size,t,none⟩=(#[.int .i64 0,.int .i64 0,.string ⟨#[]⟩]:Array Value)[t]?:=fun t=>by unfold World.cell?;rw[kA];rfl
  have zA:∀ t,W2.frozen? ⟨W.heap.size,t,none⟩=false:=fun t=>by unfold World.frozen?;rw[kA];simp
  have a0:=eA 0
  have a1:=eA 1
  have a2:=eA 2
  simp at a0 a1 a2
  have z0:=zA 0
  have z1:=zA 1
  have z2:=zA 2
  have PC:=rI W.heap.size 0 [.int .i64 0,.int .i64 0,.string ⟨#[]⟩] W2 (fun t ht=>⟨_,by rw[Nat.zero_add,eA];exact Array.getElem?_eq_getElem (by simpa using ht)⟩)
  have q0:=PC 0 _ rfl
  have q1:=PC 1 _ rfl
  have q2:=PC 2 _ rfl
  have Y:Hid _:=MW.w6 F1 Z (Nat.le_refl _) hl1 (uK W.heap.size 0 [.int .i64 0,.int .i64 0,.string ⟨#[]⟩] W2)
  simp only[oA,Nat.zero_add] at q0 q1 q2 Y
  clear eA zA PC kA Z F1 k1 hl1 HF HM HS
  go_wp2
  refine bodyPost_ret (v:=.tuple #[vlV 0 0 ⟨#[]⟩,.int .i64 st]) (by simp[results,results72,go_sem,q0,q1,q2]) rfl ?_
  exact⟨⟨0,0,⟨#[]⟩,st,rfl,⟨by decide,by decide,by decide⟩,hs0,hs1⟩,Y.out⟩
 ·obtain⟨g,cap,eg,hcap,hg⟩:=fG own (by omega)
  simp only[Value.slice.injEq,true_and] at eg
  obtain⟨rfl,rfl⟩:=eg
  obtain⟨k',d',m',s',-,hsz,x0,x1,x2,x3⟩:=hE.2.2 i hin
  have r1:=bV own x1
  have r2:=bV own x2
  have r3:=bV own x3
  obtain⟨a',z,f,cc⟩:=Fin.out d' m' s'
  have a0:=a' 0
  have a1:=a' 1
  have a2:=a' 2
  simp at a0 a1 a2
  have z0:=z 0
  have z1:=z 1
  have z2:=z 2
  have q0:=cc 0 _ rfl
  have q1:=cc 1 _ rfl
  have q2:=cc 2 _ rfl
  have Y:Hid _:=MW.of (HM.out _ f)
  simp only[oA,Nat.zero_add] at q0 q1 q2 Y
  have g1:(i:Int)<n':=by omega
  clear a' z cc Fin HF HM HS HW own hE x0 x1 x2 x3 f
  go_wp2
  refine bodyPost_ret (v:=.tuple #[vlV d' m' s',.int .i64 0]) (by simp[results,results72,go_sem,q0,q1,q2]) rfl ?_
  exact⟨⟨d',m',s',0,rfl,hsz,by decide,by decide⟩,Y.out⟩
def bIj (W:World) (e:Ending) (W':World):Prop:=∃ (v:Value) (L:List ByteArray),e=.returned v∧OwS W L v W'∧L.length≤30∧∀ x ∈ L,x.size≤1048576
theorem bFe (A:Nat)(o:Option Addr)(n c:Nat)(W:World)(hA:W.cell? ⟨A,0,none⟩=some (.slice o n c))(hn:n≤30)(hk:bDw W o n):Calls prog 70 #[ptr A] W (bIj W):=by
 obtain⟨i0,hi,hz0,hz1,hz2⟩:=info_parts Q7
 have HK:Hid _:=hk
 have HA:Hid _:=hA
 clear hk hA
 go_enter func70,ntmps70
 go_wp2
 go_loopw [3,4] (fun l i wr=>∃ (L:List ByteArray),i=.int .i64 (L.length:Int)∧L.length≤n∧Hid (∀ x ∈ L,x.size≤1048576)∧OwS W L l wr) (fun _ i _=>n-(intOf i).toNat)
 case atStart=>exact⟨[],rfl,by simp,(by intro x hx;cases hx),OwS.start W⟩
 case round=>
  obtain⟨L,rfl,hL,hx,J⟩:=hrel
  have hA:=HA.out
  replace hA:=(J.fr.cell (p:=⟨A,0,none⟩) (aC hA) (by simp)).trans hA
  by_cases hlt:L.length<n
  ·have g1:(L.length:Int)<n:=by omega
   obtain⟨g,k,rfl,hks,hc⟩:=HK.out L.length hlt
   replace hc:=(J.fr.cell (p:=⟨g,L.length*4,none⟩) (aC hc) (by simp)).trans hc
   have hown:=J.own
   have hsz:=J.fr.size
   go_wp2_with (at_builtin;refine wpList_append_own _ rfl _ _ 22 rfl W.heap.size 9 i0 (.string ⟨#[]⟩) 1 16 underlying22 hi hz0 hz1 hz2 rfl (by decide) _ _ _ rfl (hown.alloc _) ⟨wr.heap.size,0,none⟩ 1 1 [.string k] rfl rfl (jE wr _ 9) (fun u hu=>by simp at hu;subst hu;rfl) (by unfold maxLen;omega) (by omega) (by simp;omega) ?_)
   intro v' w3 hown' hgrow _
   have J3:=J.grown hown' hgrow
   have hx3:Hid (∀ x ∈ L++[k],x.size≤1048576):=by
    intro x hm
    rcases List.mem_append.1 hm with h | h
    ·exact hx.out x h
    ·simp at h
     subst h
     exact hks
   clear hown hown' hgrow J hx HK HA
   go_wp2
   exact⟨⟨L++[k],by rw[Lla];go_num,by simp;omega,hx3,J3⟩,by simp[intOf];omega⟩
  ·have g1:¬ ((L.length:Int)<n):=by omega
   go_wp2
   go_ret
   exact⟨_,L,rfl,J,by omega,hx.out⟩
end Go.Proofs.YtgpamchpeamnfaaGreatDoor
