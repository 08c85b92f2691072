/-
  Texts De Df Dg.
-/
import Derived.Test.YtgpamchpeamnfaaGreatDoorMA
import Derived.Test.YtgpamchpeamnfaaGreatDoorM00
import Derived.Test.YtgpamchpeamnfaaGreatDoorM36
import Derived.Test.YtgpamchpeamnfaaGreatDoorM28
set_option linter.unusedSimpArgs false
set_option linter.unusedVariables false
set_option maxRecDepth 100000
set_option maxHeartbeats 40000000
open _root_.Go.Proofs.Tryz
namespace Go.Proofs.YtgpamchpeamnfaaGreatDoor
open Go.RowKit
open Wire Flow Mach
theorem RJ.sub {w0 W:World}{S:Nat}{rs rs':List Nat}{os os':List (Nat × Value × Value)} (h:RJ w0 W S rs os) (hr:∀ b ∈ rs',b ∈ rs) (ho:∀ x ∈ os',x ∈ os):RJ w0 W S rs' os':=⟨h.fr,fun b hb=>h.r b (hr b hb),fun x hx=>h.o x (ho x hx)⟩
def Top (c:Nat→fM) (k:Nat):Prop:=(c k).st≤1∧(c k).op=0
theorem Top.no {t:ByteArray}{c:Nat→fM}{k:Nat} (h:X9 t c) (hk:k<t.size) (ht:Top c k):aO t k≠41:=fun e=>by
 have v:=((h.v hk).o ht.1).2.1 e
 have:=ht.2
 omega
theorem Top.sp {t:ByteArray}{c:Nat→fM}{i j:Nat} (ht:Top c i) (s:Sp t c i j):Top c j:=by
 exact⟨s.st.1,s.st.2.trans ht.2⟩
theorem Top.byte {t:ByteArray}{c:Nat→fM}{k:Nat} (h:X9 t c) (hk:k<t.size) (ht:Top c k) (h1:aO t k≠40) (h3:aO t k≠91) (h4:aO t k≠92):Top c (k+1):=by
 have v:=((h.v hk).o ht.1).2.2.2.2 h1 (ht.no h hk) h3 h4
 exact⟨v.1,v.2.trans ht.2⟩
def RwI (w:World) (N S b c:Nat) (W:World):Prop:=w.heap.size<b∧w.heap.size<c∧b≠c∧RJ w W S [b] [(c,.int .i64 N,.slice (some ⟨b,0,none⟩) S S),(w.heap.size,.int .i64 0,.slice none 0 0)]
def RwJ (w:World) (N S b c ba ca:Nat) (W:World):Prop:=(w.heap.size<ca∧ca≠c∧ca≠b∧ca≠ba)∧RwI w N S b c W∧BoS W ba S∧aFd W ca (.int .i64 N) (.slice (some ⟨ba,0,none⟩) S S)
section
variable {w W W' : World} {N S b c ba ca b' : Nat}
theorem RwI.call (h:RwI w N S b c W)(h0:0<S)(hf:Fr [] W W'):RwI w N S b c W':=⟨h.1,h.2.1,h.2.2.1,h.2.2.2.call h0 hf⟩
theorem RwJ.call (h:RwJ w N S b c ba ca W)(h0:0<S)(hf:Fr [] W W'):RwJ w N S b c ba ca W':=⟨h.1,h.2.1.call h0 hf,h.2.2.1.fr h0 hf (by simp),h.2.2.2.fr hf (by simp)⟩
theorem RwI.own (h:RwI w N S b c W):aFd W c (.int .i64 N) (.slice (some ⟨b,0,none⟩) S S):=h.2.2.2.o _ (List.mem_cons_self ..)
theorem RwI.rel (h:RwI w N S b c W):BoS W b S:=h.2.2.2.r b (by simp)
theorem RwI.start {w1:World}(h0:0<S)(hb:w.heap.size+1≤b)(hr:BoS w1 b S)(f1:Fr [] (w.alloc (.cells #[.int .i64 0,.slice none 0 0] 210)) w1):RwI w N S b w1.heap.size (w1.alloc (.cells #[.int .i64 N,.slice (some ⟨b,0,none⟩) S S] 210)):=by
 have hl:=hr.lt h0
 exact⟨by omega,by omega,by omega,((((RJ.init w (rs:=[]) (S:=S) (by simp)).new h0 (.int .i64 0) (.slice none 0 0)).call h0 f1).add hr).new h0 (.int .i64 N) (.slice (some ⟨b,0,none⟩) S S)⟩
theorem RwJ.start (h0:0<S)(h:RwI w N S b c W)(hr:BoS W ba S):RwJ w N S b c ba W.heap.size (W.alloc (.cells #[.int .i64 N,.slice (some ⟨ba,0,none⟩) S S] 210)):=by
 have h1:=h.rel.lt h0
 have h2:=h.own.lt
 have h3:=hr.lt h0
 have h4:=(h.2.2.2.o (w.heap.size,.int .i64 0,.slice none 0 0) (by simp)).lt
 have:=(h.2.2.2.new h0 (.int .i64 N) (.slice (some ⟨ba,0,none⟩) S S)).o _ (List.mem_cons_self ..)
 have f2:=(Fr.refl [] W).alloc (.cells #[.int .i64 N,.slice (some ⟨ba,0,none⟩) S S] 210)
 exact⟨⟨h4,by omega,by omega,by omega⟩,h.call h0 f2,hr.fr h0 f2 (by simp),this⟩
theorem RwJ.setA (h0:0<S)(h:RwJ w N S b c ba ca W)(hr:BoS W b' S)(hne:ca≠b'):RwJ w N S b c b' ca ((W.setCell ⟨ca,0,none⟩ (.int .i64 N)).setCell ⟨ca,1,none⟩ (.slice (some ⟨b',0,none⟩) S S)):=by
 obtain⟨⟨k1,k2,k3,k4⟩,⟨q1,q2,q3,J⟩,hb,ho⟩:=h
 obtain⟨x1,x2,x3,x4,ff⟩:=rG ho (.int .i64 N) (.slice (some ⟨b',0,none⟩) S S)
 refine⟨⟨k1,k2,k3,hne⟩,⟨q1,q2,q3,J.fr.trans' ff (by simp;omega),fun g hg=>(J.r g hg).fr h0 ff (by simp at hg ⊢;omega),fun y hy=>(J.o y hy).fr ff ?_⟩,hr.fr h0 ff (by simp;omega),⟨x3,x4,(wfz _ _ _ _).trans ((wfz _ _ _ _).trans ho.z0),(wfz _ _ _ _).trans x2⟩⟩
 simp at hy ⊢
 rcases hy with rfl | rfl <;> simp <;> omega
theorem RwI.setR (h0:0<S)(h:RwI w N S b c W)(hr:BoS W b' S)(hb:w.heap.size<b')(hne:b'≠c):RwI w N S b' c ((W.setCell ⟨c,0,none⟩ (.int .i64 N)).setCell ⟨c,1,none⟩ (.slice (some ⟨b',0,none⟩) S S)):=by
 obtain⟨q1,q2,q3,J⟩:=h
 exact⟨hb,q2,hne,(((J.add hr).sub (rs':=[b']) (os':=[(c,.int .i64 N,.slice (some ⟨b,0,none⟩) S S),(w.heap.size,.int .i64 0,.slice none 0 0)]) (by simp) (by simp)).set2 h0 (by omega) (by simp;omega) (by simpa using hne) _ _)⟩
theorem RwI.fin (h0:0<S)(J:RwI w N S b c W):(W.cell? ⟨w.heap.size,0,none⟩=some (.int .i64 0)∧W.cell? ⟨w.heap.size,1,none⟩=some (.slice none 0 0)∧W.frozen? ⟨w.heap.size,0,none⟩=false∧W.frozen? ⟨w.heap.size,1,none⟩=false)∧(W.setCell ⟨w.heap.size,0,none⟩ (.int .i64 N)).cell? ⟨w.heap.size,1,none⟩=some (.slice none 0 0)∧(W.setCell ⟨w.heap.size,0,none⟩ (.int .i64 N)).frozen? ⟨w.heap.size,1,none⟩=false∧((W.setCell ⟨w.heap.size,0,none⟩ (.int .i64 N)).setCell ⟨w.heap.size,1,none⟩ (.slice (some ⟨b,0,none⟩) S S)).cell? ⟨w.heap.size,0,none⟩=some (.int .i64 N)∧((W.setCell ⟨w.heap.size,0,none⟩ (.int .i64 N)).setCell ⟨w.heap.size,1,none⟩ (.slice (some ⟨b,0,none⟩) S S)).cell? ⟨w.heap.size,1,none⟩=some (.slice (some ⟨b,0,none⟩) S S)∧Hid (aAr N S w (.returned (rlV N b S)) ((W.setCell ⟨w.heap.size,0,none⟩ (.int .i64 N)).setCell ⟨w.heap.size,1,none⟩ (.slice (some ⟨b,0,none⟩) S S))):=by
 obtain⟨h1,h2,h3,J⟩:=J
 have or:=J.o (w.heap.size,.int .i64 0,.slice none 0 0) (by simp)
 obtain⟨x1,x2,x3,x4,ff⟩:=rG or (.int .i64 N) (.slice (some ⟨b,0,none⟩) S S)
 exact⟨⟨or.c0,or.c1,or.z0,or.z1⟩,x1,x2,x3,x4,b,by omega,rfl,(J.r b (by simp)).fr h0 ff (by simp;omega),J.fr.trans' ff (by simp)⟩
end
def bGb (n:Nat):Prop:=∀ (t x:ByteArray) (S:Nat),t.size≤n→t.size≤50→x.size≤1048576→(x.size+1)*(x.size+1)=S→nU t→∀ w,Calls prog 162 #[.string t,.string x] w (aAr x.size S w)
theorem bEq (n:Nat)(hC:aZv n):bGb n:=by
 intro t x S hn ht hx eS hP w
 have hm:prog.follows Departure.mixedOrders=true:=by kernel_rfl
 have hS0:=(iX eS hx).1
 obtain⟨p,hp⟩:=hP
 have Hsa:Hid _:=aTp x.size S eS hx
 have Hof:Hid _:=fun (ba:Nat) (W:World) (ha:BoS W ba S)=>aXx x.size S ba eS hx W ha
 have Hbe:Hid _:=fun (ba bb:Nat) (W:World) (ha:BoS W ba S) (hb:BoS W bb S)=>aWn x.size S ba bb eS hx W ha hb
 have Hei:Hid _:=fun (ba bb:Nat) (W:World) (ha:BoS W ba S) (hb:BoS W bb S)=>T7 x.size S ba bb eS hx W ha hb
 have Hat:Hid _:=fun (k e:Nat) (W:World) (hk:Top p k) (s:Sp t p k e)=>bDf n hC (t.extract k e) x S (by rw[ByteArray.size_extract];omega) (by rw[ByteArray.size_extract];omega) hx eS (s.atm hp hk.1) W
 have Hpa:Hid _:=fun (k:Nat) (W:World) (hk:k<t.size) (h:Top p k)=>aKx t p hp ht _ k (Nat.le_refl _) hk h.1 (h.no hp hk) W
 have HM:Hid _:=fun (k:Nat) (hk:k<t.size) (h:Top p k)=>h.byte hp hk
 have T0:Hid (Top p 0):=hp.b
 clear eS hC hp
 go_enter func162,ntmps162
 go_wp2_with fail
 refine (Hsa.out _).mono ?_
 rintro e w1 ⟨b,hb,rfl,hr,f1⟩
 rw[World.size_alloc] at hb
 have J0:=RwI.start (N:=x.size) hS0 hb hr f1
 clear hr f1
 generalize hw2:w1.alloc (.cells #[.int .i64 x.size,.slice (some ⟨b,0,none⟩) S S] 210)=w2 at J0
 generalize hc:w1.heap.size=c at J0
 go_wp2
 clear hw2 hc hb
 go_loopw [6] (fun v wr=>∃ (k b:Nat),k≤t.size∧v=.int .i64 k∧RwI w x.size S b c wr∧Hid (Top p k)) (fun v _=>t.size-(intOf v).toNat)
 case atStart=>exact⟨0,b,by omega,rfl,J0,T0⟩
 case round=>
  clear J0 T0
  obtain⟨k,b,hk,rfl,J,hT⟩:=hrel
  by_cases hlt:k<t.size
  ·have g1:(k:Int)<t.size:=by omega
   have hp:=Hpa.out k wr hlt hT.out
   clear Hpa
   go_wp2_with fail
   refine hp.mono ?_
   rintro e w3 ⟨⟨j0,rfl,sp⟩,hw3⟩
   replace hw3:=hw3.symm
   subst hw3
   have ha:=Hat.out k j0 wr hT.out sp
   have HT:Hid (Top p j0):=hT.out.sp sp
   have l1:=sp.lt.1
   have l2:=sp.lt.2
   have gj:(j0:Int)≤t.size:=by omega
   have gk:(k:Int)≤j0:=by omega
   clear hp sp Hat
   go_wp2_with fail
   refine ha.mono ?_
   rintro e w4 ⟨ba,hba,rfl,hra,f4⟩
   have J4:=RwJ.start hS0 (J.call hS0 f4) hra
   clear ha hra f4 J hba
   generalize hw5:w4.alloc (.cells #[.int .i64 x.size,.slice (some ⟨ba,0,none⟩) S S] 210)=w5 at J4
   generalize hca:w4.heap.size=ca at J4
   go_wp2
   clear hw5 hca
   go_loopw [7] (fun v wr=>∃ (j ba:Nat),k<j∧j≤t.size∧v=.int .i64 j∧RwJ w x.size S b c ba ca wr∧Hid (Top p j)) (fun v _=>t.size-(intOf v).toNat)
   case atStart=>exact⟨j0,ba,l1,l2,rfl,J4,HT⟩
   case round=>
    clear J4 HT hT
    obtain⟨j,ba,hkj,hj,rfl,J,hT⟩:=hrel
    obtain⟨⟨k1,k2,k3,k4⟩,J1,hrb,oa⟩:=id J
    have a0:=oa.c0
    have a1:=oa.c1
    have la:=oa.lt
    by_cases hmk:j<t.size∧(aO t j=42∨aO t j=43∨aO t j=63)
    ·obtain⟨hlt2,hmk⟩:=hmk
     have g2:(j:Int)<t.size:=by omega
     have gb:=qW hlt2
     have HT2:Hid (Top p (j+1)):=HM.out j hlt2 hT.out (by omega) (by omega) (by omega)
     clear HM hT
     rcases hmk with e2 | e2 | e2
     ·have b42:(t[j].toNat:Int)=42:=by rw[gb];omega
      have hcall:=Hof.out ba wr hrb
      clear gb e2 Hsa Hof Hei Hbe
      go_wp2_with fail
      refine hcall.mono ?_
      rintro e w6 ⟨b',hb',rfl,hr',f2⟩
      have J6:=J.call hS0 f2
      have J7:=J6.setA hS0 hr' (by omega)
      have oz:=J6.2.2.2
      have c0:=oz.c0
      have c1:=oz.c1
      have z0:=oz.z0
      have z1:=oz.z1
      obtain⟨q1,q2,-,-,-⟩:=rG oz (.int .i64 x.size) (.slice (some ⟨b',0,none⟩) S S)
      clear oz J6 hr' f2 J J1 hrb oa a0 a1
      clear hcall
      go_wp2
      exact⟨⟨j+1,_,by omega,by omega,by go_num,J7,HT2⟩,by simp[intOf];omega⟩
     ·have b43:(t[j].toNat:Int)=43:=by rw[gb];omega
      clear gb e2
      go_wp2
      have D:=J.call hS0 ((Fr.refl [] wr).drew)
      have ds:wr.drew.heap.size=wr.heap.size:=rfl
      refine aE (fun _=>True) hm ?_
      have hS:(fun _:World=>True) wr.drew:=trivial
      generalize wr.drew=WD at *
      refine wpAnyH_ready (rs:=[0,1]) (by kernel_rfl) (by simp) ?_
      refine AllReadyH.cons rfl (fun K hK=>?_) ?_
      ·skip
       have l0:=D.2.2.2.c0
       have l1:=D.2.2.2.c1
       go_simp
       refine hK _ _ trivial ?_
       clear hK K l0 l1
       intro _
       refine rd1 (r:=1) (by kernel_rfl) rfl fun K hK=>?_
       have l0:=D.2.2.2.c0
       have l1:=D.2.2.2.c1
       go_simp
       refine hK _ _ trivial ?_
       clear hK K l0 l1
       intro _
       refine rd1 (r:=2) (by kernel_rfl) rfl fun K hK=>?_
       go_simp
       refine (Hof.out ba _ D.2.2.1).mono ?_
       rintro e V1 ⟨b1,hb1,rfl,hr1,f1⟩
       have J5:=D.call hS0 f1
       have ne2:=f1.size
       refine hK _ _ trivial ?_
       clear hK K
       intro _
       refine rd1 (r:=3) (by kernel_rfl) rfl fun K hK=>?_
       go_simp
       refine (Hbe.out ba b1 V1 J5.2.2.1 hr1).mono ?_
       rintro e V2 ⟨b',hb',rfl,hr',f2⟩
       have J6:=J5.call hS0 f2
       refine hK _ _ trivial ?_
       clear hK K
       intro _
       refine rd1 (r:=4) (by kernel_rfl) rfl fun K hK=>?_
       have J7:=J6.setA hS0 hr' (by omega)
       have oz:=J6.2.2.2
       have c0:=oz.c0
       have c1:=oz.c1
       have z0:=oz.z0
       have z1:=oz.z1
       obtain⟨q1,q2,-,-,-⟩:=rG oz (.int .i64 x.size) (.slice (some ⟨b',0,none⟩) S S)
       clear oz J6 hr' f2 J J1 hrb oa a0 a1
       clear J5 hr1 f1 D
       go_simp
       refine hK _ _ trivial ?_
       clear hK K
       intro _
       refine wpAnyH_done (by kernel_rfl) ?_ _
       go_wp2
       exact⟨⟨j+1,_,by omega,by omega,by go_num,J7,HT2⟩,by simp[intOf];omega⟩
      ·skip
       refine AllReadyH.cons rfl (fun K hK=>?_) AllReadyH.nil
       have l0:=D.2.2.2.c0
       have l1:=D.2.2.2.c1
       go_simp
       refine hK _ _ trivial ?_
       clear hK K l0 l1
       intro _
       refine wpAnyH_ready (rs:=[0,2]) (by kernel_rfl) (by simp) ?_
       refine AllReadyH.cons rfl (fun K hK=>?_) ?_
       ·skip
        have l0:=D.2.2.2.c0
        have l1:=D.2.2.2.c1
        go_simp
        refine hK _ _ trivial ?_
        clear hK K l0 l1
        intro _
        refine rd1 (r:=2) (by kernel_rfl) rfl fun K hK=>?_
        go_simp
        refine (Hof.out ba _ D.2.2.1).mono ?_
        rintro e V1 ⟨b1,hb1,rfl,hr1,f1⟩
        have J5:=D.call hS0 f1
        have ne2:=f1.size
        refine hK _ _ trivial ?_
        clear hK K
        intro _
        refine rd1 (r:=3) (by kernel_rfl) rfl fun K hK=>?_
        go_simp
        refine (Hbe.out ba b1 V1 J5.2.2.1 hr1).mono ?_
        rintro e V2 ⟨b',hb',rfl,hr',f2⟩
        have J6:=J5.call hS0 f2
        refine hK _ _ trivial ?_
        clear hK K
        intro _
        refine rd1 (r:=4) (by kernel_rfl) rfl fun K hK=>?_
        have J7:=J6.setA hS0 hr' (by omega)
        have oz:=J6.2.2.2
        have c0:=oz.c0
        have c1:=oz.c1
        have z0:=oz.z0
        have z1:=oz.z1
        obtain⟨q1,q2,-,-,-⟩:=rG oz (.int .i64 x.size) (.slice (some ⟨b',0,none⟩) S S)
        clear oz J6 hr' f2 J J1 hrb oa a0 a1
        clear J5 hr1 f1 D
        go_simp
        refine hK _ _ trivial ?_
        clear hK K
        intro _
        refine wpAnyH_done (by kernel_rfl) ?_ _
        go_wp2
        exact⟨⟨j+1,_,by omega,by omega,by go_num,J7,HT2⟩,by simp[intOf];omega⟩
       ·skip
        refine AllReadyH.cons rfl (fun K hK=>?_) AllReadyH.nil
        go_simp
        refine (Hof.out ba _ D.2.2.1).mono ?_
        rintro e V1 ⟨b1,hb1,rfl,hr1,f1⟩
        have J5:=D.call hS0 f1
        have ne2:=f1.size
        refine hK _ _ trivial ?_
        clear hK K
        intro _
        refine rd1 (r:=0) (by kernel_rfl) rfl fun K hK=>?_
        have l0:=J5.2.2.2.c0
        have l1:=J5.2.2.2.c1
        go_simp
        refine hK _ _ trivial ?_
        clear hK K l0 l1
        intro _
        refine rd1 (r:=3) (by kernel_rfl) rfl fun K hK=>?_
        go_simp
        refine (Hbe.out ba b1 V1 J5.2.2.1 hr1).mono ?_
        rintro e V2 ⟨b',hb',rfl,hr',f2⟩
        have J6:=J5.call hS0 f2
        refine hK _ _ trivial ?_
        clear hK K
        intro _
        refine rd1 (r:=4) (by kernel_rfl) rfl fun K hK=>?_
        have J7:=J6.setA hS0 hr' (by omega)
        have oz:=J6.2.2.2
        have c0:=oz.c0
        have c1:=oz.c1
        have z0:=oz.z0
        have z1:=oz.z1
        obtain⟨q1,q2,-,-,-⟩:=rG oz (.int .i64 x.size) (.slice (some ⟨b',0,none⟩) S S)
        clear oz J6 hr' f2 J J1 hrb oa a0 a1
        clear J5 hr1 f1 D
        go_simp
        refine hK _ _ trivial ?_
        clear hK K
        intro _
        refine wpAnyH_done (by kernel_rfl) ?_ _
        go_wp2
        exact⟨⟨j+1,_,by omega,by omega,by go_num,J7,HT2⟩,by simp[intOf];omega⟩
     ·have b42:((t[j].toNat:Int)==42)=false:=by rw[gb];simp;omega
      have b43:((t[j].toNat:Int)==43)=false:=by rw[gb];simp;omega
      have b63:(t[j].toNat:Int)=63:=by rw[gb];omega
      clear gb e2
      go_wp2
      have D:=J.call hS0 ((Fr.refl [] wr).drew)
      have ds:wr.drew.heap.size=wr.heap.size:=rfl
      refine aE (fun _=>True) hm ?_
      have hS:(fun _:World=>True) wr.drew:=trivial
      generalize wr.drew=WD at *
      refine aH (fun _ _ _ _ _ h=>h) hS [1,2] (by kernel_rfl) ?_
      iterate 2
       refine Yls.cons (v:=?_) rfl (.inl ⟨rfl,fun w1 hS1=>?_⟩) ?_
       rotate_left
       ·go_simp
        try rfl
       simp only[Act.put,Z1,Z2,Z3]
      refine Yls.nil ?_
      refine wpAnyH_ready (rs:=[0,3]) (by kernel_rfl) (by simp) ?_
      refine AllReadyH.cons rfl (fun K hK=>?_) ?_
      ·skip
       have l0:=D.2.2.2.c0
       have l1:=D.2.2.2.c1
       go_simp
       refine hK _ _ trivial ?_
       clear hK K l0 l1
       intro _
       refine rd1 (r:=3) (by kernel_rfl) rfl fun K hK=>?_
       go_simp
       refine (Hsa.out _).mono ?_
       rintro e V1 ⟨b1,hb1,rfl,hr1,f1⟩
       have J5:=D.call hS0 f1
       have ne2:=f1.size
       refine hK _ _ trivial ?_
       clear hK K
       intro _
       refine rd1 (r:=4) (by kernel_rfl) rfl fun K hK=>?_
       go_simp
       refine (Hei.out ba b1 V1 J5.2.2.1 hr1).mono ?_
       rintro e V2 ⟨b',hb',rfl,hr',f2⟩
       have J6:=J5.call hS0 f2
       refine hK _ _ trivial ?_
       clear hK K
       intro _
       refine rd1 (r:=5) (by kernel_rfl) rfl fun K hK=>?_
       have J7:=J6.setA hS0 hr' (by omega)
       have oz:=J6.2.2.2
       have c0:=oz.c0
       have c1:=oz.c1
       have z0:=oz.z0
       have z1:=oz.z1
       obtain⟨q1,q2,-,-,-⟩:=rG oz (.int .i64 x.size) (.slice (some ⟨b',0,none⟩) S S)
       clear oz J6 hr' f2 J J1 hrb oa a0 a1
       clear J5 hr1 f1 D
       go_simp
       refine hK _ _ trivial ?_
       clear hK K
       intro _
       refine wpAnyH_done (by kernel_rfl) ?_ _
       go_wp2
       exact⟨⟨j+1,_,by omega,by omega,by go_num,J7,HT2⟩,by simp[intOf];omega⟩
      ·skip
       refine AllReadyH.cons rfl (fun K hK=>?_) AllReadyH.nil
       go_simp
       refine (Hsa.out _).mono ?_
       rintro e V1 ⟨b1,hb1,rfl,hr1,f1⟩
       have J5:=D.call hS0 f1
       have ne2:=f1.size
       refine hK _ _ trivial ?_
       clear hK K
       intro _
       refine rd1 (r:=0) (by kernel_rfl) rfl fun K hK=>?_
       have l0:=J5.2.2.2.c0
       have l1:=J5.2.2.2.c1
       go_simp
       refine hK _ _ trivial ?_
       clear hK K l0 l1
       intro _
       refine rd1 (r:=4) (by kernel_rfl) rfl fun K hK=>?_
       go_simp
       refine (Hei.out ba b1 V1 J5.2.2.1 hr1).mono ?_
       rintro e V2 ⟨b',hb',rfl,hr',f2⟩
       have J6:=J5.call hS0 f2
       refine hK _ _ trivial ?_
       clear hK K
       intro _
       refine rd1 (r:=5) (by kernel_rfl) rfl fun K hK=>?_
       have J7:=J6.setA hS0 hr' (by omega)
       have oz:=J6.2.2.2
       have c0:=oz.c0
       have c1:=oz.c1
       have z0:=oz.z0
       have z1:=oz.z1
       obtain⟨q1,q2,-,-,-⟩:=rG oz (.int .i64 x.size) (.slice (some ⟨b',0,none⟩) S S)
       clear oz J6 hr' f2 J J1 hrb oa a0 a1
       clear J5 hr1 f1 D
       go_simp
       refine hK _ _ trivial ?_
       clear hK K
       intro _
       refine wpAnyH_done (by kernel_rfl) ?_ _
       go_wp2
       exact⟨⟨j+1,_,by omega,by omega,by go_num,J7,HT2⟩,by simp[intOf];omega⟩
    ·have hbeh:=Hbe.out b ba wr J1.rel hrb
     have oz:=J1.own
     have d0:=oz.c0
     have d1:=oz.c1
     have bl:=oz.lt
     have bl2:=(J1.2.2.2.o (w.heap.size,.int .i64 0,.slice none 0 0) (by simp)).lt
     have fin:Hid (∀ w6 b',wr.heap.size≤b'→BoS w6 b' S→Fr [] wr w6→(w6.cell? ⟨c,0,none⟩=some (.int .i64 x.size)∧w6.cell? ⟨c,1,none⟩=some (.slice (some ⟨b,0,none⟩) S S)∧w6.frozen? ⟨c,0,none⟩=false∧w6.frozen? ⟨c,1,none⟩=false)∧(w6.setCell ⟨c,0,none⟩ (.int .i64 x.size)).cell? ⟨c,1,none⟩=some (.slice (some ⟨b,0,none⟩) S S)∧(w6.setCell ⟨c,0,none⟩ (.int .i64 x.size)).frozen? ⟨c,1,none⟩=false∧Hid (RwI w x.size S b' c ((w6.setCell ⟨c,0,none⟩ (.int .i64 x.size)).setCell ⟨c,1,none⟩ (.slice (some ⟨b',0,none⟩) S S)))):=fun w6 b' hb' hr' f6=>by
      have J6:=J1.call hS0 f6
      obtain⟨q1,q2,-,-,-⟩:=rG J6.own (.int .i64 x.size) (.slice (some ⟨b',0,none⟩) S S)
      exact⟨⟨J6.own.c0,J6.own.c1,J6.own.z0,J6.own.z1⟩,q1,q2,J6.setR hS0 hr' (by omega) (by omega)⟩
     have key:(j<t.size→aO t j≠42∧aO t j≠43∧aO t j≠63):=fun h=>by omega
     clear hmk HM Hsa Hof Hei Hbe J J1 hrb oa oz
     by_cases hlt2:j<t.size
     ·have g2:(j:Int)<t.size:=by omega
      have b42:((t[j].toNat:Int)==42)=false:=fO hlt2 (key hlt2).1
      have b43:((t[j].toNat:Int)==43)=false:=fO hlt2 (key hlt2).2.1
      have b63:((t[j].toNat:Int)==63)=false:=fO hlt2 (key hlt2).2.2
      clear key
      go_wp2_with fail
      refine hbeh.mono ?_
      rintro e w6 ⟨b',hb',rfl,hr',f6⟩
      obtain⟨⟨c0,c1,z0,z1⟩,q1,q2,J7⟩:=fin.out w6 b' hb' hr' f6
      clear fin hr' f6 hbeh a0 a1 d0 d1
      go_wp2
      exact⟨⟨j,b',by omega,rfl,J7.out,hT⟩,by simp[intOf];omega⟩
     ·have g2:¬ ((j:Int)<t.size):=by omega
      clear key
      go_wp2_with fail
      refine hbeh.mono ?_
      rintro e w6 ⟨b',hb',rfl,hr',f6⟩
      obtain⟨⟨c0,c1,z0,z1⟩,q1,q2,J7⟩:=fin.out w6 b' hb' hr' f6
      clear fin hr' f6 hbeh a0 a1 d0 d1
      go_wp2
      exact⟨⟨j,b',by omega,rfl,J7.out,hT⟩,by simp[intOf];omega⟩
  ·have g1:¬ ((k:Int)<t.size):=by omega
   have d0:=J.own.c0
   have d1:=J.own.c1
   obtain⟨⟨c0,c1,z0,z1⟩,x1,x2,x3,x4,Z⟩:=J.fin hS0
   clear J Hsa Hof Hbe Hei Hat Hpa HM
   go_wp2
   exact bodyPost_ret (v:=rlV x.size b S) (by simp[results,results162,go_sem,x3,x4]) rfl Z.out
theorem aWg (n:Nat)(hR:bGb n):aZv (n+1):=by
 intro t x S hn ht hx eS hP w
 have hS0:=(iX eS hx).1
 obtain⟨p,hp⟩:=hP
 have Hno:Hid _:=O1 x.size S eS hx
 have Hei:Hid _:=fun (ba bb:Nat) (W:World) (ha:BoS W ba S) (hb:BoS W bb S)=>T7 x.size S ba bb eS hx W ha hb
 have Hro:Hid _:=fun (fr e:Nat) (W:World) (h1:fr≤e) (h2:e≤t.size) (a:Top p fr) (b:Top p e)=>hR (t.extract fr e) x S (by rw[ByteArray.size_extract];omega) (by rw[ByteArray.size_extract];omega) hx eS (hp.sub h1 h2 a.1 b.1 (by rw[a.2,b.2]) (fun k _ _=>by rw[a.2];omega)) W
 have Hpa:Hid _:=fun (k:Nat) (W:World) (hk:k<t.size) (h:Top p k)=>aKx t p hp ht _ k (Nat.le_refl _) hk h.1 (h.no hp hk) W
 have HM:Hid _:=fun (k:Nat) (hk:k<t.size) (h:Top p k)=>h.byte hp hk
 have T0:Hid (Top p 0):=hp.b
 have TE:Hid (Top p t.size):=hp.e
 clear eS hR hp
 go_enter func147,ntmps147
 go_wp2_with fail
 refine (Hno.out _).mono ?_
 rintro e w1 ⟨b,hb,rfl,hr,f1⟩
 rw[World.size_alloc] at hb
 have J0:=RwI.start (N:=x.size) hS0 hb hr f1
 clear hr f1 Hno
 generalize hw2:w1.alloc (.cells #[.int .i64 x.size,.slice (some ⟨b,0,none⟩) S S] 210)=w2 at J0
 generalize hc:w1.heap.size=c at J0
 go_wp2
 clear hw2 hc hb
 go_loopw [6,7] (fun u v wr=>∃ (fr k b:Nat),fr≤k∧k≤t.size+1∧u=.int .i64 fr∧v=.int .i64 k∧RwI w x.size S b c wr∧Hid (k≤t.size→Top p fr∧Top p k)) (fun _ v _=>t.size+1-(intOf v).toNat)
 case atStart=>exact⟨0,0,b,by omega,by omega,rfl,rfl,J0,fun _=>⟨T0.out,T0.out⟩⟩
 case round=>
  clear J0 T0
  obtain⟨fr,k,b,hfk,hk,rfl,rfl,J,hT⟩:=hrel
  have d0:=J.own.c0
  have d1:=J.own.c1
  by_cases hlt:k≤t.size
  ·have g1:(k:Int)≤t.size:=by omega
   obtain⟨T1,T2⟩:=hT.out hlt
   by_cases hbar:k=t.size∨aO t k=124
   ·have hrw:=Hro.out fr k wr hfk hlt T1 T2
    have HT2:Hid (k+1≤t.size→Top p (k+1)∧Top p (k+1)):=fun h=>by
     have:=HM.out k (by omega) T2 (by omega) (by omega) (by omega)
     exact⟨this,this⟩
    have gfr:(fr:Int)≤k:=by omega
    have key:((k:Int)==(t.size:Int))=true∨∃ h:k<t.size,((k:Int)==(t.size:Int))=false∧(t[k].toNat:Int)=124:=by
     by_cases e:k=t.size
     ·left;simp;omega
     ·right;exact⟨by omega,by simp;omega,by rw[qW (by omega)];omega⟩
    clear hbar hT T1 T2 Hro Hpa HM TE
    rcases key with gz | ⟨hl,gz,gb⟩
    all_goals
     try have gl:(k:Int)<t.size:=by omega
     go_wp2_with fail
     refine hrw.mono ?_
     rintro e w4 ⟨ba,hba,rfl,hra,f4⟩
     have J4:=RwJ.start hS0 (J.call hS0 f4) hra
     clear hrw hra f4 J hba d0 d1
     generalize hw5:w4.alloc (.cells #[.int .i64 x.size,.slice (some ⟨ba,0,none⟩) S S] 210)=w5 at J4
     generalize hca:w4.heap.size=ca at J4
     obtain⟨-,J1,hrb,oa⟩:=J4
     have hcall:=Hei.out b ba w5 J1.rel hrb
     have d0:=J1.own.c0
     have d1:=J1.own.c1
     have a0:=oa.c0
     have a1:=oa.c1
     have bl:=J1.own.lt
     have bl2:=(J1.2.2.2.o (w.heap.size,.int .i64 0,.slice none 0 0) (by simp)).lt
     clear Hei oa hrb
     go_wp2_with fail
     refine hcall.mono ?_
     rintro e w6 ⟨b',hb',rfl,hr',f6⟩
     have J6:=J1.call hS0 f6
     have J7:=J6.setR hS0 hr' (by omega) (by omega)
     have oz:=J6.own
     have c0:=oz.c0
     have c1:=oz.c1
     have z0:=oz.z0
     have z1:=oz.z1
     obtain⟨q1,q2,-,-,-⟩:=rG oz (.int .i64 x.size) (.slice (some ⟨b',0,none⟩) S S)
     clear oz J6 hr' f6 hcall J1 a0 a1 d0 d1 bl bl2 hb' hw5 hca
     go_wp2
     exact⟨⟨k+1,k+1,b',by omega,by omega,by go_num,by go_num,J7,HT2⟩,by simp[intOf];omega⟩
   ·have hl:k<t.size:=by omega
    have gl:(k:Int)<t.size:=by omega
    have gz:((k:Int)==(t.size:Int))=false:=by simp;omega
    have b124:((t[k].toNat:Int)==124)=false:=fO (x:=124) hl (by omega)
    have hp:=Hpa.out k wr hl T2
    have HT1:Hid _:=AI T1 T2
    clear hbar hT T1 T2 Hro Hpa Hei d0 d1 HM TE
    go_wp2_with fail
    refine hp.mono ?_
    rintro e w3 ⟨⟨j,rfl,sp⟩,hw3⟩
    replace hw3:=hw3.symm
    subst hw3
    have HT2:Hid (j≤t.size→Top p fr∧Top p j):=fun _=>⟨HT1.out.1,HT1.out.2.sp sp⟩
    have l1:=sp.lt.1
    have l2:=sp.lt.2
    clear hp sp HT1
    go_wp2
    exact⟨⟨fr,j,b,by omega,by omega,rfl,rfl,J,HT2⟩,by simp[intOf];omega⟩
  ·have g1:¬ ((k:Int)≤t.size):=by omega
   obtain⟨⟨c0,c1,z0,z1⟩,x1,x2,x3,x4,Z⟩:=J.fin hS0
   clear J hT Hei Hro Hpa HM TE
   go_wp2
   exact bodyPost_ret (v:=rlV x.size b S) (by simp[results,results147,go_sem,x3,x4]) rfl Z.out
theorem yH:∀ n,aZv n
 | 0=>fun t x S hn _ _ _ _ _=>by omega
 | n+1=>aWg n (bEq n (yH n))
theorem bCe:(prog.info? 3).map (fun i=>(i.zero,i.size,i.bytes))=some (some (.int .i64 0),1,8):=by kernel_rfl
structure OwZ (w0:World) (M:Nat) (L:List Int) (v:Value) (W:World):Prop where
 own:W.ownsRow w0.heap.size 3 1 v L.length (L.map (.int .i64))
 bd:∀ x ∈ L,-1≤x∧x≤M
 fr:Fr [] w0 W
theorem OwZ.start (w:World)(M:Nat):OwZ w M [] (.slice none 0 0) w:=⟨World.ownsRow_nil _ _ _ _,by simp,Fr.refl _ _⟩
theorem OwZ.kept {w0 W W':World}{M:Nat}{L:List Int}{v:Value} (h:OwZ w0 M L v W) (hf:Fr [] W W'):OwZ w0 M L v W':=⟨vK h.own hf (by simp),h.bd,h.fr.trans hf⟩
theorem OwZ.grown {w0 W W':World}{M:Nat}{L:List Int}{v v':Value}{s:Int}{o:Obj} (h:OwZ w0 M L v W) (hs:-1≤s∧s≤M) (hown:W'.ownsRow w0.heap.size 3 1 v' (L.length+1) (L.map (.int .i64)++[.int .i64 s])) (hg:(W.alloc o).grownBy W' v.ownBlock):OwZ w0 M (L++[s]) v' W':=by
 refine⟨by simpa using hown,fun x hx=>?_,⟨hg.os.trans h.fr.os,hg.tape.trans h.fr.tape,hg.output.trans h.fr.output,?_,fun k hk hn=>?_⟩⟩
 ·rcases List.mem_append.1 hx with q | q
  ·exact h.bd x q
  ·simp at q;subst q;exact hs
 ·have:=hg.size
  have:=h.fr.size
  simp at *
  omega
 ·have hkW:k<W.heap.size:=Nll hk h.fr.size
  refine (hg.block k (by simp;omega) (fun e=>?_)).trans ((((Fr.refl [] W).alloc o).block k hkW (by simp)).trans (h.fr.block k hk hn))
  have:=(h.own.lt k e.symm).1
  omega
def bIk (W:World) (v:Value) (n:Nat):Prop:=∃ g c,v=.slice (some ⟨g,0,none⟩) n c∧g<W.heap.size∧∀ k,k<n→∃ e:Int,W.cell? ⟨g,k,none⟩=some (.int .i64 e)∧-1≤e∧e<n
def bIo (n:Nat) (w:World) (e:Ending) (w':World):Prop:=∃ v,e=.returned v∧bIk w' v n∧Fr [] w w'
theorem aLz (t x:ByteArray)(ht:t.size≤50)(hx:x.size≤1048576)(h:nU t)(w:World):Calls prog 137 #[.string t,.string x] w (bIo (x.size+1) w):=by
 obtain⟨i0,hi,hz0,hz1,hz2⟩:=info_parts bCe
 obtain⟨S,eS⟩:=eX ((x.size+1)*(x.size+1))
 have hS0:=(iX eS hx).1
 have Hcc:Hid _:=fun (_:Unit)=>yH (t.size+1) t x S (by omega) ht hx eS h w
 have Hat:Hid _:=fun (b i j:Nat) (W:World) (h:BoS W b S) (hi:i≤x.size) (hj:j≤x.size)=>bDg x.size S b i j W h eS hx hi hj
 clear eS h
 go_enter func137,ntmps137
 go_wp2_with fail
 refine (Hcc.out ()).mono ?_
 rintro e w1 ⟨b,hb,rfl,hr,f1⟩
 have J1:=((RJ.init w1 (rs:=[b]) (S:=S) (by simpa using hr)).new hS0 (.int .i64 x.size) (.slice (some ⟨b,0,none⟩) S S))
 have f3:=f1.trans J1.fr
 generalize hw2:w1.alloc (.cells #[.int .i64 x.size,.slice (some ⟨b,0,none⟩) S S] 210)=w2 at *
 generalize hc:w1.heap.size=c at *
 have J0:=OwZ.start w2 x.size
 go_wp2
 clear hw2 hc hr f1 Hcc
 have HJ:Hid _:=J1
 clear J1
 go_loopw [6,7] (fun u v wr=>∃ (k:Nat) (L:List Int),L.length=k∧k≤x.size+1∧v=.int .i64 k∧OwZ w2 x.size L u wr) (fun _ v _=>x.size+1-(intOf v).toNat)
 case atStart=>exact⟨0,[],rfl,by omega,rfl,J0⟩
 case round=>
  clear J0
  obtain⟨k,L,hL,hk,rfl,J⟩:=hrel
  have HL:Hid (L.length=k):=hL
  clear hL
  by_cases hlt:k≤x.size
  ·have g1:(k:Int)≤x.size:=by omega
   go_wp2
   go_loopw [8,9] (fun fv jv wx=>∃ (j:Nat) (f:Int),-1≤f∧f≤x.size∧j≤x.size+1∧fv=.int .i64 f∧jv=.int .i64 j∧Fr [] wr wx) (fun _ jv _=>x.size+1-(intOf jv).toNat)
   case atStart=>exact⟨k,-1,by omega,by omega,by omega,rfl,rfl,Fr.refl [] _⟩
   case round=>
    obtain⟨j,f,hf0,hf1,hj2,rfl,rfl,hf⟩:=hrel
    have J5:=J.kept hf
    have I5:=HJ.out.call hS0 J5.fr
    have p1:=I5.o _ (List.mem_cons_self ..)
    have a0:=p1.c0
    have a1:=p1.c1
    by_cases hlt2:j≤x.size
    ·have g2:(j:Int)≤x.size:=by omega
     have hat:=Hat.out b k j _ (I5.r b (by simp)) hlt hlt2
     clear J5 I5 p1
     go_wp2_with fail
     refine hat.mono ?_
     rintro e w5 ⟨⟨v,rfl⟩,f5⟩
     have f6:=hf.trans f5
     clear hat f5 a0 a1 hf
     cases v
     ·go_wp2
      exact⟨⟨j+1,f,hf0,hf1,by omega,rfl,by go_num,f6⟩,by simp[intOf];omega⟩
     ·go_wp2
      exact⟨⟨j+1,j,by omega,by omega,by omega,rfl,by go_num,f6⟩,by simp[intOf];omega⟩
    ·have g2:¬ ((j:Int)≤x.size):=by omega
     have hown:=J5.own
     have hs5:=J5.fr.size
     have hLl:L.length≤x.size:=by have:=HL.out;omega
     clear hf a0 a1 p1 I5
     go_wp2_with (at_builtin;refine wpList_append_own _ rfl _ _ 26 rfl w2.heap.size 3 i0 (.int .i64 0) 1 8 underlying26 hi hz0 hz1 hz2 rfl (by decide) _ _ _ rfl (hown.alloc _) ⟨wr.heap.size,0,none⟩ 1 1 [.int .i64 f] rfl rfl (jE wr _ 3) (fun u hu=>by simp at hu;subst hu;rfl) (by unfold maxLen;omega) (by omega) (by simp;omega) ?_)
     intro v' w6 hown' hgrow _
     have J6:=J5.grown ⟨hf0,hf1⟩ hown' hgrow
     have hL2:Hid ((L++[f]).length=k+1):=by rw[Lla,HL.out];rfl
     clear J J5 hown hown' hgrow
     go_wp2
     exact⟨⟨k+1,L++[f],hL2.out,by omega,by go_num,J6⟩,by simp[intOf];omega⟩
  ·have g1:¬ ((k:Int)≤x.size):=by omega
   have hLk:=HL.out
   go_wp2
   go_ret
   refine⟨_,rfl,?_,f3.trans J.fr⟩
   have own:=J.own
   obtain⟨g,cp,eg,hcp,hg⟩:=fG own (by omega)
   subst eg
   have hk1:L.length=x.size+1:=by omega
   refine⟨g,cp,congrArg (fun n=>Value.slice (some ⟨g,0,none⟩) n cp) hk1,hg,fun q hq=>?_⟩
   have hm:=J.bd L[q] (List.getElem_mem (by omega))
   exact⟨L[q],bV own (by rw[List.getElem?_map,Lge (by omega)];rfl),hm.1,by omega⟩
def bIl (n:Nat) (e:Ending):Prop:=∃ a m:Int,e=.returned (.tuple #[.int .i64 a,.int .i64 m])∧-1≤a∧a≤n∧-(n:Int)≤m∧m≤n
theorem aOh (t x:ByteArray)(ht:t.size≤50)(hx:x.size≤1048576)(h:nU t)(w:World):Calls prog 116 #[.string t,.string x,.int .i64 0] w fun e w'=>bIl x.size e∧Fr [] w w':=by
 have hm:prog.follows Departure.mixedOrders=true:=by kernel_rfl
 have hen:=aLz t x ht hx h w
 go_enter func116,ntmps116
 go_wp2_with fail
 refine hen.mono ?_
 rintro e w1 ⟨v,rfl,⟨eb,cap,rfl,hl,hc⟩,f1⟩
 have Hc:Hid _:=hc
 clear hen hc h
 go_wp2
 go_loop [9] (fun i=>∃ k:Nat,k≤x.size+1∧i=.int .i64 k) (fun i=>x.size+1-(intOf i).toNat)
 case atStart=>exact⟨0,by omega,rfl⟩
 case round=>
  obtain⟨k,hk,rfl⟩:=hrel
  by_cases hlt:k≤x.size
  ·have g1:(k:Int)<(x.size:Int)+1:=by omega
   obtain⟨E,c1,e0,e1⟩:=Hc.out k (by omega)
   by_cases he:0≤E
   ·have hw64:IntKind.i64.wrap (E-k)=E-k:=by rw[IntKind.wrap_i64];omega
    go_wp2
    refine mQ hm (by kernel_rfl) ?_
    repeat still_step
    refine wpStill_nil ?_
    go_wp2
    go_ret2
    exact⟨⟨k,E-k,by simp[hw64],by omega,by omega,by omega,by omega⟩,f1.drew⟩
   ·go_wp2
    exact⟨⟨k+1,by omega,by go_num⟩,by simp[intOf];omega⟩
  ·have g1:¬ ((k:Int)<(x.size:Int)+1):=by omega
   go_wp2
   go_ret2
   exact⟨⟨-1,0,rfl,by omega,by omega,by omega,by omega⟩,f1⟩
theorem aOy (t wi x:ByteArray)(ht:t.size≤50)(hw:wi.size≤1048576)(hx:x.size≤1048576)(h:nU t)(w:World):Calls prog 117 #[.string t,.string wi,.string x] w fun e w'=>(∃ o:ByteArray,e=.returned (.string o)∧o.size≤1099515822082)∧Fr [] w w':=by
 have hen:=aLz t x ht hx h w
 go_enter func117,ntmps117
 go_wp2_with fail
 refine hen.mono ?_
 rintro e w1 ⟨v,rfl,⟨eb,cap,rfl,hl,hc⟩,f1⟩
 have Hc:Hid _:=hc
 clear hen hc h
 go_wp2
 go_loop [8,9,10] (fun a s i=>∃ (k:Nat) (o:ByteArray) (sw:Int),k≤x.size+1∧o.size≤1048577*k∧a=.string o∧s=.int .i64 sw∧i=.int .i64 k) (fun _ _ i=>x.size+1-(intOf i).toNat)
 case atStart=>exact⟨0,⟨#[]⟩,-1,by omega,Nat.le_refl _,rfl,rfl,rfl⟩
 case round=>
  obtain⟨k,o,sw,hk,ho,rfl,rfl,rfl⟩:=hrel
  by_cases hks:k≤x.size
  ·have g1:(k:Int)≤x.size:=by omega
   have g2:(k:Int)<(x.size:Int)+1:=by omega
   obtain⟨E,c1,hb1,hb2⟩:=Hc.out k (by omega)
   have hn:(o++wi).size=o.size+wi.size:=ByteArray.size_append
   by_cases hE:(k:Int)<E
   ·have hE0:(E.toNat:Int)=E:=by omega
    go_wp2
    exact⟨⟨E.toNat,o++wi,E,by omega,by omega,rfl,rfl,by rw[hE0]⟩,by simp[intOf];omega⟩
   ·have hn3:k<x.size→(x.extract k (k+1)).size=1:=fun h=>by rw[ByteArray.size_extract];omega
    have hn4:k<x.size→(o++x.extract k (k+1)).size=o.size+1:=fun h=>by rw[ByteArray.size_append,hn3 h]
    have hn5:k<x.size→(o++wi++x.extract k (k+1)).size=o.size+wi.size+1:=fun h=>by rw[ByteArray.size_append,hn,hn3 h]
    by_cases hl:k<x.size
    ·have g3:(k:Int)<x.size:=by omega
     replace hn3:=hn3 hl
     replace hn4:=hn4 hl
     replace hn5:=hn5 hl
     by_cases q1:E=k
     ·by_cases q2:sw=k
      ·have e1:(E==(k:Int))=true:=by simp[q1]
       have e2:(sw != (k:Int))=false:=by simp[q2]
       clear q1 q2
       go_wp2
       exact⟨⟨k+1,_,sw,by omega,by omega,rfl,rfl,by go_num⟩,by simp[intOf];omega⟩
      ·have e1:(E==(k:Int))=true:=by simp[q1]
       have e2:(sw != (k:Int))=true:=by simp[q2]
       clear q1 q2
       go_wp2
       exact⟨⟨k+1,_,sw,by omega,by omega,rfl,rfl,by go_num⟩,by simp[intOf];omega⟩
     ·have e1:(E==(k:Int))=false:=by simp[q1]
      clear q1
      go_wp2
      exact⟨⟨k+1,_,sw,by omega,by omega,rfl,rfl,by go_num⟩,by simp[intOf];omega⟩
    ·have g3:¬ ((k:Int)<x.size):=by omega
     clear hn3 hn4 hn5
     by_cases q1:E=k
     ·by_cases q2:sw=k
      ·have e1:(E==(k:Int))=true:=by simp[q1]
       have e2:(sw != (k:Int))=false:=by simp[q2]
       clear q1 q2
       go_wp2
       exact⟨⟨k+1,_,sw,by omega,by omega,rfl,rfl,by go_num⟩,by simp[intOf];omega⟩
      ·have e1:(E==(k:Int))=true:=by simp[q1]
       have e2:(sw != (k:Int))=true:=by simp[q2]
       clear q1 q2
       go_wp2
       exact⟨⟨k+1,_,sw,by omega,by omega,rfl,rfl,by go_num⟩,by simp[intOf];omega⟩
     ·have e1:(E==(k:Int))=false:=by simp[q1]
      clear q1
      go_wp2
      exact⟨⟨k+1,_,sw,by omega,by omega,rfl,rfl,by go_num⟩,by simp[intOf];omega⟩
  ·have g1:¬ ((k:Int)≤x.size):=by omega
   go_wp2
   go_ret
   exact⟨⟨o,rfl,by omega⟩,f1⟩
theorem aUe (t x:ByteArray)(ht:t.size≤50)(hx:x.size≤1048576)(h:nU t)(w:World):Calls prog 118 #[.string t,.string x] w (bGi x w):=by
 obtain⟨i0,hi,hz0,hz1,hz2⟩:=info_parts Q7
 by_cases he:x=⟨#[]⟩
 ·subst he
  go_enter func118,ntmps118
  go_wp2
  go_ret
  exact⟨_,[],rfl,OwS.start w,by simp,by simp⟩
 ·have hen:=aLz t x ht hx h w
  have n1:(x.toList == [])=false:=by
   have:=aEj x ⟨#[]⟩
   rw[decide_eq_false he,show (ByteArray.mk #[]).toList=[] by rw[ByteArray.toList_eq]] at this
   exact this
  have n2:decide (x=ByteArray.empty)=false:=decide_eq_false he
  have n3:decide (x=⟨#[]⟩)=false:=decide_eq_false he
  go_enter func118,ntmps118
  go_wp2_with fail
  refine hen.mono ?_
  rintro e w1 ⟨v,rfl,⟨eb,cap,rfl,hl,hc⟩,f1⟩
  have Hc:Hid _:=hc
  clear hen hc h n1 n2 n3 he
  have J0:=OwS.start w1
  go_wp2
  go_loopw [6,7,8] (fun v bg pl wr=>∃ (k b:Nat) (L:List ByteArray),b≤k∧k≤x.size∧L.length≤k∧bg=.int .i64 b∧pl=.int .i64 k∧Hid (∀ y ∈ L,y.size≤x.size)∧OwS w1 L v wr) (fun _ _ pl _=>x.size-(intOf pl).toNat)
  case atStart=>exact⟨0,0,[],by omega,by omega,by simp,rfl,rfl,(by intro y hy;cases hy),J0⟩
  case round=>
   clear J0
   obtain⟨k,b,L,hb,hk,hL,rfl,rfl,hR,J⟩:=hrel
   have hW:=J.fr.size
   have more:∀ e,e≤x.size→Hid (∀ y ∈ L++[x.extract b e],y.size≤x.size):=fun e he y hy=>by
    rcases List.mem_append.1 hy with q | q
    ·exact hR.out y q
    ·simp at q;subst q;rw[ByteArray.size_extract];omega
   by_cases hks:k<x.size
   ·have g1:(k:Int)<x.size:=by omega
    have g2:(k:Int)<(x.size:Int)+1:=by omega
    obtain⟨E,c0,hb1,hb2⟩:=Hc.out k (by omega)
    have c1:=(J.fr.cell (p:=⟨eb,k,none⟩) hl (by simp)).trans c0
    have HM:=more k (by omega)
    clear more
    by_cases hE:E≤k
    ·have gE:¬ ((k:Int)<E):=by omega
     clear HM
     go_wp2
     exact⟨⟨k+1,b,L,by omega,by omega,by omega,rfl,by go_num,hR,J⟩,by simp[intOf];omega⟩
    ·have gE:(k:Int)<E:=by omega
     have g3:(b:Int)≤k:=by omega
     have hE0:(E.toNat:Int)=E:=by omega
     have hown:=J.own
     go_wp2_with (at_builtin;refine wpList_append_own _ rfl _ _ 22 rfl w1.heap.size 9 i0 (.string ⟨#[]⟩) 1 16 underlying22 hi hz0 hz1 hz2 rfl (by decide) _ _ _ rfl (hown.alloc _) ⟨wr.heap.size,0,none⟩ 1 1 [.string (x.extract b k)] rfl rfl (jE wr _ 9) (fun u hu=>by simp at hu;subst hu;rfl) (by unfold maxLen;omega) (by omega) (by simp;omega) ?_)
     intro v' w3 hown' hgrow _
     have J3:=J.grown hown' hgrow
     have c3:=(J3.fr.cell (p:=⟨eb,k,none⟩) hl (by simp)).trans c0
     clear hown hown' hgrow J hR
     go_wp2
     exact⟨⟨E.toNat,E.toNat,L++[x.extract b k],by omega,by omega,by rw[Lla];simp;omega,by rw[hE0],by rw[hE0],HM,J3⟩,by simp[intOf];omega⟩
   ·have g1:¬ ((k:Int)<x.size):=by omega
    have g3:(b:Int)≤x.size:=by omega
    have hown:=J.own
    have HM:=more x.size (by omega)
    clear more
    go_wp2_with (at_builtin;refine wpList_append_own _ rfl _ _ 22 rfl w1.heap.size 9 i0 (.string ⟨#[]⟩) 1 16 underlying22 hi hz0 hz1 hz2 rfl (by decide) _ _ _ rfl (hown.alloc _) ⟨wr.heap.size,0,none⟩ 1 1 [.string (x.extract b x.size)] rfl rfl (jE wr _ 9) (fun u hu=>by simp at hu;subst hu;rfl) (by unfold maxLen;omega) (by omega) (by simp;omega) ?_)
    intro v' w3 hown' hgrow _
    have J3:=J.grown hown' hgrow
    clear hown hown' hgrow J hR
    go_wp2
    go_ret
    exact⟨v',_,rfl,⟨J3.own.mono f1.size,f1.trans J3.fr⟩,by simp;omega,HM.out⟩
theorem aYz (t x:ByteArray)(ht:t.size≤50)(hx:x.size≤1048576)(h:nU t)(w:World):Calls prog 81 #[.string t,.string x] w fun e w'=>aMv e∧Fr [] w w':=by
 have hf:=aOh t x ht hx h w
 clear h
 go_enter func81,ntmps81
 go_wp2_with fail
 refine hf.mono ?_
 rintro e w1 ⟨⟨a,m,rfl,a0,a1,m0,m1⟩,f1⟩
 clear hf
 go_wp2
 go_ret
 exact⟨⟨a+1,by go_num,by omega,by omega⟩,f1⟩
theorem aPc (t x:ByteArray)(ht:t.size≤50)(hx:x.size≤1048576)(h:nU t)(w:World):Calls prog 82 #[.string t,.string x] w fun e w'=>aMv e∧Fr [] w w':=by
 have hf:=aOh t x ht hx h w
 clear h
 go_enter func82,ntmps82
 go_wp2_with fail
 refine hf.mono ?_
 rintro e w1 ⟨⟨a,m,rfl,a0,a1,m0,m1⟩,f1⟩
 clear hf
 by_cases ha:a<0
 ·go_wp2
  go_ret
  exact⟨⟨-1,rfl,by omega,by omega⟩,f1⟩
 ·go_wp2
  go_ret
  exact⟨⟨m,rfl,by omega,by omega⟩,f1⟩
theorem aSe (t wi x:ByteArray)(ht:t.size≤50)(hw:wi.size≤1048576)(hx:x.size≤1048576)(h:nU t)(w:World):Calls prog 83 #[.string t,.string wi,.string x] w fun e w'=>(∃ (u:ByteArray) (st:Int),e=.returned (.tuple #[.string u,.int .i64 st])∧u.size≤1048576∧0≤st∧st≤9)∧Fr [] w w':=by
 have hf:=aOy t wi x ht hw hx h w
 clear h
 go_enter func83,ntmps83
 go_wp2_with fail
 refine hf.mono ?_
 rintro e w1 ⟨⟨u,rfl,hu⟩,f1⟩
 clear hf
 by_cases ha:100<u.size
 ·have g1:(100:Int)<u.size:=by omega
  go_wp2
  go_ret2
  exact⟨⟨_,6,rfl,by decide,by decide,by decide⟩,f1⟩
 ·have g1:¬ ((100:Int)<u.size):=by omega
  go_wp2
  go_ret2
  exact⟨⟨u,0,rfl,by omega,by decide,by decide⟩,f1⟩
end Go.Proofs.YtgpamchpeamnfaaGreatDoor
