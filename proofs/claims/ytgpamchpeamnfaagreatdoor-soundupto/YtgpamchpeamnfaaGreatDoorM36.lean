/-
  Texts Dd.
-/
import Derived.Deep.RegionHeld
import Derived.Deep.CutRange
import Derived.Test.YtgpamchpeamnfaaGreatDoorMA
import Derived.Test.YtgpamchpeamnfaaGreatDoorM00
import Derived.Test.YtgpamchpeamnfaaGreatDoorM35
set_option linter.unusedSimpArgs false
set_option linter.unusedVariables false
set_option maxRecDepth 100000
set_option maxHeartbeats 40000000
open _root_.Go.Proofs.Tryz
namespace Go.Proofs.YtgpamchpeamnfaaGreatDoor
open Go.RowKit
open Wire Flow Mach
theorem aXx (N S ba:Nat)(eS:(N+1)*(N+1)=S)(hN:N≤1048576)(w:World)(ha:BoS w ba S):Calls prog 181 #[rlV N ba S] w (aAr N S w):=by
 have hm:prog.follows Departure.mixedOrders=true:=by kernel_rfl
 obtain⟨hS0,hS9⟩:=iX eS hN
 have la:=ha.lt hS0
 have Hsa:Hid _:=aTp N S eS hN
 have Hei:Hid _:=fun (bb:Nat) (W:World) (h1:BoS W ba S) (h2:BoS W bb S)=>T7 N S ba bb eS hN W h1 h2
 have Hp:Hid _:=fun (b i k:Nat) (W:World) (h:BoS W b S) (hi:i≤N) (hk:k≤N)=>aNl N S b i k W h eS hN hi hk
 have Ha:Hid _:=fun (b i k:Nat) (W:World) (h:BoS W b S) (hi:i≤N) (hk:k≤N)=>bDg N S b i k W h eS hN hi hk
 clear eS
 obtain⟨W0,hW0⟩:=eX ((w.alloc (.cells #[.int .i64 N,.slice (some ⟨ba,0,none⟩) S S] 210)).alloc (.cells #[.int .i64 0,.slice none 0 0] 210))
 have I0:RJ w W0 S [ba] [(w.heap.size+1,.int .i64 0,.slice none 0 0),(w.heap.size,.int .i64 N,.slice (some ⟨ba,0,none⟩) S S)]:=by
  have:=((RJ.init w (rs:=[ba]) (S:=S) (by simpa using ha)).new hS0 (.int .i64 N) (.slice (some ⟨ba,0,none⟩) S S)).new hS0 (.int .i64 0) (.slice none 0 0)
  rw[World.size_alloc,hW0] at this
  exact this
 have hs0:W0.heap.size=w.heap.size+1+1:=by rw[← hW0];simp
 obtain⟨RJJ,hRJ⟩:∃ R:Nat→Nat→World→Prop,R=fun b c wr=>w.heap.size+1<b∧w.heap.size+1<c∧b≠c∧RJ w wr S [b,ba] [(c,.int .i64 N,.slice (some ⟨b,0,none⟩) S S),(w.heap.size+1,.int .i64 0,.slice none 0 0),(w.heap.size,.int .i64 N,.slice (some ⟨ba,0,none⟩) S S)]:=⟨_,rfl⟩
 have HJ:Hid (∀ b c wr,RJJ b c wr→w.heap.size+1<b∧w.heap.size+1<c∧b≠c∧RJ w wr S [b,ba] [(c,.int .i64 N,.slice (some ⟨b,0,none⟩) S S),(w.heap.size+1,.int .i64 0,.slice none 0 0),(w.heap.size,.int .i64 N,.slice (some ⟨ba,0,none⟩) S S)]):=fun b c wr h=>by rw[hRJ] at h;exact h
 have HC:Hid (∀ b c wr w',RJJ b c wr→Fr [] wr w'→RJJ b c w'):=fun b c wr w' h hf=>by rw[hRJ] at h ⊢;exact⟨h.1,h.2.1,h.2.2.1,h.2.2.2.call hS0 hf⟩
 have HP:Hid (∀ b c wr w',RJJ b c wr→Fr [b] wr w'→(∀ g,BoS wr g S→BoS w' g S)→RJJ b c w'):=fun b c wr w' h hf hk=>by
  rw[hRJ] at h ⊢
  obtain⟨h1,h2,h3,h4⟩:=h
  exact⟨h1,h2,h3,h4.put (b:=b) (by omega) (by simp;omega) hf hk⟩
 have HB:Hid (∀ (b c:Nat) (V:World),RJ w V S [b,ba] [(c,.int .i64 0,.slice none 0 0),(w.heap.size+1,.int .i64 0,.slice none 0 0),(w.heap.size,.int .i64 N,.slice (some ⟨ba,0,none⟩) S S)]→w.heap.size+1<b→w.heap.size+1<c→b≠c→RJJ b c ((V.setCell ⟨c,0,none⟩ (.int .i64 N)).setCell ⟨c,1,none⟩ (.slice (some ⟨b,0,none⟩) S S))):=fun b c V h h1 h2 h3=>by
  rw[hRJ]
  exact⟨h1,h2,h3,h.set2 hS0 (by omega) (by simp;omega) (by simp;omega) _ _⟩
 have HB2:Hid (∀ (b c:Nat) (V:World),RJ w V S [b,ba] [(c,.int .i64 N,.slice (some ⟨b,0,none⟩) S S),(w.heap.size+1,.int .i64 0,.slice none 0 0),(w.heap.size,.int .i64 N,.slice (some ⟨ba,0,none⟩) S S)]→w.heap.size+1<b→w.heap.size+1<c→b≠c→RJJ b c V):=fun b c V h h1 h2 h3=>by
  rw[hRJ]
  exact⟨h1,h2,h3,h⟩
 clear hRJ
 have hl0:=(I0.o (w.heap.size,.int .i64 N,.slice (some ⟨ba,0,none⟩) S S) (by simp))
 have t0:=hl0.c0
 have t1:=hl0.c1
 have HI:Hid _:=I0
 clear I0 hl0
 go_enter func181,ntmps181
 go_upto_region 1 with fail
 clear hW0
 go_cut[3] from 7 (fun s3 wx=>∃ b c,s3=.pointer (some ⟨c,0,none⟩)∧RJJ b c wx)
 case first=>
  refine aE (fun w1=>w1.cell? ⟨w.heap.size,0,none⟩=some (.int .i64 N)∧w1.cell? ⟨w.heap.size,1,none⟩=some (.slice (some ⟨ba,0,none⟩) S S)) hm ?_
  have hS:(fun w1:World=>w1.cell? ⟨w.heap.size,0,none⟩=some (.int .i64 N)∧w1.cell? ⟨w.heap.size,1,none⟩=some (.slice (some ⟨ba,0,none⟩) S S)) W0.drew:=⟨t0,t1⟩
  refine aH (fun _ _ _ _ _ h=>h) hS [0,1,2] (by kernel_rfl) ?_
  iterate 3
   refine Yls.cons (v:=?_) rfl (.inl ⟨rfl,fun w1 hS1=>?_⟩) ?_
   rotate_left
   ·obtain⟨s0,s1⟩:=hS1
    go_simp
    rfl
   simp only[Act.put,Z1,Z2,Z3]
  refine Yls.nil ?_
  have I1:=HI.out.call hS0 ((Fr.refl [] W0).drew)
  have hs1:W0.drew.heap.size=w.heap.size+1+1:=hs0
  clear HI hs0 t0 t1
  generalize W0.drew=W1 at *
  have ho:∀ V,RJ w V S [ba] [(w.heap.size+1,.int .i64 0,.slice none 0 0),(w.heap.size,.int .i64 N,.slice (some ⟨ba,0,none⟩) S S)]→V.cell? ⟨w.heap.size,0,none⟩=some (.int .i64 N)∧V.cell? ⟨w.heap.size,1,none⟩=some (.slice (some ⟨ba,0,none⟩) S S):=fun V h=>by
   have:=(h.o (w.heap.size,.int .i64 N,.slice (some ⟨ba,0,none⟩) S S) (by simp))
   exact⟨this.c0,this.c1⟩
  have dr:∀ {a b c:World},Fr [] a b→Fr [] b c→Fr [] a c:=fun h1 h2=>h1.trans h2
  refine wpAnyH_ready (rs:=[3,5]) (by kernel_rfl) (by simp) ?_
  refine AllReadyH.cons rfl (fun K hK=>?_) ?_
  ·go_simp
   refine (Hsa.out _).mono ?_
   rintro e V1 ⟨bs,hbs,rfl,hrs,fs⟩
   have J1:=I1.call hS0 fs
   have z1:=fs.size
   refine hK _ _ (ho _ J1) ?_
   clear hK K
   intro _
   refine wpAnyH_ready (rs:=[4,5]) (by kernel_rfl) (by simp) ?_
   refine AllReadyH.cons rfl (fun K hK=>?_) ?_
   ·go_simp
    refine (Hei.out bs V1 (J1.r ba (by simp)) hrs).mono ?_
    rintro e V2 ⟨b,hb,rfl,hr2,f2⟩
    have J2:=J1.call hS0 f2
    refine hK _ _ (ho _ J2) ?_
    clear hK K
    intro _
    refine rd1 (r:=5) (by kernel_rfl) rfl fun K hK=>?_
    go_simp
    have bl:=hr2.lt hS0
    have J3:=(J2.add hr2).new hS0 (.int .i64 0) (.slice none 0 0)
    have oc:=J3.o _ (List.mem_cons_self ..)
    refine hK _ _ (ho _ (J2.call hS0 ((Fr.refl [] V2).alloc _))) ?_
    clear hK K
    intro _
    refine rd1 (r:=6) (by kernel_rfl) rfl fun K hK=>?_
    have k0:=oc.c0
    have k1:=oc.c1
    have k2:=oc.z0
    have k3:=oc.z1
    obtain⟨x1,x2,-,-,-⟩:=rG oc (.int .i64 N) (.slice (some ⟨b,0,none⟩) S S)
    have JJ:=HB2.out b V2.heap.size _ ((J2.add hr2).new hS0 (.int .i64 N) (.slice (some ⟨b,0,none⟩) S S)) (by omega) (by omega) (by omega)
    clear J1 J2 J3 oc I1 hrs hr2 fs f2
    go_simp
    have Q:=(HJ.out _ _ _ JJ).2.2.2.o (w.heap.size,.int .i64 N,.slice (some ⟨ba,0,none⟩) S S) (by simp)
    refine hK _ _ ⟨Q.c0,Q.c1⟩ ?_
    clear hK K
    intro _
    refine wpAnyH_done (by kernel_rfl) ?_ _
    go_wp2
    go_meet
    exact⟨b,_,rfl,JJ⟩
   ·refine AllReadyH.cons rfl (fun K hK=>?_) AllReadyH.nil
    go_simp
    have bl1:=hrs.lt hS0
    have fa:Fr [] V1 (V1.alloc (Obj.cells #[Value.int IntKind.i64 0,Value.slice none 0 0] 210)):=(Fr.refl [] _).alloc _
    have J3:=J1.new hS0 (.int .i64 0) (.slice none 0 0)
    refine hK _ _ (ho _ (J1.call hS0 fa)) ?_
    clear hK K
    intro _
    refine rd1 (r:=4) (by kernel_rfl) rfl fun K hK=>?_
    go_simp
    refine (Hei.out bs _ (J3.r ba (by simp)) (hrs.fr hS0 fa (by simp))).mono ?_
    rintro e V2 ⟨b,hb,rfl,hr2,f2⟩
    have J4:=J3.call hS0 f2
    have bl:=hr2.lt hS0
    rw[World.size_alloc] at hb
    refine hK _ _ (ho _ ((J1.call hS0 fa).call hS0 f2)) ?_
    clear hK K
    intro _
    refine rd1 (r:=6) (by kernel_rfl) rfl fun K hK=>?_
    have oc:=J4.o _ (List.mem_cons_self ..)
    have k0:=oc.c0
    have k1:=oc.c1
    have k2:=oc.z0
    have k3:=oc.z1
    obtain⟨x1,x2,-,-,-⟩:=rG oc (.int .i64 N) (.slice (some ⟨b,0,none⟩) S S)
    have JJ:=HB.out b V1.heap.size _ (J4.add hr2) (by omega) (by omega) (by omega)
    clear J1 J3 J4 oc I1 hrs hr2 fs f2
    go_simp
    have Q:=(HJ.out _ _ _ JJ).2.2.2.o (w.heap.size,.int .i64 N,.slice (some ⟨ba,0,none⟩) S S) (by simp)
    refine hK _ _ ⟨Q.c0,Q.c1⟩ ?_
    clear hK K
    intro _
    refine wpAnyH_done (by kernel_rfl) ?_ _
    go_wp2
    go_meet
    exact⟨b,_,rfl,JJ⟩
  ·refine AllReadyH.cons rfl (fun K hK=>?_) AllReadyH.nil
   go_simp
   have fa:Fr [] W1 (W1.alloc (Obj.cells #[Value.int IntKind.i64 0,Value.slice none 0 0] 210)):=(Fr.refl [] _).alloc _
   have J3:=I1.new hS0 (.int .i64 0) (.slice none 0 0)
   rw[hs1] at J3
   refine hK _ _ (ho _ (I1.call hS0 fa)) ?_
   clear hK K
   intro _
   refine rd1 (r:=3) (by kernel_rfl) rfl fun K hK=>?_
   go_simp
   refine (Hsa.out _).mono ?_
   rintro e V1 ⟨bs,hbs,rfl,hrs,fs⟩
   have J4:=J3.call hS0 fs
   have z1:=fs.size
   rw[World.size_alloc] at z1
   refine hK _ _ (ho _ ((I1.call hS0 fa).call hS0 fs)) ?_
   clear hK K
   intro _
   refine rd1 (r:=4) (by kernel_rfl) rfl fun K hK=>?_
   go_simp
   refine (Hei.out bs V1 (J4.r ba (by simp)) hrs).mono ?_
   rintro e V2 ⟨b,hb,rfl,hr2,f2⟩
   have J5:=J4.call hS0 f2
   refine hK _ _ (ho _ (((I1.call hS0 fa).call hS0 fs).call hS0 f2)) ?_
   clear hK K
   intro _
   refine rd1 (r:=6) (by kernel_rfl) rfl fun K hK=>?_
   have oc:=J5.o _ (List.mem_cons_self ..)
   have k0:=oc.c0
   have k1:=oc.c1
   have k2:=oc.z0
   have k3:=oc.z1
   obtain⟨x1,x2,-,-,-⟩:=rG oc (.int .i64 N) (.slice (some ⟨b,0,none⟩) S S)
   have JJ:=HB.out b _ _ (J5.add hr2) (by omega) (by omega) (by omega)
   clear J3 J4 J5 oc I1 hrs hr2 fs f2
   go_simp
   have Q:=(HJ.out _ _ _ JJ).2.2.2.o (w.heap.size,.int .i64 N,.slice (some ⟨ba,0,none⟩) S S) (by simp)
   refine hK _ _ ⟨Q.c0,Q.c1⟩ ?_
   clear hK K
   intro _
   refine wpAnyH_done (by kernel_rfl) ?_ _
   go_wp2
   go_meet
   exact⟨b,_,rfl,JJ⟩
 case rest=>
  obtain⟨b,c,rfl,J0⟩:=hcut
  clear Hsa Hei HI t0 t1 HB HB2
  go_wp2
  go_loopw [4] (fun i wr=>∃ I:Nat,I≤N+1∧i=.int .i64 I∧RJJ b c wr) (fun i _=>N+1-(intOf i).toNat)
  case atStart=>exact⟨0,by omega,rfl,J0⟩
  case round=>
   clear J0
   obtain⟨k,hI,rfl,J⟩:=hrel
   obtain⟨hb1,hc1,hne,J1⟩:=HJ.out _ _ _ J
   have a0:=(J1.o (w.heap.size,.int .i64 N,.slice (some ⟨ba,0,none⟩) S S) (by simp)).c0
   by_cases hlt:k≤N
   ·have g1:(k:Int)≤N:=by omega
    clear J1
    go_wp2
    clear a0
    go_loopw [5] (fun i wr=>∃ K:Nat,K≤k+1∧i=.int .i64 K∧RJJ b c wr) (fun i _=>k+1-(intOf i).toNat)
    case atStart=>exact⟨0,by omega,rfl,J⟩
    case round=>
     clear J
     obtain⟨K,hK,rfl,J⟩:=hrel
     have J1:=(HJ.out _ _ _ J).2.2.2
     have oc:=J1.o _ (List.mem_cons_self ..)
     have a0:=oc.c0
     have a1:=oc.c1
     by_cases hlt2:K≤k
     ·have g2:(K:Int)≤k:=by omega
      have hat:=Ha.out b K k wr (J1.r b (by simp)) (by omega) hlt
      clear J1 oc
      go_wp2_with fail
      refine hat.mono ?_
      rintro e w3 ⟨⟨v,rfl⟩,f3⟩
      have J3:=HC.out _ _ _ _ J f3
      clear hat J f3 a0 a1
      cases v with
      | false=>
       go_wp2
       exact⟨⟨K+1,by omega,by go_num,J3⟩,by simp[intOf];omega⟩
      | true=>
       go_wp2
       go_loopw [6] (fun i wr=>∃ L:Nat,k≤L∧L≤N+1∧i=.int .i64 L∧RJJ b c wr) (fun i _=>N+1-(intOf i).toNat)
       case atStart=>exact⟨k,by omega,by omega,rfl,J3⟩
       case round=>
        clear J3
        obtain⟨L,hKL,hL,rfl,J⟩:=hrel
        have J1:=(HJ.out _ _ _ J).2.2.2
        have oc:=J1.o _ (List.mem_cons_self ..)
        have a0:=(J1.o (w.heap.size,.int .i64 N,.slice (some ⟨ba,0,none⟩) S S) (by simp)).c0
        have d0:=oc.c0
        have d1:=oc.c1
        by_cases hlt3:L≤N
        ·have g3:(L:Int)≤N:=by omega
         have hat:=Ha.out b k L wr (J1.r b (by simp)) hlt hlt3
         clear J1 oc
         go_wp2_with fail
         refine hat.mono ?_
         rintro e w4 ⟨⟨v,rfl⟩,f4⟩
         have J4:=HC.out _ _ _ _ J f4
         clear hat J f4 a0 d0 d1
         cases v with
         | false=>
          go_wp2
          exact⟨⟨L+1,by omega,by omega,by go_num,J4⟩,by simp[intOf];omega⟩
         | true=>
          have J5:=(HJ.out _ _ _ J4).2.2.2
          have oc:=J5.o _ (List.mem_cons_self ..)
          have hput:=Hp.out b K L w4 (J5.r b (by simp)) (by omega) hlt3
          have d0:=oc.c0
          have d1:=oc.c1
          clear J5 oc
          go_wp2_with fail
          refine hput.mono ?_
          rintro e w5 ⟨rfl,f5,k5⟩
          have J6:=HP.out _ _ _ _ J4 f5 k5
          clear J4 hput f5 k5 d0 d1
          go_wp2
          exact⟨⟨L+1,by omega,by omega,by go_num,J6⟩,by simp[intOf];omega⟩
        ·have g3:¬ ((L:Int)≤N):=by omega
         clear J1 oc
         go_wp2
         exact⟨⟨K+1,by omega,by go_num,J⟩,by simp[intOf];omega⟩
     ·have g2:¬ ((K:Int)≤k):=by omega
      clear J1 oc
      go_wp2
      exact⟨⟨k+1,by omega,by go_num,J⟩,by simp[intOf];omega⟩
   ·have g1:¬ ((k:Int)≤N):=by omega
    have oc:=J1.o _ (List.mem_cons_self ..)
    have p0:=oc.c0
    have p1:=oc.c1
    have or:=J1.o (w.heap.size+1,.int .i64 0,.slice none 0 0) (by simp)
    have r0:=or.c0
    have r1:=or.c1
    have q0:=or.z0
    have q1:=or.z1
    obtain⟨x1,x2,x3,x4,ff⟩:=rG or (.int .i64 N) (.slice (some ⟨b,0,none⟩) S S)
    have HZ:Hid _:=AI ((J1.r b (by simp)).fr hS0 ff (by simp;omega)) (J1.fr.trans' ff (by simp))
    clear oc or J J1 ff HJ HC HP Ha Hp
    go_wp2
    exact bodyPost_ret (v:=rlV N b S) (by simp[results,results181,go_sem,x3,x4]) rfl ⟨b,by omega,rfl,HZ.out⟩
def aZv (n:Nat):Prop:=∀ (t x:ByteArray) (S:Nat),t.size<n→t.size≤50→x.size≤1048576→(x.size+1)*(x.size+1)=S→nU t→∀ w,Calls prog 147 #[.string t,.string x] w (aAr x.size S w)
theorem bDf (n:Nat)(hC:aZv n)(t x:ByteArray)(S:Nat)(hn:t.size≤n)(ht:t.size≤50)(hx:x.size≤1048576)(eS:(x.size+1)*(x.size+1)=S)(h:aXb t)(w:World):Calls prog 180 #[.string t,.string x] w (aAr x.size S w):=by
 have hS0:=(iX eS hx).1
 have h0:=h.p
 have g0:(0:Int)<t.size:=by omega
 by_cases h40:aO t 0=40
 ·have b1:(t[0].toNat:Int)=40:=by rw[qW h0];omega
  obtain⟨h2,hP⟩:=h.grp h40
  have us:(t.extract 1 (t.size-1)).size=t.size-1-1:=by rw[ByteArray.size_extract];omega
  have Hc:Hid _:=hC (t.extract 1 (t.size-1)) x S (by omega) (by omega) hx eS hP
  have g3:(1:Int)≤(t.size:Int)-1:=by omega
  clear us hP h eS hC
  go_enter func180,ntmps180
  go_wp2_with fail
  refine (Hc.out _).mono ?_
  rintro e w1 ⟨b,hb,rfl,hr,f1⟩
  rw[World.size_alloc] at hb
  have J:=((RJ.init w (rs:=[]) (S:=S) (by simp)).new hS0 (.int .i64 0) (.slice none 0 0)).call hS0 f1
  have or:=J.o _ (List.mem_cons_self ..)
  have r0:=or.c0
  have r1:=or.c1
  have q0:=or.z0
  have q1:=or.z1
  obtain⟨x1,x2,x3,x4,ff⟩:=rG or (.int .i64 x.size) (.slice (some ⟨b,0,none⟩) S S)
  have HZ:Hid _:=AI (hr.fr hS0 ff (by simp;omega)) (J.fr.trans' ff (by simp))
  clear or J ff hr f1 Hc
  go_wp2
  exact bodyPost_ret (v:=rlV x.size b S) (by simp[results,results180,go_sem,x3,x4]) rfl ⟨b,by omega,rfl,HZ.out⟩
 ·have n40:=fO h0 h40
  have Hn:Hid _:=O1 x.size S eS hx
  have Hp:Hid _:=fun (b i j:Nat) (W:World) (h:BoS W b S) (hi:i≤x.size) (hj:j≤x.size)=>aNl x.size S b i j W h eS hx hi hj
  have Ho:Hid _:=fun (c:Nat) (hc:c<256) (W:World)=>bEz t c hc ht h W
  clear eS hC h
  have Fin:Hid (∀ (b c:Nat) (W:World),w.heap.size<b→RJ w W S [b] [(c,.int .i64 x.size,.slice (some ⟨b,0,none⟩) S S),(w.heap.size,.int .i64 0,.slice none 0 0)]→(W.cell? ⟨w.heap.size,0,none⟩=some (.int .i64 0)∧W.cell? ⟨w.heap.size,1,none⟩=some (.slice none 0 0)∧W.frozen? ⟨w.heap.size,0,none⟩=false∧W.frozen? ⟨w.heap.size,1,none⟩=false)∧(W.setCell ⟨w.heap.size,0,none⟩ (.int .i64 x.size)).cell? ⟨w.heap.size,1,none⟩=some (.slice none 0 0)∧(W.setCell ⟨w.heap.size,0,none⟩ (.int .i64 x.size)).frozen? ⟨w.heap.size,1,none⟩=false∧((W.setCell ⟨w.heap.size,0,none⟩ (.int .i64 x.size)).setCell ⟨w.heap.size,1,none⟩ (.slice (some ⟨b,0,none⟩) S S)).cell? ⟨w.heap.size,0,none⟩=some (.int .i64 x.size)∧((W.setCell ⟨w.heap.size,0,none⟩ (.int .i64 x.size)).setCell ⟨w.heap.size,1,none⟩ (.slice (some ⟨b,0,none⟩) S S)).cell? ⟨w.heap.size,1,none⟩=some (.slice (some ⟨b,0,none⟩) S S)∧Hid (aAr x.size S w (.returned (rlV x.size b S)) ((W.setCell ⟨w.heap.size,0,none⟩ (.int .i64 x.size)).setCell ⟨w.heap.size,1,none⟩ (.slice (some ⟨b,0,none⟩) S S)))):=fun b c W hb J=>by
   have or:=J.o (w.heap.size,.int .i64 0,.slice none 0 0) (by simp)
   obtain⟨x1,x2,x3,x4,ff⟩:=rG or (.int .i64 x.size) (.slice (some ⟨b,0,none⟩) S S)
   exact⟨⟨or.c0,or.c1,or.z0,or.z1⟩,x1,x2,x3,x4,b,by omega,rfl,(J.r b (by simp)).fr hS0 ff (by simp;omega),J.fr.trans' ff (by simp)⟩
  have Beg:Hid (∀ (b:Nat) (w1:World),BoS w1 b S→Fr [] (w.alloc (.cells #[.int .i64 0,.slice none 0 0] 210)) w1→RJ w (w1.alloc (.cells #[.int .i64 x.size,.slice (some ⟨b,0,none⟩) S S] 210)) S [b] [(w1.heap.size,.int .i64 x.size,.slice (some ⟨b,0,none⟩) S S),(w.heap.size,.int .i64 0,.slice none 0 0)]):=fun b w1 hr f1=>((((RJ.init w (rs:=[]) (S:=S) (by simp)).new hS0 (.int .i64 0) (.slice none 0 0)).call hS0 f1).add hr).new hS0 (.int .i64 x.size) (.slice (some ⟨b,0,none⟩) S S)
  by_cases hq:t=⟨#[94]⟩∨t=⟨#[36]⟩
  ·clear Ho n40 h40 g0 h0 ht hn
   rcases hq with rfl | rfl
   ·skip
    go_enter func180,ntmps180
    go_wp2_with fail
    refine (Hn.out _).mono ?_
    rintro e w1 ⟨b,hb,rfl,hr,f1⟩
    rw[World.size_alloc] at hb
    have J:=Beg.out b w1 hr f1
    have bl:=hr.lt hS0
    clear hr f1 Hn Beg
    generalize hw2:w1.alloc (.cells #[.int .i64 x.size,.slice (some ⟨b,0,none⟩) S S] 210)=w2 at J
    generalize hc:w1.heap.size=c at J bl
    have oc:=J.o _ (List.mem_cons_self ..)
    have a0:=oc.c0
    have a1:=oc.c1
    have hput:=Hp.out b 0 0 w2 (J.r b (by simp)) (by omega) (by omega)
    clear oc
    go_wp2_with fail
    refine hput.mono ?_
    rintro e w3 ⟨rfl,f3,k3⟩
    have J3:=J.put (b:=b) (by omega) (by simp;omega) f3 k3
    obtain⟨⟨c0,c1,z0,z1⟩,x1,x2,x3,x4,Z⟩:=Fin.out b c w3 (by omega) J3
    have oc:=J3.o _ (List.mem_cons_self ..)
    have a0:=oc.c0
    have a1:=oc.c1
    clear hput f3 k3 J J3 oc hw2 hc Fin Hp
    go_wp2
    exact bodyPost_ret (v:=rlV x.size b S) (by simp[results,results180,go_sem,x3,x4]) rfl Z.out
   ·skip
    go_enter func180,ntmps180
    go_wp2_with fail
    refine (Hn.out _).mono ?_
    rintro e w1 ⟨b,hb,rfl,hr,f1⟩
    rw[World.size_alloc] at hb
    have J:=Beg.out b w1 hr f1
    have bl:=hr.lt hS0
    clear hr f1 Hn Beg
    generalize hw2:w1.alloc (.cells #[.int .i64 x.size,.slice (some ⟨b,0,none⟩) S S] 210)=w2 at J
    generalize hc:w1.heap.size=c at J bl
    have oc:=J.o _ (List.mem_cons_self ..)
    have a0:=oc.c0
    have a1:=oc.c1
    have hput:=Hp.out b x.size x.size w2 (J.r b (by simp)) (by omega) (by omega)
    clear oc
    go_wp2_with fail
    refine hput.mono ?_
    rintro e w3 ⟨rfl,f3,k3⟩
    have J3:=J.put (b:=b) (by omega) (by simp;omega) f3 k3
    obtain⟨⟨c0,c1,z0,z1⟩,x1,x2,x3,x4,Z⟩:=Fin.out b c w3 (by omega) J3
    have oc:=J3.o _ (List.mem_cons_self ..)
    have a0:=oc.c0
    have a1:=oc.c1
    clear hput f3 k3 J J3 oc hw2 hc Fin Hp
    go_wp2
    exact bodyPost_ret (v:=rlV x.size b S) (by simp[results,results180,go_sem,x3,x4]) rfl Z.out
  ·have n1:(t.toList==(ByteArray.mk #[94]).toList)=false:=by rw[aEj];exact decide_eq_false (fun e=>hq (.inl e))
   have n2:(t.toList==(ByteArray.mk #[36]).toList)=false:=by rw[aEj];exact decide_eq_false (fun e=>hq (.inr e))
   rw[show (ByteArray.mk #[94]).toList=[94] by rw[ByteArray.toList_eq]] at n1
   rw[show (ByteArray.mk #[36]).toList=[36] by rw[ByteArray.toList_eq]] at n2
   clear hq
   go_enter func180,ntmps180
   go_wp2_with fail
   refine (Hn.out _).mono ?_
   rintro e w1 ⟨b,hb,rfl,hr,f1⟩
   rw[World.size_alloc] at hb
   have J0:=Beg.out b w1 hr f1
   have bl:=hr.lt hS0
   clear hr f1 Hn Beg
   generalize hw2:w1.alloc (.cells #[.int .i64 x.size,.slice (some ⟨b,0,none⟩) S S] 210)=w2 at J0
   generalize hc:w1.heap.size=c at J0 bl
   go_wp2
   clear hw2 hc n1 n2 n40
   go_loopw [6] (fun v wr=>∃ k:Nat,k≤x.size∧v=.int .i64 k∧RJ w wr S [b] [(c,.int .i64 x.size,.slice (some ⟨b,0,none⟩) S S),(w.heap.size,.int .i64 0,.slice none 0 0)]) (fun v _=>x.size-(intOf v).toNat)
   case atStart=>exact⟨0,by omega,rfl,J0⟩
   case round=>
    clear J0
    obtain⟨k,hk,rfl,J⟩:=hrel
    have oc:=J.o _ (List.mem_cons_self ..)
    have a0:=oc.c0
    have a1:=oc.c1
    by_cases hlt:k<x.size
    ·have g2:(k:Int)<x.size:=by omega
     have hone:=Ho.out x[k].toNat x[k].toNat_lt wr
     have hput:=Hp.out b k (k+1) wr (J.r b (by simp)) (by omega) (by omega)
     rw[show ((k+1:Nat):Int)=(k:Int)+1 by omega] at hput
     clear oc
     go_wp2_with fail
     refine hone.mono ?_
     rintro e w3 ⟨⟨v,rfl⟩,hw3⟩
     replace hw3:=hw3.symm
     subst hw3
     clear hone
     cases v
     ·go_wp2
      exact⟨⟨k+1,by omega,by go_num,J⟩,by simp[intOf];omega⟩
     ·go_wp2_with fail
      refine hput.mono ?_
      rintro e w4 ⟨rfl,f4,k4⟩
      have J2:=J.put (b:=b) (by omega) (by simp;omega) f4 k4
      clear J hput f4 k4 a0 a1
      go_wp2
      exact⟨⟨k+1,by omega,by go_num,J2⟩,by simp[intOf];omega⟩
    ·have g2:¬ ((k:Int)<x.size):=by omega
     obtain⟨⟨c0,c1,z0,z1⟩,x1,x2,x3,x4,Z⟩:=Fin.out b c wr (by omega) J
     clear J oc Hp Ho Fin
     go_wp2
     exact bodyPost_ret (v:=rlV x.size b S) (by simp[results,results180,go_sem,x3,x4]) rfl Z.out
end Go.Proofs.YtgpamchpeamnfaaGreatDoor
