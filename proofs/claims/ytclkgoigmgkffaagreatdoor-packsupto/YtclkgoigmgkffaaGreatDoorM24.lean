/-
  Texts Gm.
-/
import Derived.Test.YtclkgoigmgkffaaGreatDoorM22
import Derived.Test.YtclkgoigmgkffaaGreatDoorM23
import Derived.Test.YtclkgoigmgkffaaGreatDoorM02
set_option linter.unusedSimpArgs false
set_option linter.unusedVariables false
set_option maxRecDepth 100000
set_option maxHeartbeats 40000000
namespace Go.Proofs.YtclkgoigmgkffaaGreatDoor
open Go.RowKit
open Wire
theorem RfO.start {w:World}{r:Nat}{b:ByteArray} (h:w.heap[r]?=some (.cells #[.string b,.int .i64 0,.int .i64 0,.int .i64 0,.int .i64 0] 109)):RfO w r b (.inr (0,b.size)) 0 0:=by
 have hc:∀ i,w.cell? ⟨r,i,none⟩=(#[.string b,.int .i64 0,.int .i64 0,.int .i64 0,.int .i64 0]:Array Value)[i]?:=fun i=>by unfold World.cell?;rw[h];simp
 have hz:∀ i,w.frozen? ⟨r,i,none⟩=false:=fun i=>by unfold World.frozen?;rw[h];simp
 have hL:=bl_length b
 exact⟨⟨hc 0,hc 1,hc 2,hc 3,hc 4,hz 1,hz 2,hz 3,hz 4⟩,⟨Nat.zero_le _,Nat.le_of_eq hL.symm⟩,fun x hx=>(by cases hx;exact⟨rfl,rfl⟩),Nat.zero_le _,Nat.zero_le _⟩
theorem RfO.end_ {w:World}{r:Nat}{b:ByteArray}{s:Sta}{a e:Nat} (h:RfO w r b s a e):∀ p,s=.inr p→p.2=b.size:=fun p hp=>(h.at_ p hp).2
theorem unpackRf_short (b:ByteArray) (w:World) (hs:b.size≤40000):Calls Tryz.prog 23 #[.string b] w (UnpackPost b w):=by
 have hm:Tryz.prog.follows Departure.mixedOrders=true:=by kernel_rfl
 have hL:=bl_length b
 have hU:unpack ipF (bl b)=unpackR ipF (bl b):=by unfold unpack;rw[if_neg (by omega)]
 have HU:Hid _:=hU
 have g1:¬ (b.size:Int)>40000:=by omega
 have F0:Fr [] w (((w.alloc (.cells #[.slice none 0 0,.slice none 0 0,.int .i64 0,.int .i64 0,.slice none 0 0] 30)).alloc (.cells #[.slice none 0 0,.slice none 0 0,.int .i64 0,.int .i64 0,.slice none 0 0] 30)).alloc (.cells #[.string b,.int .i64 0,.int .i64 0,.int .i64 0,.int .i64 0] 109)):=(((Fr.refl [] w).alloc _).alloc _).alloc _
 have hr0:(((w.alloc (.cells #[.slice none 0 0,.slice none 0 0,.int .i64 0,.int .i64 0,.slice none 0 0] 30)).alloc (.cells #[.slice none 0 0,.slice none 0 0,.int .i64 0,.int .i64 0,.slice none 0 0] 30)).alloc (.cells #[.string b,.int .i64 0,.int .i64 0,.int .i64 0,.int .i64 0] 109)).heap[w.heap.size+1+1]?=some (.cells #[.string b,.int .i64 0,.int .i64 0,.int .i64 0,.int .i64 0] 109):=by
  have:=World.alloc_heap_new ((w.alloc (.cells #[.slice none 0 0,.slice none 0 0,.int .i64 0,.int .i64 0,.slice none 0 0] 30)).alloc (.cells #[.slice none 0 0,.slice none 0 0,.int .i64 0,.int .i64 0,.slice none 0 0] 30)) (.cells #[.string b,.int .i64 0,.int .i64 0,.int .i64 0,.int .i64 0] 109)
  rw[World.size_alloc,World.size_alloc] at this
  exact this
 have hm0:(((w.alloc (.cells #[.slice none 0 0,.slice none 0 0,.int .i64 0,.int .i64 0,.slice none 0 0] 30)).alloc (.cells #[.slice none 0 0,.slice none 0 0,.int .i64 0,.int .i64 0,.slice none 0 0] 30)).alloc (.cells #[.string b,.int .i64 0,.int .i64 0,.int .i64 0,.int .i64 0] 109)).heap[w.heap.size+1]?=some (.cells #[.slice none 0 0,.slice none 0 0,.int .i64 0,.int .i64 0,.slice none 0 0] 30):=by
  have:=World.alloc_heap_new (w.alloc (.cells #[.slice none 0 0,.slice none 0 0,.int .i64 0,.int .i64 0,.slice none 0 0] 30)) (.cells #[.slice none 0 0,.slice none 0 0,.int .i64 0,.int .i64 0,.slice none 0 0] 30)
  rw[World.size_alloc] at this
  rw[Below.heap_alloc _ _ _ (by simp),this]
 have hres:(((w.alloc (.cells #[.slice none 0 0,.slice none 0 0,.int .i64 0,.int .i64 0,.slice none 0 0] 30)).alloc (.cells #[.slice none 0 0,.slice none 0 0,.int .i64 0,.int .i64 0,.slice none 0 0] 30)).alloc (.cells #[.string b,.int .i64 0,.int .i64 0,.int .i64 0,.int .i64 0] 109)).heap[w.heap.size]?=some (.cells #[.slice none 0 0,.slice none 0 0,.int .i64 0,.int .i64 0,.slice none 0 0] 30):=by
  rw[Below.heap_alloc _ _ _ (by simp;omega),Below.heap_alloc _ _ _ (by simp),World.alloc_heap_new]
 clear hU
 go_enter Tryz.func23,Tryz.ntmps23
 go_wp2_with fail
 generalize (((w.alloc (.cells #[.slice none 0 0,.slice none 0 0,.int .i64 0,.int .i64 0,.slice none 0 0] 30)).alloc (.cells #[.slice none 0 0,.slice none 0 0,.int .i64 0,.int .i64 0,.slice none 0 0] 30)).alloc (.cells #[.string b,.int .i64 0,.int .i64 0,.int .i64 0,.int .i64 0] 109))=W0 at *
 obtain⟨r,hr⟩:∃ r,w.heap.size+1+1=r:=⟨_,rfl⟩
 obtain⟨mb,hmb⟩:∃ mb,w.heap.size+1=mb:=⟨_,rfl⟩
 rw[hr] at hr0 ⊢
 rw[hmb] at hm0 ⊢
 have hrm:r≠mb:=by omega
 have hwr:w.heap.size<r:=by omega
 have hwm:w.heap.size<mb:=by omega
 clear hr hmb
 have K0:=RfO.start hr0
 have B0:BoxR W0.heap.size r mb none none none none none W0:=BoxR.start hm0 hrm K0.lt
 have hB0:W0.heap.size=W0.heap.size:=rfl
 generalize hBB:W0.heap.size=BB at B0
 have hwB:w.heap.size<BB:=by have:=K0.lt;omega
 clear hr0 hm0 hB0
 obtain⟨s1,k1⟩:∃ x,nextR (needR 71 5) (bl b) (.inr (0,b.size))=x:=⟨_,rfl⟩
 obtain⟨s2,k2⟩:∃ x,nextR (needR 76 5) (bl b) s1=x:=⟨_,rfl⟩
 obtain⟨s3,k3⟩:∃ x,nextR (needR 1 5) (bl b) s2=x:=⟨_,rfl⟩
 have HH:Hid _:=head_next b k1 k2 k3
 refine (headRf_any K0 hs k1 k2 k3).mono ?_
 rintro ee W1 ⟨rfl,⟨a1,K1⟩,G1⟩
 have B1:=B0.fr G1
 have FW1:Fr [] w W1:=F0.trans' G1 (fun x hx=>.inr (by simp at hx;omega))
 have hres1:W1.heap[w.heap.size]?=some (.cells #[.slice none 0 0,.slice none 0 0,.int .i64 0,.int .i64 0,.slice none 0 0] 30):=by rw[G1.block _ (Array.getElem?_eq_some_iff.1 hres).1 (by simp;omega),hres]
 clear K0 B0 F0 hres G1 k1 k2 k3 hBB
 obtain⟨sa1,ka1⟩:∃ x,nextR (needR (UInt8.ofNat 1) 7) (bl b) s3=x:=⟨_,rfl⟩
 obtain⟨sx1,kx1⟩:∃ x,outR numU (bl b) 0 sa1=x:=⟨_,rfl⟩
 obtain⟨sb1,kb1⟩:∃ x,nextR numU (bl b) sa1=x:=⟨_,rfl⟩
 have hop:=openRf_any (k:=1) (kI:=1) rfl (by omega) K1 hs ka1 kx1 kb1
 obtain⟨sr1,sr2⟩:=sect_ref 1 (by omega) (listR (fun _=>true) 100) (listR_tidy _ _) [] b K1.ok K1.end_ ka1 kx1 kb1
 obtain⟨S1,hS1⟩:∃ S,beginS b.size sx1 sa1 sb1=S:=⟨_,rfl⟩
 rw[hS1] at hop sr1 sr2
 obtain⟨t1,q1⟩:∃ t,nextR (fun base l=>sectR 1 base (listR (fun _=>true) 100) l) (bl b) s3=t:=⟨_,rfl⟩
 obtain⟨x1,y1⟩:∃ t,outR (fun base l=>sectR 1 base (listR (fun _=>true) 100) l) (bl b) [] s3=t:=⟨_,rfl⟩
 rw[q1] at sr1 sr2
 rw[y1] at sr2
 have Q1:Hid _:=q1
 have Y1:Hid _:=y1
 have SR:Hid _:=And.intro sr1 sr2
 have OK1:=K1.ok
 clear ka1 kx1 kb1 hS1 q1 y1 sr1 sr2
 go_wp2_with fail
 refine hop.mono ?_
 rintro ee V1 ⟨rfl,⟨va,ve,KV1⟩,GV1⟩
 clear hop
 have BV1:=B1.fr GV1
 have FV1:=FW1.trans' GV1 (fun x hx=>.inr (by simp at hx;omega))
 have RV1:V1.heap[w.heap.size]?=some (.cells #[.slice none 0 0,.slice none 0 0,.int .i64 0,.int .i64 0,.slice none 0 0] 30):=by rw[GV1.block _ (Array.getElem?_eq_some_iff.1 hres1).1 (by simp;omega),hres1]
 clear K1 B1 FW1 hres1 GV1
 have hcall:=textsRf_plain 100 (mI:=100) rfl (by omega) KV1 hs
 go_wp2_with fail
 refine hcall.mono ?_
 rintro ee V2 ⟨⟨v,LL1,rfl,hv,hL1⟩,⟨vb,KV2⟩,GV2⟩
 clear hcall
 have BV2:=BV1.fr GV2
 have FV2:=FV1.trans' GV2 (fun x hx=>.inr (by simp at hx;omega))
 have RV2:V2.heap[w.heap.size]?=some (.cells #[.slice none 0 0,.slice none 0 0,.int .i64 0,.int .i64 0,.slice none 0 0] 30):=by rw[GV2.block _ (Array.getElem?_eq_some_iff.1 RV1).1 (by simp;omega),RV1]
 have hlB:=BV1.lB
 obtain⟨pv,pL,pc,-⟩:=BV2.m0
 have pz:=BV2.fz 0
 have BV3:=BV2.set0 v LL1 (some LL1) (hv.base hlB) (fun X hX=>by cases hX;rfl) (fun v1 g j e0 e1=>by
  obtain⟨v1',L1,j1,j2,-⟩:=BV1.m1
  have j':=(GV2.cell (p:=⟨mb,1,none⟩) BV1.ltm (by simpa using fun e=>BV1.n2 e.symm)).symm.trans j
  rw[j1] at j'
  cases j'
  have:=(j2.own.lt g e1).2
  have:=(hv.own.lt g e0).1
  omega)
 obtain⟨aa,cc,gg,oo,rfl,-⟩:=hv
 have valv:Value:=.bool true
 clear valv
 have P1:Hid ((∃ p,t1=.inr p)→LL1=x1):=fun h=>by obtain⟨z1,z2⟩:=SR.out.2 h;rw[z2];exact hL1 z1
 have KV3:=KV2.fr (fr_set V2 mb 0 (.slice aa LL1.length cc)) (by simpa using hrm)
 have FV3:=FV2.trans' (fr_set V2 mb 0 (.slice aa LL1.length cc)) (fun x hx=>.inr (by simp at hx;omega))
 have RV3:(V2.setCell ⟨mb,0,none⟩ (.slice aa LL1.length cc)).heap[w.heap.size]?=some (.cells #[.slice none 0 0,.slice none 0 0,.int .i64 0,.int .i64 0,.slice none 0 0] 30):=by rw[(fr_set V2 mb 0 (.slice aa LL1.length cc)).block _ (Array.getElem?_eq_some_iff.1 RV2).1 (by simp;omega),RV2]
 have hsh:=shutRf_any KV3 hs
 rw[← SR.out.1] at hsh
 have HSH:Hid _:=hsh
 clear hsh SR BV1 FV1 RV1 BV2 FV2 RV2 KV1 KV2 KV3 GV2 hL1 hlB
 go_wp2_with fail
 refine Calls.mono HSH.out ?_
 rintro ee U1 ⟨rfl,KU1,GU⟩
 have BU1:=BV3.fr GU
 have FU1:=FV3.trans' GU (fun x hx=>.inr (by simp at hx;omega))
 have RU1:U1.heap[w.heap.size]?=some (.cells #[.slice none 0 0,.slice none 0 0,.int .i64 0,.int .i64 0,.slice none 0 0] 30):=by rw[GU.block _ (Array.getElem?_eq_some_iff.1 RV3).1 (by simp;omega),RV3]
 clear HSH BV3 FV3 RV3 GU pc pz
 obtain⟨sa2,ka2⟩:∃ x,nextR (needR (UInt8.ofNat 2) 7) (bl b) t1=x:=⟨_,rfl⟩
 obtain⟨sx2,kx2⟩:∃ x,outR numU (bl b) 0 sa2=x:=⟨_,rfl⟩
 obtain⟨sb2,kb2⟩:∃ x,nextR numU (bl b) sa2=x:=⟨_,rfl⟩
 have hop:=openRf_any (k:=2) (kI:=2) rfl (by omega) KU1 hs ka2 kx2 kb2
 obtain⟨sr1,sr2⟩:=sect_ref 2 (by omega) (listR ipF 50) (listR_tidy _ _) [] b KU1.ok KU1.end_ ka2 kx2 kb2
 obtain⟨S2,hS2⟩:∃ S,beginS b.size sx2 sa2 sb2=S:=⟨_,rfl⟩
 rw[hS2] at hop sr1 sr2
 obtain⟨t2,q2⟩:∃ t,nextR (fun base l=>sectR 2 base (listR ipF 50) l) (bl b) t1=t:=⟨_,rfl⟩
 obtain⟨x2,y2⟩:∃ t,outR (fun base l=>sectR 2 base (listR ipF 50) l) (bl b) [] t1=t:=⟨_,rfl⟩
 rw[q2] at sr1 sr2
 rw[y2] at sr2
 have Q2:Hid _:=q2
 have Y2:Hid _:=y2
 have SR:Hid _:=And.intro sr1 sr2
 skip
 clear ka2 kx2 kb2 hS2 q2 y2 sr1 sr2
 go_wp2_with fail
 refine hop.mono ?_
 rintro ee V1 ⟨rfl,⟨va,ve,KV1⟩,GV1⟩
 clear hop
 have BV1:=BU1.fr GV1
 have FV1:=FU1.trans' GV1 (fun x hx=>.inr (by simp at hx;omega))
 have RV1:V1.heap[w.heap.size]?=some (.cells #[.slice none 0 0,.slice none 0 0,.int .i64 0,.int .i64 0,.slice none 0 0] 30):=by rw[GV1.block _ (Array.getElem?_eq_some_iff.1 RU1).1 (by simp;omega),RU1]
 clear KU1 BU1 FU1 RU1 GV1
 have hcall:=textsRf_pat 50 (mI:=50) rfl (by omega) KV1 hs
 go_wp2_with fail
 refine hcall.mono ?_
 rintro ee V2 ⟨⟨v,LL2,rfl,hv,hL2⟩,⟨vb,KV2⟩,GV2⟩
 clear hcall
 have BV2:=BV1.fr GV2
 have FV2:=FV1.trans' GV2 (fun x hx=>.inr (by simp at hx;omega))
 have RV2:V2.heap[w.heap.size]?=some (.cells #[.slice none 0 0,.slice none 0 0,.int .i64 0,.int .i64 0,.slice none 0 0] 30):=by rw[GV2.block _ (Array.getElem?_eq_some_iff.1 RV1).1 (by simp;omega),RV1]
 have hlB:=BV1.lB
 obtain⟨pv,pL,pc,-⟩:=BV2.m1
 have pz:=BV2.fz 1
 have BV3:=BV2.set1 v LL2 (some LL2) (hv.base hlB) (fun X hX=>by cases hX;rfl) (fun v1 g j e0 e1=>by
  obtain⟨v1',L1,j1,j2,-⟩:=BV1.m0
  have j':=(GV2.cell (p:=⟨mb,0,none⟩) BV1.ltm (by simpa using fun e=>BV1.n2 e.symm)).symm.trans j
  rw[j1] at j'
  cases j'
  have:=(j2.own.lt g e1).2
  have:=(hv.own.lt g e0).1
  omega)
 obtain⟨aa,cc,gg,oo,rfl,-⟩:=hv
 have valv:Value:=.bool true
 clear valv
 have P2:Hid ((∃ p,t2=.inr p)→LL2=x2):=fun h=>by obtain⟨z1,z2⟩:=SR.out.2 h;rw[z2];exact hL2 z1
 have KV3:=KV2.fr (fr_set V2 mb 1 (.slice aa LL2.length cc)) (by simpa using hrm)
 have FV3:=FV2.trans' (fr_set V2 mb 1 (.slice aa LL2.length cc)) (fun x hx=>.inr (by simp at hx;omega))
 have RV3:(V2.setCell ⟨mb,1,none⟩ (.slice aa LL2.length cc)).heap[w.heap.size]?=some (.cells #[.slice none 0 0,.slice none 0 0,.int .i64 0,.int .i64 0,.slice none 0 0] 30):=by rw[(fr_set V2 mb 1 (.slice aa LL2.length cc)).block _ (Array.getElem?_eq_some_iff.1 RV2).1 (by simp;omega),RV2]
 have hsh:=shutRf_any KV3 hs
 rw[← SR.out.1] at hsh
 have HSH:Hid _:=hsh
 clear hsh SR BV1 FV1 RV1 BV2 FV2 RV2 KV1 KV2 KV3 GV2 hL2 hlB
 go_wp2_with fail
 refine Calls.mono HSH.out ?_
 rintro ee U2 ⟨rfl,KU2,GU⟩
 have BU2:=BV3.fr GU
 have FU2:=FV3.trans' GU (fun x hx=>.inr (by simp at hx;omega))
 have RU2:U2.heap[w.heap.size]?=some (.cells #[.slice none 0 0,.slice none 0 0,.int .i64 0,.int .i64 0,.slice none 0 0] 30):=by rw[GU.block _ (Array.getElem?_eq_some_iff.1 RV3).1 (by simp;omega),RV3]
 clear HSH BV3 FV3 RV3 GU pc pz
 obtain⟨sa3,ka3⟩:∃ x,nextR (needR (UInt8.ofNat 3) 7) (bl b) t2=x:=⟨_,rfl⟩
 obtain⟨sx3,kx3⟩:∃ x,outR numU (bl b) 0 sa3=x:=⟨_,rfl⟩
 obtain⟨sb3,kb3⟩:∃ x,nextR numU (bl b) sa3=x:=⟨_,rfl⟩
 have hop:=openRf_any (k:=3) (kI:=3) rfl (by omega) KU2 hs ka3 kx3 kb3
 obtain⟨sr1,sr2⟩:=sect_ref 3 (by omega) (numberR 0 1000) (numberR_tidy _ _) 0 b KU2.ok KU2.end_ ka3 kx3 kb3
 obtain⟨S3,hS3⟩:∃ S,beginS b.size sx3 sa3 sb3=S:=⟨_,rfl⟩
 rw[hS3] at hop sr1 sr2
 obtain⟨t3,q3⟩:∃ t,nextR (fun base l=>sectR 3 base (numberR 0 1000) l) (bl b) t2=t:=⟨_,rfl⟩
 obtain⟨x3,y3⟩:∃ t,outR (fun base l=>sectR 3 base (numberR 0 1000) l) (bl b) 0 t2=t:=⟨_,rfl⟩
 rw[q3] at sr1 sr2
 rw[y3] at sr2
 have Q3:Hid _:=q3
 have Y3:Hid _:=y3
 have SR:Hid _:=And.intro sr1 sr2
 skip
 clear ka3 kx3 kb3 hS3 q3 y3 sr1 sr2
 go_wp2_with fail
 refine hop.mono ?_
 rintro ee V1 ⟨rfl,⟨va,ve,KV1⟩,GV1⟩
 clear hop
 have BV1:=BU2.fr GV1
 have FV1:=FU2.trans' GV1 (fun x hx=>.inr (by simp at hx;omega))
 have RV1:V1.heap[w.heap.size]?=some (.cells #[.slice none 0 0,.slice none 0 0,.int .i64 0,.int .i64 0,.slice none 0 0] 30):=by rw[GV1.block _ (Array.getElem?_eq_some_iff.1 RU2).1 (by simp;omega),RU2]
 clear KU2 BU2 FU2 RU2 GV1
 have hcall:=numRf_any (lo:=0) (hi:=1000) (lI:=0) (hI:=1000) rfl rfl KV1 hs
 go_wp2_with fail
 refine hcall.mono ?_
 rintro ee V2 ⟨rfl,⟨vb,KV2⟩,GV2⟩
 clear hcall
 have BV2:=BV1.fr GV2
 have FV2:=FV1.trans' GV2 (fun x hx=>.inr (by simp at hx;omega))
 have RV2:V2.heap[w.heap.size]?=some (.cells #[.slice none 0 0,.slice none 0 0,.int .i64 0,.int .i64 0,.slice none 0 0] 30):=by rw[GV2.block _ (Array.getElem?_eq_some_iff.1 RV1).1 (by simp;omega),RV1]
 obtain⟨pn,pc,-⟩:=BV2.m2
 have pz:=BV2.fz 2
 obtain⟨NN3,hN3⟩:∃ n,outR (numberR 0 1000) (bl b) 0 S3=n:=⟨_,rfl⟩
 skip
 have BV3:=BV2.set2 NN3 (some NN3) (fun X hX=>by cases hX;rfl)
 rw[hN3]
 have P3:Hid ((∃ p,t3=.inr p)→NN3=x3):=fun h=>by obtain⟨z1,z2⟩:=SR.out.2 h;rw[z2];exact hN3.symm
 have KV3:=KV2.fr (fr_set V2 mb 2 (.int .i64 (NN3:Nat))) (by simpa using hrm)
 have FV3:=FV2.trans' (fr_set V2 mb 2 (.int .i64 (NN3:Nat))) (fun x hx=>.inr (by simp at hx;omega))
 have RV3:(V2.setCell ⟨mb,2,none⟩ (.int .i64 (NN3:Nat))).heap[w.heap.size]?=some (.cells #[.slice none 0 0,.slice none 0 0,.int .i64 0,.int .i64 0,.slice none 0 0] 30):=by rw[(fr_set V2 mb 2 (.int .i64 (NN3:Nat))).block _ (Array.getElem?_eq_some_iff.1 RV2).1 (by simp;omega),RV2]
 have hsh:=shutRf_any KV3 hs
 rw[← SR.out.1] at hsh
 have HSH:Hid _:=hsh
 clear hsh SR BV1 FV1 RV1 BV2 FV2 RV2 KV1 KV2 KV3 GV2 hN3
 go_wp2_with fail
 refine Calls.mono HSH.out ?_
 rintro ee U3 ⟨rfl,KU3,GU⟩
 have BU3:=BV3.fr GU
 have FU3:=FV3.trans' GU (fun x hx=>.inr (by simp at hx;omega))
 have RU3:U3.heap[w.heap.size]?=some (.cells #[.slice none 0 0,.slice none 0 0,.int .i64 0,.int .i64 0,.slice none 0 0] 30):=by rw[GU.block _ (Array.getElem?_eq_some_iff.1 RV3).1 (by simp;omega),RV3]
 clear HSH BV3 FV3 RV3 GU pc pz
 obtain⟨sa4,ka4⟩:∃ x,nextR (needR (UInt8.ofNat 4) 7) (bl b) t3=x:=⟨_,rfl⟩
 obtain⟨sx4,kx4⟩:∃ x,outR numU (bl b) 0 sa4=x:=⟨_,rfl⟩
 obtain⟨sb4,kb4⟩:∃ x,nextR numU (bl b) sa4=x:=⟨_,rfl⟩
 have hop:=openRf_any (k:=4) (kI:=4) rfl (by omega) KU3 hs ka4 kx4 kb4
 obtain⟨sr1,sr2⟩:=sect_ref 4 (by omega) (numberR 0 1000) (numberR_tidy _ _) 0 b KU3.ok KU3.end_ ka4 kx4 kb4
 obtain⟨S4,hS4⟩:∃ S,beginS b.size sx4 sa4 sb4=S:=⟨_,rfl⟩
 rw[hS4] at hop sr1 sr2
 obtain⟨t4,q4⟩:∃ t,nextR (fun base l=>sectR 4 base (numberR 0 1000) l) (bl b) t3=t:=⟨_,rfl⟩
 obtain⟨x4,y4⟩:∃ t,outR (fun base l=>sectR 4 base (numberR 0 1000) l) (bl b) 0 t3=t:=⟨_,rfl⟩
 rw[q4] at sr1 sr2
 rw[y4] at sr2
 have Q4:Hid _:=q4
 have Y4:Hid _:=y4
 have SR:Hid _:=And.intro sr1 sr2
 skip
 clear ka4 kx4 kb4 hS4 q4 y4 sr1 sr2
 go_wp2_with fail
 refine hop.mono ?_
 rintro ee V1 ⟨rfl,⟨va,ve,KV1⟩,GV1⟩
 clear hop
 have BV1:=BU3.fr GV1
 have FV1:=FU3.trans' GV1 (fun x hx=>.inr (by simp at hx;omega))
 have RV1:V1.heap[w.heap.size]?=some (.cells #[.slice none 0 0,.slice none 0 0,.int .i64 0,.int .i64 0,.slice none 0 0] 30):=by rw[GV1.block _ (Array.getElem?_eq_some_iff.1 RU3).1 (by simp;omega),RU3]
 clear KU3 BU3 FU3 RU3 GV1
 have hcall:=numRf_any (lo:=0) (hi:=1000) (lI:=0) (hI:=1000) rfl rfl KV1 hs
 go_wp2_with fail
 refine hcall.mono ?_
 rintro ee V2 ⟨rfl,⟨vb,KV2⟩,GV2⟩
 clear hcall
 have BV2:=BV1.fr GV2
 have FV2:=FV1.trans' GV2 (fun x hx=>.inr (by simp at hx;omega))
 have RV2:V2.heap[w.heap.size]?=some (.cells #[.slice none 0 0,.slice none 0 0,.int .i64 0,.int .i64 0,.slice none 0 0] 30):=by rw[GV2.block _ (Array.getElem?_eq_some_iff.1 RV1).1 (by simp;omega),RV1]
 obtain⟨pn,pc,-⟩:=BV2.m3
 have pz:=BV2.fz 3
 obtain⟨NN4,hN4⟩:∃ n,outR (numberR 0 1000) (bl b) 0 S4=n:=⟨_,rfl⟩
 skip
 have BV3:=BV2.set3 NN4 (some NN4) (fun X hX=>by cases hX;rfl)
 rw[hN4]
 have P4:Hid ((∃ p,t4=.inr p)→NN4=x4):=fun h=>by obtain⟨z1,z2⟩:=SR.out.2 h;rw[z2];exact hN4.symm
 have KV3:=KV2.fr (fr_set V2 mb 3 (.int .i64 (NN4:Nat))) (by simpa using hrm)
 have FV3:=FV2.trans' (fr_set V2 mb 3 (.int .i64 (NN4:Nat))) (fun x hx=>.inr (by simp at hx;omega))
 have RV3:(V2.setCell ⟨mb,3,none⟩ (.int .i64 (NN4:Nat))).heap[w.heap.size]?=some (.cells #[.slice none 0 0,.slice none 0 0,.int .i64 0,.int .i64 0,.slice none 0 0] 30):=by rw[(fr_set V2 mb 3 (.int .i64 (NN4:Nat))).block _ (Array.getElem?_eq_some_iff.1 RV2).1 (by simp;omega),RV2]
 have hsh:=shutRf_any KV3 hs
 rw[← SR.out.1] at hsh
 have HSH:Hid _:=hsh
 clear hsh SR BV1 FV1 RV1 BV2 FV2 RV2 KV1 KV2 KV3 GV2 hN4
 go_wp2_with fail
 refine Calls.mono HSH.out ?_
 rintro ee U4 ⟨rfl,KU4,GU⟩
 have BU4:=BV3.fr GU
 have FU4:=FV3.trans' GU (fun x hx=>.inr (by simp at hx;omega))
 have RU4:U4.heap[w.heap.size]?=some (.cells #[.slice none 0 0,.slice none 0 0,.int .i64 0,.int .i64 0,.slice none 0 0] 30):=by rw[GU.block _ (Array.getElem?_eq_some_iff.1 RV3).1 (by simp;omega),RV3]
 clear HSH BV3 FV3 RV3 GU pc pz
 obtain⟨sa5,ka5⟩:∃ x,nextR (needR (UInt8.ofNat 5) 7) (bl b) t4=x:=⟨_,rfl⟩
 obtain⟨sx5,kx5⟩:∃ x,outR numU (bl b) 0 sa5=x:=⟨_,rfl⟩
 obtain⟨sb5,kb5⟩:∃ x,nextR numU (bl b) sa5=x:=⟨_,rfl⟩
 have hop:=openRf_any (k:=5) (kI:=5) rfl (by omega) KU4 hs ka5 kx5 kb5
 obtain⟨sr1,sr2⟩:=sect_ref 5 (by omega) fnListR fnListR_tidy [] b KU4.ok KU4.end_ ka5 kx5 kb5
 obtain⟨S5,hS5⟩:∃ S,beginS b.size sx5 sa5 sb5=S:=⟨_,rfl⟩
 rw[hS5] at hop sr1 sr2
 obtain⟨t5,q5⟩:∃ t,nextR (fun base l=>sectR 5 base fnListR l) (bl b) t4=t:=⟨_,rfl⟩
 obtain⟨x5,y5⟩:∃ t,outR (fun base l=>sectR 5 base fnListR l) (bl b) [] t4=t:=⟨_,rfl⟩
 rw[q5] at sr1 sr2
 rw[y5] at sr2
 have Q5:Hid _:=q5
 have Y5:Hid _:=y5
 have SR:Hid _:=And.intro sr1 sr2
 skip
 clear ka5 kx5 kb5 hS5 q5 y5 sr1 sr2
 go_wp2_with fail
 refine hop.mono ?_
 rintro ee V1 ⟨rfl,⟨va,ve,KV1⟩,GV1⟩
 clear hop
 have BV1:=BU4.fr GV1
 have FV1:=FU4.trans' GV1 (fun x hx=>.inr (by simp at hx;omega))
 have RV1:V1.heap[w.heap.size]?=some (.cells #[.slice none 0 0,.slice none 0 0,.int .i64 0,.int .i64 0,.slice none 0 0] 30):=by rw[GV1.block _ (Array.getElem?_eq_some_iff.1 RU4).1 (by simp;omega),RU4]
 clear KU4 BU4 FU4 RU4 GV1
 have hcall:=funcsRf_any KV1 hs
 go_wp2_with fail
 refine hcall.mono ?_
 rintro ee V2 ⟨⟨v,LL5,rfl,hv,hL5⟩,⟨vb,KV2⟩,GV2⟩
 clear hcall
 have BV2:=BV1.fr GV2
 have FV2:=FV1.trans' GV2 (fun x hx=>.inr (by simp at hx;omega))
 have RV2:V2.heap[w.heap.size]?=some (.cells #[.slice none 0 0,.slice none 0 0,.int .i64 0,.int .i64 0,.slice none 0 0] 30):=by rw[GV2.block _ (Array.getElem?_eq_some_iff.1 RV1).1 (by simp;omega),RV1]
 have hlB:=BV1.lB
 obtain⟨pv,pL,pc,-⟩:=BV2.m4
 have pz:=BV2.fz 4
 have BV3:=BV2.set4 v LL5 (some LL5) (hv.base hlB) (fun X hX=>by cases hX;rfl)
 obtain⟨aa,cc,gg,oo,rfl,-⟩:=hv
 have P5:Hid ((∃ p,t5=.inr p)→LL5=x5):=fun h=>by obtain⟨z1,z2⟩:=SR.out.2 h;rw[z2];exact hL5 z1
 have KV3:=KV2.fr (fr_set V2 mb 4 (.slice aa LL5.length cc)) (by simpa using hrm)
 have FV3:=FV2.trans' (fr_set V2 mb 4 (.slice aa LL5.length cc)) (fun x hx=>.inr (by simp at hx;omega))
 have RV3:(V2.setCell ⟨mb,4,none⟩ (.slice aa LL5.length cc)).heap[w.heap.size]?=some (.cells #[.slice none 0 0,.slice none 0 0,.int .i64 0,.int .i64 0,.slice none 0 0] 30):=by rw[(fr_set V2 mb 4 (.slice aa LL5.length cc)).block _ (Array.getElem?_eq_some_iff.1 RV2).1 (by simp;omega),RV2]
 have hsh:=shutRf_any KV3 hs
 rw[← SR.out.1] at hsh
 have HSH:Hid _:=hsh
 clear hsh SR BV1 FV1 RV1 BV2 FV2 RV2 KV1 KV2 KV3 GV2 hL5 hlB
 go_wp2_with fail
 refine Calls.mono HSH.out ?_
 rintro ee U5 ⟨rfl,KU5,GU⟩
 have BU5:=BV3.fr GU
 have FU5:=FV3.trans' GU (fun x hx=>.inr (by simp at hx;omega))
 have RU5:U5.heap[w.heap.size]?=some (.cells #[.slice none 0 0,.slice none 0 0,.int .i64 0,.int .i64 0,.slice none 0 0] 30):=by rw[GU.block _ (Array.getElem?_eq_some_iff.1 RV3).1 (by simp;omega),RV3]
 clear HSH BV3 FV3 RV3 GU pc pz
 have e8:=KU5.end_
 have ok5:=KU5.ok
 obtain⟨-,z1,z2⟩:=rest_next ipF b ⟨[],[],0,0,[]⟩ OK1 Q1.out Y1.out Q2.out Y2.out Q3.out Y3.out Q4.out Y4.out Q5.out Y5.out
 have HG:Hid ((∃ p,t5=.inr p)→(∃ p,t4=.inr p)∧(∃ p,t3=.inr p)∧(∃ p,t2=.inr p)∧(∃ p,t1=.inr p)):=fun h5=>by
  have h4:=good_back (Q5.out.symm ▸ h5)
  have h3:=good_back (Q4.out.symm ▸ h4)
  have h2:=good_back (Q3.out.symm ▸ h3)
  have h1:=good_back (Q2.out.symm ▸ h2)
  exact⟨h4,h3,h2,h1⟩
 clear Q1 Q2 Q3 Q4 Q5 Y1 Y2 Y3 Y4 Y5 OK1
 obtain⟨u1,u2,u3⟩:=sum_next b (⟨x1,x2,(x3:Int),(x4:Int),x5⟩:Mo) ⟨[],[],0,0,[]⟩ ok5 e8
 rw[← z1] at u1 u2 u3
 rw[← z2] at u3
 have U1:Hid _:=u1
 have U2:Hid _:=u2
 have U3:Hid _:=u3
 have Z1:Hid _:=z1
 clear u1 u2 u3 z1 z2
 have r0:U5.cell? ⟨w.heap.size,0,none⟩=some (.slice none 0 0):=by unfold World.cell?;rw[RU5];rfl
 have r1:U5.cell? ⟨w.heap.size,1,none⟩=some (.slice none 0 0):=by unfold World.cell?;rw[RU5];rfl
 have r2:U5.cell? ⟨w.heap.size,2,none⟩=some (.int .i64 0):=by unfold World.cell?;rw[RU5];rfl
 have r3:U5.cell? ⟨w.heap.size,3,none⟩=some (.int .i64 0):=by unfold World.cell?;rw[RU5];rfl
 have r4:U5.cell? ⟨w.heap.size,4,none⟩=some (.slice none 0 0):=by unfold World.cell?;rw[RU5];rfl
 have rz:∀ i,U5.frozen? ⟨w.heap.size,i,none⟩=false:=fun i=>by unfold World.frozen?;rw[RU5];simp
 have rz0:=rz 0
 have rz1:=rz 1
 have rz2:=rz 2
 have rz3:=rz 3
 have rz4:=rz 4
 clear rz
 obtain⟨c0,c1,c2,c3,c4,f1,f2,f3,f4⟩:=KU5.c
 rcases t5 with ⟨fe,fp⟩ | ⟨ta,te⟩
 ·have k0:0<fe:=ok5.1
  have g2:((fe:Int)==0)=false:=by simp;omega
  have g3:((fe:Int)!=0)=true:=by simp;omega
  simp only[stR,stP] at c3 c4
  have hunp:unpack ipF (bl b)=.inl (fe,fp):=by
   rw[HU.out]
   rcases rest_unpack ipF b ⟨[],[],0,0,[]⟩ HH.out with ⟨f,q1,q2⟩ | ⟨p,-,q2⟩
   ·have q3:=q2.symm.trans Z1.out
    have q4:f=(fe,fp):=by cases q3;rfl
    rw[q1,q4]
   ·rw[Z1.out] at q2
    cases q2
  have HUn:Hid _:=hunp
  have k2:fp≤(bl b).length:=ok5.2.2
  have k1:fe≤100:=ok5.2.1
  clear hunp U1 U2 U3 Z1 HH HG P1 P2 P3 P4 P5 KU5 BU5 RU5
  go_wp2
  go_quiet (fail)
  go_wp2
  go_region
  obtain⟨y0,y1,y2,y3,y4⟩:=put5_cells (W:=U5.drewN (nq+1)) (.slice none 0 0) (.slice none 0 0) (.int .i64 0) (.int .i64 0) (.slice none 0 0) r0 r1 r2 r3 r4
  have FZ:=(FU5.drewN (nq+1)).trans' (put5_fr (U5.drewN (nq+1)) w.heap.size (.slice none 0 0) (.slice none 0 0) (.int .i64 0) (.int .i64 0) (.slice none 0 0)) (fun x hx=>.inr (by simp at hx;omega))
  go_wp2
  change bodyPost Tryz.prog Tryz.f23 (UnpackPost b w) Exit.ret _ (put5 (U5.drewN (nq+1)) w.heap.size (.slice none 0 0) (.slice none 0 0) (.int .i64 0) (.int .i64 0) (.slice none 0 0))
  generalize put5 (U5.drewN (nq+1)) w.heap.size (.slice none 0 0) (.slice none 0 0) (.int .i64 0) (.int .i64 0) (.slice none 0 0)=Z at *
  refine bodyPost_ret (v:=.tuple #[.agg #[.slice none 0 0,.slice none 0 0,.int .i64 0,.int .i64 0,.slice none 0 0],.int .i64 fp,.int .i64 fe]) (by simp[results,Tryz.results23,go_sem,y0,y1,y2,y3,y4]) rfl ?_
  exact⟨FZ,.inl ⟨fe,fp,HUn.out,k0,k1,by omega,rfl⟩⟩
 ·have hte:te=b.size:=e8 _ rfl
  subst hte
  obtain⟨o1,o2⟩:=ok5
  obtain⟨hvb,-⟩:=KU5.at_ _ rfl
  simp only at hvb
  subst hvb
  simp only[stR,stP] at c3 c4
  simp only[stA] at U1 U2
  have hS:=fun (W:World)=>sumR_any (b.extract 0 vb) W (by rw[ByteArray.size_extract];omega)
  change ∀ W:World,Calls Tryz.prog 47 _ W (fun e w'=>e=.returned (.string (mkB (sum3 (bl (b.extract 0 vb)))))∧Fr [] W w') at hS
  have HS:Hid _:=hS
  generalize hSS:mkB (sum3 (bl (b.extract 0 vb)))=SS at *
  have hb0:(0:Int)≤(vb:Int):=by omega
  have hb1:(vb:Int)≤(b.size:Int):=by omega
  clear hS hSS
  go_wp2
  refine wp_region_heldD (fun w1:World=>w1.cell? ⟨r,0,none⟩=some (.string b)∧w1.cell? ⟨r,1,none⟩=some (.int .i64 vb)∧w1.cell? ⟨r,3,none⟩=some (.int .i64 (0:Nat))) hm ?_
  have hS:(fun w1:World=>w1.cell? ⟨r,0,none⟩=some (.string b)∧w1.cell? ⟨r,1,none⟩=some (.int .i64 vb)∧w1.cell? ⟨r,3,none⟩=some (.int .i64 (0:Nat))) U5.drew:=And.intro c0 (And.intro c1 c3)
  refine wpAnyH_take (i:=0) (v:=?_) rfl (by kernel_rfl) (by kernel_rfl) (by kernel_rfl) (fun _ _ _ h=>h) (.inl ⟨rfl,fun w1 hS1=>?_⟩) hS ?_
  rotate_left
  ·obtain⟨q0,q1,q2⟩:=hS1
   go_simp
   first | rfl | (refine (if_neg (by omega)).trans ?_;rfl)
  simp only[Act.put,List.setIfInBounds_toArray,List.set_cons_zero,List.set_cons_succ,List.getElem_toArray,List.getElem_cons_succ,List.getElem_cons_zero]
  refine wpAnyH_take (i:=1) (v:=?_) rfl (by kernel_rfl) (by kernel_rfl) (by kernel_rfl) (fun _ _ _ h=>h) (.inl ⟨rfl,fun w1 hS1=>?_⟩) hS ?_
  rotate_left
  ·obtain⟨q0,q1,q2⟩:=hS1
   go_simp
   first | rfl | (refine (if_neg (by omega)).trans ?_;rfl)
  simp only[Act.put,List.setIfInBounds_toArray,List.set_cons_zero,List.set_cons_succ,List.getElem_toArray,List.getElem_cons_succ,List.getElem_cons_zero]
  refine wpAnyH_take (i:=2) (v:=?_) rfl (by kernel_rfl) (by kernel_rfl) (by kernel_rfl) (fun _ _ _ h=>h) (.inl ⟨rfl,fun w1 hS1=>?_⟩) hS ?_
  rotate_left
  ·obtain⟨q0,q1,q2⟩:=hS1
   go_simp
   first | rfl | (refine (if_neg (by omega)).trans ?_;rfl)
  simp only[Act.put,List.setIfInBounds_toArray,List.set_cons_zero,List.set_cons_succ,List.getElem_toArray,List.getElem_cons_succ,List.getElem_cons_zero]
  refine wpAnyH_take (i:=3) (v:=?_) rfl (by kernel_rfl) (by kernel_rfl) (by kernel_rfl) (fun _ _ _ h=>h) (.inl ⟨rfl,fun w1 hS1=>?_⟩) hS ?_
  rotate_left
  ·obtain⟨q0,q1,q2⟩:=hS1
   go_simp
   first | rfl | (refine (if_neg (by omega)).trans ?_;rfl)
  simp only[Act.put,List.setIfInBounds_toArray,List.set_cons_zero,List.set_cons_succ,List.getElem_toArray,List.getElem_cons_succ,List.getElem_cons_zero]
  refine wpAnyH_take (i:=4) (v:=?_) rfl (by kernel_rfl) (by kernel_rfl) (by kernel_rfl) (fun _ _ _ h=>h) (.inl ⟨rfl,fun w1 hS1=>?_⟩) hS ?_
  rotate_left
  ·obtain⟨q0,q1,q2⟩:=hS1
   go_simp
   first | rfl | (refine (if_neg (by omega)).trans ?_;rfl)
  simp only[Act.put,List.setIfInBounds_toArray,List.set_cons_zero,List.set_cons_succ,List.getElem_toArray,List.getElem_cons_succ,List.getElem_cons_zero]
  refine wpAnyH_take (i:=5) (v:=?_) rfl (by kernel_rfl) (by kernel_rfl) (by kernel_rfl) (fun _ _ _ h=>h) (.inl ⟨rfl,fun w1 hS1=>?_⟩) hS ?_
  rotate_left
  ·obtain⟨q0,q1,q2⟩:=hS1
   go_simp
   first | rfl | (refine (if_neg (by omega)).trans ?_;rfl)
  simp only[Act.put,List.setIfInBounds_toArray,List.set_cons_zero,List.set_cons_succ,List.getElem_toArray,List.getElem_cons_succ,List.getElem_cons_zero]
  refine wpAnyH_take (i:=6) (v:=?_) rfl (by kernel_rfl) (by kernel_rfl) (by kernel_rfl) (fun _ _ _ h=>h) (.inl ⟨rfl,fun w1 hS1=>?_⟩) hS ?_
  rotate_left
  ·obtain⟨q0,q1,q2⟩:=hS1
   go_simp
   first | rfl | (refine (if_neg (by omega)).trans ?_;rfl)
  simp only[Act.put,List.setIfInBounds_toArray,List.set_cons_zero,List.set_cons_succ,List.getElem_toArray,List.getElem_cons_succ,List.getElem_cons_zero]
  refine wpAnyH_take (i:=7) (v:=?_) rfl (by kernel_rfl) (by kernel_rfl) (by kernel_rfl) (fun _ _ _ h=>h) (.inl ⟨rfl,fun w1 hS1=>?_⟩) hS ?_
  rotate_left
  ·obtain⟨q0,q1,q2⟩:=hS1
   go_simp
   first | rfl | (refine (if_neg (by omega)).trans ?_;rfl)
  simp only[Act.put,List.setIfInBounds_toArray,List.set_cons_zero,List.set_cons_succ,List.getElem_toArray,List.getElem_cons_succ,List.getElem_cons_zero]
  refine wpAnyH_take (i:=8) (v:=?_) rfl (by kernel_rfl) (by kernel_rfl) (by kernel_rfl) (fun _ _ _ h=>h) (.inl ⟨rfl,fun w1 hS1=>?_⟩) hS ?_
  rotate_left
  ·obtain⟨q0,q1,q2⟩:=hS1
   go_simp
   first | rfl | (refine (if_neg (by omega)).trans ?_;rfl)
  simp only[Act.put,List.setIfInBounds_toArray,List.set_cons_zero,List.set_cons_succ,List.getElem_toArray,List.getElem_cons_succ,List.getElem_cons_zero]
  refine wpAnyH_take (i:=9) (v:=?_) rfl (by kernel_rfl) (by kernel_rfl) (by kernel_rfl) (fun _ _ _ h=>h) (.inl ⟨rfl,fun w1 hS1=>?_⟩) hS ?_
  rotate_left
  ·obtain⟨q0,q1,q2⟩:=hS1
   go_simp
   first | rfl | (refine (if_neg (by omega)).trans ?_;rfl)
  simp only[Act.put,List.setIfInBounds_toArray,List.set_cons_zero,List.set_cons_succ,List.getElem_toArray,List.getElem_cons_succ,List.getElem_cons_zero]
  refine wpAnyH_take (i:=10) (v:=?_) rfl (by kernel_rfl) (by kernel_rfl) (by kernel_rfl) (fun _ _ _ h=>h) (.inl ⟨rfl,fun w1 hS1=>?_⟩) hS ?_
  rotate_left
  ·obtain⟨q0,q1,q2⟩:=hS1
   go_simp
   first | rfl | (refine (if_neg (by omega)).trans ?_;rfl)
  simp only[Act.put,List.setIfInBounds_toArray,List.set_cons_zero,List.set_cons_succ,List.getElem_toArray,List.getElem_cons_succ,List.getElem_cons_zero]
  refine wpAnyH_take (i:=11) (v:=?_) rfl (by kernel_rfl) (by kernel_rfl) (by kernel_rfl) (fun _ _ _ h=>h) (.inl ⟨rfl,fun w1 hS1=>?_⟩) hS ?_
  rotate_left
  ·obtain⟨q0,q1,q2⟩:=hS1
   go_simp
   first | rfl | (refine (if_neg (by omega)).trans ?_;rfl)
  simp only[Act.put,List.setIfInBounds_toArray,List.set_cons_zero,List.set_cons_succ,List.getElem_toArray,List.getElem_cons_succ,List.getElem_cons_zero]
  refine wpAnyH_take (i:=12) (v:=?_) rfl (by kernel_rfl) (by kernel_rfl) (by kernel_rfl) (fun _ _ _ h=>h) (.inl ⟨rfl,fun w1 hS1=>?_⟩) hS ?_
  rotate_left
  ·obtain⟨q0,q1,q2⟩:=hS1
   go_simp
   first | rfl | (refine (if_neg (by omega)).trans ?_;rfl)
  simp only[Act.put,List.setIfInBounds_toArray,List.set_cons_zero,List.set_cons_succ,List.getElem_toArray,List.getElem_cons_succ,List.getElem_cons_zero]
  refine wpAnyH_take (i:=13) (v:=?_) rfl (by kernel_rfl) (by kernel_rfl) (by kernel_rfl) (fun _ _ _ h=>h) (.inl ⟨rfl,fun w1 hS1=>?_⟩) hS ?_
  rotate_left
  ·obtain⟨q0,q1,q2⟩:=hS1
   go_simp
   first | rfl | (refine (if_neg (by omega)).trans ?_;rfl)
  simp only[Act.put,List.setIfInBounds_toArray,List.set_cons_zero,List.set_cons_succ,List.getElem_toArray,List.getElem_cons_succ,List.getElem_cons_zero]
  refine wpAnyH_take (i:=14) (v:=?_) rfl (by kernel_rfl) (by kernel_rfl) (by kernel_rfl) (fun _ _ _ h=>h) (.inl ⟨rfl,fun w1 hS1=>?_⟩) hS ?_
  rotate_left
  ·obtain⟨q0,q1,q2⟩:=hS1
   go_simp
   first | rfl | (refine (if_neg (by omega)).trans ?_;rfl)
  simp only[Act.put,List.setIfInBounds_toArray,List.set_cons_zero,List.set_cons_succ,List.getElem_toArray,List.getElem_cons_succ,List.getElem_cons_zero]
  refine wpAnyH_take (i:=15) (v:=?_) rfl (by kernel_rfl) (by kernel_rfl) (by kernel_rfl) (fun _ _ _ h=>h) (.inl ⟨rfl,fun w1 hS1=>?_⟩) hS ?_
  rotate_left
  ·obtain⟨q0,q1,q2⟩:=hS1
   go_simp
   first | rfl | (refine (if_neg (by omega)).trans ?_;rfl)
  simp only[Act.put,List.setIfInBounds_toArray,List.set_cons_zero,List.set_cons_succ,List.getElem_toArray,List.getElem_cons_succ,List.getElem_cons_zero]
  refine wpAnyH_take (i:=16) (v:=?_) rfl (by kernel_rfl) (by kernel_rfl) (by kernel_rfl) (fun _ _ _ h=>h) (.inl ⟨rfl,fun w1 hS1=>?_⟩) hS ?_
  rotate_left
  ·obtain⟨q0,q1,q2⟩:=hS1
   go_simp
   first | rfl | (refine (if_neg (by omega)).trans ?_;rfl)
  simp only[Act.put,List.setIfInBounds_toArray,List.set_cons_zero,List.set_cons_succ,List.getElem_toArray,List.getElem_cons_succ,List.getElem_cons_zero]
  refine wpAnyH_take (i:=17) (v:=?_) rfl (by kernel_rfl) (by kernel_rfl) (by kernel_rfl) (fun _ _ _ h=>h) (.inl ⟨rfl,fun w1 hS1=>?_⟩) hS ?_
  rotate_left
  ·obtain⟨q0,q1,q2⟩:=hS1
   go_simp
   first | rfl | (refine (if_neg (by omega)).trans ?_;rfl)
  simp only[Act.put,List.setIfInBounds_toArray,List.set_cons_zero,List.set_cons_succ,List.getElem_toArray,List.getElem_cons_succ,List.getElem_cons_zero]
  refine wpAnyH_ready (rs:=[18]) (by kernel_rfl) (by simp) ?_
  refine AllReadyH.cons rfl (fun K hK=>?_) AllReadyH.nil
  go_simp
  refine (HS.out _).mono ?_
  rintro ee W9 ⟨rfl,G9⟩
  have F9:Fr [] U5 W9:=⟨G9.os,G9.tape,G9.output,G9.size,G9.block⟩
  have K9:=KU5.fr F9 (by simp)
  have B9:=BU5.fr (F9.mono (by simp))
  have d0:=K9.c.c0
  have d1:=K9.c.c1
  have d3:=K9.c.c3
  have d4:=K9.c.c4
  simp only[stR,stP] at d3 d4
  refine hK _ _ (And.intro d0 (And.intro d1 d3)) ?_
  have hS2:(fun w1:World=>w1.cell? ⟨r,0,none⟩=some (.string b)∧w1.cell? ⟨r,1,none⟩=some (.int .i64 vb)∧w1.cell? ⟨r,3,none⟩=some (.int .i64 (0:Nat))) W9:=And.intro d0 (And.intro d1 d3)
  clear hK K hS
  intro _
  refine wpAnyH_ready (rs:=[19]) (by kernel_rfl) (by simp) ?_
  refine AllReadyH.cons rfl (fun K hK=>?_) AllReadyH.nil
  go_simp
  refine hK _ _ hS2 ?_
  clear hK K
  intro _
  refine wpAnyH_ready (rs:=[20]) (by kernel_rfl) (by simp) ?_
  refine AllReadyH.cons rfl (fun K hK=>?_) AllReadyH.nil
  go_simp
  refine hK _ _ hS2 ?_
  clear hK K
  intro _
  refine wpAnyH_done (by kernel_rfl) ?_ _
  have R9:W9.heap[w.heap.size]?=some (.cells #[.slice none 0 0,.slice none 0 0,.int .i64 0,.int .i64 0,.slice none 0 0] 30):=by rw[F9.block _ (Array.getElem?_eq_some_iff.1 RU5).1 (by simp),RU5]
  have FW9:=FU5.trans F9
  clear hS2 F9 G9 KU5 BU5 RU5 FU5 r0 r1 r2 r3 r4 rz0 rz1 rz2 rz3 rz4 c0 c1 c2 c3 c4 f1 f2 f3 f4 HS
  have r0:W9.cell? ⟨w.heap.size,0,none⟩=some (.slice none 0 0):=by unfold World.cell?;rw[R9];rfl
  have r1:W9.cell? ⟨w.heap.size,1,none⟩=some (.slice none 0 0):=by unfold World.cell?;rw[R9];rfl
  have r2:W9.cell? ⟨w.heap.size,2,none⟩=some (.int .i64 0):=by unfold World.cell?;rw[R9];rfl
  have r3:W9.cell? ⟨w.heap.size,3,none⟩=some (.int .i64 0):=by unfold World.cell?;rw[R9];rfl
  have r4:W9.cell? ⟨w.heap.size,4,none⟩=some (.slice none 0 0):=by unfold World.cell?;rw[R9];rfl
  have rz:∀ i,W9.frozen? ⟨w.heap.size,i,none⟩=false:=fun i=>by unfold World.frozen?;rw[R9];simp
  have rz0:=rz 0
  have rz1:=rz 1
  have rz2:=rz 2
  have rz3:=rz 3
  have rz4:=rz 4
  clear rz
  by_cases hcmp:b.extract vb b.size=SS
  ·have g3:((b.extract vb b.size).toList==SS.toList)=true:=by rw[eq_strU];simp[hcmp]
   have hnx:=U1.out hcmp
   have hunp:unpack ipF (bl b)=.inr ⟨LL1,LL2,(NN3:Int),(NN4:Int),LL5⟩:=by
    rw[HU.out]
    rcases rest_unpack ipF b ⟨[],[],0,0,[]⟩ HH.out with ⟨f,-,q2⟩ | ⟨p,q1,q2⟩
    ·rw[hnx] at q2
     cases q2
    ·obtain⟨t4g,t3g,t2g,t1g⟩:=HG.out ⟨_,rfl⟩
     rw[q1,U3.out ⟨p,q2⟩,P1.out t1g,P2.out t2g,P3.out t3g,P4.out t4g,P5.out ⟨_,rfl⟩]
   have HUn:Hid _:=hunp
   clear hunp U1 U2 U3 Z1 HH HG P1 P2 P3 P4 P5 hnx
   obtain⟨v0,L0,a0,far0,i0⟩:=B9.m0
   obtain⟨v1,L1,a1,far1,i1⟩:=B9.m1
   obtain⟨gn,a2,i2⟩:=B9.m2
   obtain⟨an,a3,i3⟩:=B9.m3
   obtain⟨v4,L4,a4,far4,i4⟩:=B9.m4
   have j0:=i0 _ rfl
   have j1:=i1 _ rfl
   have j2:=i2 _ rfl
   have j3:=i3 _ rfl
   have j4:=i4 _ rfl
   clear i0 i1 i2 i3 i4
   subst j0 j1 j2 j3 j4
   have S0:=(far0.fr (put5_fr W9 w.heap.size v0 v1 (.int .i64 gn) (.int .i64 an) v4) (by simpa using hwB)).base (B':=w.heap.size) (by omega)
   have S1:=(far1.fr (put5_fr W9 w.heap.size v0 v1 (.int .i64 gn) (.int .i64 an) v4) (by simpa using hwB)).base (B':=w.heap.size) (by omega)
   have S4:=(far4.fr (put5_fr W9 w.heap.size v0 v1 (.int .i64 gn) (.int .i64 an) v4) (by simpa using hwB)).base (B':=w.heap.size) (by omega)
   have hdis:∀ g,v0.ownBlock=some g→v1.ownBlock=some g→False:=fun g=>B9.dis v0 v1 g a0 a1
   obtain⟨aa0,cc0,g0,of0,rfl,-⟩:=far0
   obtain⟨aa1,cc1,g1',of1,rfl,-⟩:=far1
   obtain⟨aa4,cc4,g4',of4,rfl,-⟩:=far4
   obtain⟨y0,y1,y2,y3,y4⟩:=put5_cells (W:=W9) (g:=w.heap.size) (.slice aa0 L0.length cc0) (.slice aa1 L1.length cc1) (.int .i64 gn) (.int .i64 an) (.slice aa4 L4.length cc4) r0 r1 r2 r3 r4
   have FZ:=FW9.trans' (put5_fr W9 w.heap.size (.slice aa0 L0.length cc0) (.slice aa1 L1.length cc1) (.int .i64 gn) (.int .i64 an) (.slice aa4 L4.length cc4)) (fun x hx=>.inr (by simp at hx;omega))
   have HY:Hid _:=And.intro y0 (And.intro y1 (And.intro y2 (And.intro y3 y4)))
   have HZ:Hid _:=And.intro FZ (And.intro S0 (And.intro S1 (And.intro S4 hdis)))
   clear y0 y1 y2 y3 y4 FZ S0 S1 S4 hdis B9 K9 R9 FW9 hcmp
   simp only[g3,Bool.not_true]
   clear g3
   go_wp2
   obtain⟨y0,y1,y2,y3,y4⟩:=HY.out
   obtain⟨FZ,S0,S1,S4,hdis⟩:=HZ.out
   clear HY HZ
   change bodyPost Tryz.prog Tryz.f23 (UnpackPost b w) Exit.ret _ (put5 W9 w.heap.size (.slice aa0 L0.length cc0) (.slice aa1 L1.length cc1) (.int .i64 gn) (.int .i64 an) (.slice aa4 L4.length cc4))
   clear r0 r1 r2 r3 r4 rz0 rz1 rz2 rz3 rz4 a0 a1 a2 a3 a4
   generalize put5 W9 w.heap.size (.slice aa0 L0.length cc0) (.slice aa1 L1.length cc1) (.int .i64 gn) (.int .i64 an) (.slice aa4 L4.length cc4)=Z at *
   refine bodyPost_ret (v:=.tuple #[.agg #[.slice aa0 L0.length cc0,.slice aa1 L1.length cc1,.int .i64 gn,.int .i64 an,.slice aa4 L4.length cc4],.int .i64 0,.int .i64 0]) (by simp[results,Tryz.results23,go_sem,y0,y1,y2,y3,y4]) rfl ?_
   refine⟨FZ,.inr ⟨⟨L0,L1,(gn:Int),(an:Int),L4⟩,aa0,aa1,aa4,L0.length,cc0,L1.length,cc1,L4.length,cc4,gn,an,HUn.out,rfl,?_⟩⟩
   exact⟨_,_,_,rfl,S0,S1,S4,hdis⟩
  ·have g3:((b.extract vb b.size).toList==SS.toList)=false:=by rw[eq_strU];simp[hcmp]
   have hnx:=U2.out hcmp
   have hunp:unpack ipF (bl b)=.inl (8,vb):=by
    rw[HU.out]
    rcases rest_unpack ipF b ⟨[],[],0,0,[]⟩ HH.out with ⟨f,q1,q2⟩ | ⟨p,-,q2⟩
    ·have q3:=q2.symm.trans hnx
     have q4:f=(8,vb):=by cases q3;rfl
     rw[q1,q4]
    ·rw[hnx] at q2
     cases q2
   have HUn:Hid _:=hunp
   have hbs:vb≤b.size:=by omega
   have hfault:=faultC_any W9 r b vb ve 0 0 vb 8 K9.c
   have HF:Hid _:=hfault
   clear hunp U1 U2 U3 Z1 HH HG P1 P2 P3 P4 P5 hnx B9 K9 hcmp hfault
   have hltw:=(Array.getElem?_eq_some_iff.1 R9).1
   simp only[g3,Bool.not_false]
   clear g3
   go_wp2_with fail
   refine Calls.mono HF.out ?_
   rintro ee Y9 ⟨rfl,KY,GY⟩
   have RY:Y9.heap[w.heap.size]?=some (.cells #[.slice none 0 0,.slice none 0 0,.int .i64 0,.int .i64 0,.slice none 0 0] 30):=by rw[GY.block _ hltw (by simp;omega),R9]
   have FY:=FW9.trans' GY (fun x hx=>.inr (by simp at hx;omega))
   obtain⟨c0,c1,c2,c3,c4,f1,f2,f3,f4⟩:=KY
   clear r0 r1 r2 r3 r4 rz0 rz1 rz2 rz3 rz4 d0 d1 d3 d4 R9 FW9 GY HF
   have r0:Y9.cell? ⟨w.heap.size,0,none⟩=some (.slice none 0 0):=by unfold World.cell?;rw[RY];rfl
   have r1:Y9.cell? ⟨w.heap.size,1,none⟩=some (.slice none 0 0):=by unfold World.cell?;rw[RY];rfl
   have r2:Y9.cell? ⟨w.heap.size,2,none⟩=some (.int .i64 0):=by unfold World.cell?;rw[RY];rfl
   have r3:Y9.cell? ⟨w.heap.size,3,none⟩=some (.int .i64 0):=by unfold World.cell?;rw[RY];rfl
   have r4:Y9.cell? ⟨w.heap.size,4,none⟩=some (.slice none 0 0):=by unfold World.cell?;rw[RY];rfl
   have rz:∀ i,Y9.frozen? ⟨w.heap.size,i,none⟩=false:=fun i=>by unfold World.frozen?;rw[RY];simp
   have rz0:=rz 0
   have rz1:=rz 1
   have rz2:=rz 2
   have rz3:=rz 3
   have rz4:=rz 4
   clear rz RY
   simp only[if_pos rfl,if_true] at c3 c4
   go_wp2
   go_region
   obtain⟨y0,y1,y2,y3,y4⟩:=put5_cells (W:=Y9.drew) (.slice none 0 0) (.slice none 0 0) (.int .i64 0) (.int .i64 0) (.slice none 0 0) r0 r1 r2 r3 r4
   have FZ:=FY.drew.trans' (put5_fr Y9.drew w.heap.size (.slice none 0 0) (.slice none 0 0) (.int .i64 0) (.int .i64 0) (.slice none 0 0)) (fun x hx=>.inr (by simp at hx;omega))
   go_wp2
   change bodyPost Tryz.prog Tryz.f23 (UnpackPost b w) Exit.ret _ (put5 Y9.drew w.heap.size (.slice none 0 0) (.slice none 0 0) (.int .i64 0) (.int .i64 0) (.slice none 0 0))
   generalize put5 Y9.drew w.heap.size (.slice none 0 0) (.slice none 0 0) (.int .i64 0) (.int .i64 0) (.slice none 0 0)=Z at *
   refine bodyPost_ret (v:=.tuple #[.agg #[.slice none 0 0,.slice none 0 0,.int .i64 0,.int .i64 0,.slice none 0 0],.int .i64 vb,.int .i64 8]) (by simp[results,Tryz.results23,go_sem,y0,y1,y2,y3,y4]) rfl ?_
   exact⟨FZ,.inl ⟨8,vb,HUn.out,by omega,by omega,hbs,rfl⟩⟩
end Go.Proofs.YtclkgoigmgkffaaGreatDoor
