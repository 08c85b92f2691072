/-
  Texts Wo Wg Wp.
-/
import Derived.Deep.LoopGhost
import Derived.Test.YtclkgoigmgkffaaGreatDoorMA
import Derived.Test.YtclkgoigmgkffaaGreatDoorM10
import Derived.Test.YtclkgoigmgkffaaGreatDoorM09
set_option linter.unusedSimpArgs false
set_option linter.unusedVariables false
set_option maxRecDepth 100000
set_option maxHeartbeats 40000000
namespace Go.Proofs.YtclkgoigmgkffaaGreatDoor
open Go.RowKit
structure Res (b:Nat) (W:World):Prop where
 rr:RowIs W b [.bool false,.int .u64 0,.int .u64 0,.bool false,.int .u64 0,.int .u64 0,.bool false,.int .u64 0,.int .u64 0,.bool false,.int .u64 0,.int .u64 0]
 zr:∀ i,W.frozen? ⟨b,i,none⟩=false
theorem Res.lt {b:Nat}{W:World} (h:Res b W):b<W.heap.size:=lt_of_cell (a:=⟨b,0,none⟩) (h.rr 0)
theorem Res.al {b:Nat}{W:World}(h:Res b W):W.cell? ⟨b,0,none⟩=some (.bool false)∧W.cell? ⟨b,1,none⟩=some (.int .u64 0)∧W.cell? ⟨b,2,none⟩=some (.int .u64 0)∧W.cell? ⟨b,3,none⟩=some (.bool false)∧W.cell? ⟨b,4,none⟩=some (.int .u64 0)∧W.cell? ⟨b,5,none⟩=some (.int .u64 0)∧W.cell? ⟨b,6,none⟩=some (.bool false)∧W.cell? ⟨b,7,none⟩=some (.int .u64 0)∧W.cell? ⟨b,8,none⟩=some (.int .u64 0)∧W.cell? ⟨b,9,none⟩=some (.bool false)∧W.cell? ⟨b,10,none⟩=some (.int .u64 0)∧W.cell? ⟨b,11,none⟩=some (.int .u64 0):=⟨h.rr 0,h.rr 1,h.rr 2,h.rr 3,h.rr 4,h.rr 5,h.rr 6,h.rr 7,h.rr 8,h.rr 9,h.rr 10,h.rr 11⟩
theorem Res.az {b:Nat}{W:World}(h:Res b W):W.frozen? ⟨b,0,none⟩=false∧W.frozen? ⟨b,1,none⟩=false∧W.frozen? ⟨b,2,none⟩=false∧W.frozen? ⟨b,3,none⟩=false∧W.frozen? ⟨b,4,none⟩=false∧W.frozen? ⟨b,5,none⟩=false∧W.frozen? ⟨b,6,none⟩=false∧W.frozen? ⟨b,7,none⟩=false∧W.frozen? ⟨b,8,none⟩=false∧W.frozen? ⟨b,9,none⟩=false∧W.frozen? ⟨b,10,none⟩=false∧W.frozen? ⟨b,11,none⟩=false:=⟨h.zr 0,h.zr 1,h.zr 2,h.zr 3,h.zr 4,h.zr 5,h.zr 6,h.zr 7,h.zr 8,h.zr 9,h.zr 10,h.zr 11⟩
theorem Res.fr {S:List Nat}{b:Nat}{W W':World} (h:Res b W) (hf:Fr S W W') (hb:b ∉ S):Res b W':=⟨h.rr.fr hf hb h.lt,fun i=>(hf.frozen (p:=⟨b,i,none⟩) h.lt hb).trans (h.zr i)⟩
theorem Res.new (W:World):Res W.heap.size (W.alloc (Obj.cells #[.bool false,.int .u64 0,.int .u64 0,.bool false,.int .u64 0,.int .u64 0,.bool false,.int .u64 0,.int .u64 0,.bool false,.int .u64 0,.int .u64 0] 284)):=⟨rowIs_new W _ 284,frozen_all_new W _ 284⟩
structure ClI (w:World) (r pb:Nat) (t:ByteArray) (wh:Nat→Value) (s:St) (C:(Nat→Bool) × St) (m:Nat) (P:Nat→Bool) (s1:St) (W:World):Prop where
 mm:M W r pb t wh s1
 by_:ByteL W (w.heap.size+1) P
 res:Res w.heap.size W
 fr:Fr [r,pb] w W
 eq:Hid (classLF t m P s1=C)
 near:Near t s s1
 fuel:s1.fault=true∨t.size-s1.pos<m
theorem class_any {w:World}{r pb:Nat}{t:ByteArray}{wh:Nat→Value}{s:St} (n:Nat) (h:M w r pb t wh s) (hi:Inv t s) (hs:t.size≤50) (hn:t.size-s.pos<n) (ha:s.atoms<50) :
  Calls Tryz.prog 310 #[.pointer (some ⟨r,0,none⟩)] w fun e w'=>e=.returned (pv (classF t n s).1)∧M w' r pb t wh (classF t n s).2∧Fr [r,pb] w w':=by
 have hrl:=h.rlt
 have hpl:=h.pat.lt
 have t6:=h.tab.lt
 have hps:=hi.pos
 unfold classF
 simp only
 have n1:=skip_near (t:=t) s 94 (by decide)
 have hsk:=fun (W:World) (hW:M W r pb t wh s)=>skip_any 94 hW hs (by omega)
 obtain⟨a1,hq1⟩:∃ q,(skipF t s 94).1=q:=⟨_,rfl⟩
 obtain⟨s1,hq2⟩:∃ q,(skipF t s 94).2=q:=⟨_,rfl⟩
 simp only[hq1,hq2] at hsk n1 ⊢
 clear hq1 hq2
 have hp1:s1.pos≤t.size:=n1.pos hps
 have n2:=item_near (t:=t) s1 (fun _=>false)
 have g2:=item_prog (t:=t) s1 (fun _=>false)
 have hit:=fun (W:World) (hW:M W r pb t wh s1) (hB:ByteL W (w.heap.size+1) (fun _=>false))=>item_any (w.heap.size+1) (fun _=>false) hW hB (by omega) (by omega) (by omega) hs (by omega)
 obtain⟨P2,hq3⟩:∃ q,(itemF t s1 (fun _=>false)).1=q:=⟨_,rfl⟩
 obtain⟨s2,hq4⟩:∃ q,(itemF t s1 (fun _=>false)).2=q:=⟨_,rfl⟩
 simp only[hq3,hq4] at hit n2 g2 ⊢
 clear hq3 hq4
 obtain⟨C,hC⟩:∃ C,classLF t n P2 s2=C:=⟨_,rfl⟩
 have n3:Near t s2 C.2:=by rw[← hC];exact classL_near n P2 s2
 rw[hC]
 have HC:Hid (classLF t n P2 s2=C):=hC
 clear hC
 have Hsk:=(show Hid _ from hsk)
 have Hit:=(show Hid _ from hit)
 clear hsk hit
 have f0:Fr [] w ((w.alloc (Obj.cells #[.bool false,.int .u64 0,.int .u64 0,.bool false,.int .u64 0,.int .u64 0,.bool false,.int .u64 0,.int .u64 0,.bool false,.int .u64 0,.int .u64 0] 284)).alloc (Obj.cells Tryz.zeroCells386 386)):=((Fr.refl [] _).alloc _).alloc _
 have b0:=ByteL.new (w.alloc (Obj.cells #[.bool false,.int .u64 0,.int .u64 0,.bool false,.int .u64 0,.int .u64 0,.bool false,.int .u64 0,.int .u64 0,.bool false,.int .u64 0,.int .u64 0] 284))
 rw[World.size_alloc] at b0
 have R0:=(Res.new w).fr ((Fr.refl [] _).alloc (Obj.cells Tryz.zeroCells386 386)) (by simp)
 have m0:=h.fr f0 (by simp) (by simp) (by simp)
 go_enter Tryz.func310,Tryz.ntmps310
 go_wp2_with fail
 refine (Hsk.out _ m0).mono ?_
 rintro e w1 ⟨rfl,m1,f1⟩
 have b1:=b0.fr f1 (by simp;omega)
 have R1:=R0.fr f1 (by simp;omega)
 have F1:Fr [r,pb] w w1:=(f0.mono (by simp)).trans (f1.mono (by simp))
 clear b0 R0 m0 f1 f0
 go_wp2_with fail
 refine (Hit.out _ m1 b1).mono ?_
 rintro e w2 ⟨rfl,m2,b2,f2⟩
 have R2:=R1.fr f2 (by simp;omega)
 have F2:Fr [r,pb] w w2:=F1.trans' f2 (by simp)
 clear b1 R1 f2
 go_wp2
 go_loopg [10] n (fun m _ wr=>∃ P s1,ClI w r pb t wh s C m P s1 wr)
 case atStart=>exact⟨P2,s2,m2,b2,R2,F2,HC,n1.trans n2,g2.imp id (fun g=>by have:=n1.le;omega)⟩
 case round=>
  obtain⟨P,s3,J⟩:=hrel
  cases hf:s3.fault
  ·have c2:wr.cell? ⟨r,2,none⟩=some (.bool false):=by rw[← hf];exact J.mm.rd.c2
   have hfu:t.size-s3.pos<gk:=J.fuel.elim (fun e=>by rw[hf] at e;cases e) id
   obtain⟨m',rfl⟩:∃ m',gk=m'+1:=⟨gk-1,by omega⟩
   have heq:=J.eq.out
   unfold classLF at heq
   by_cases h93:peekF t s3=93
   ·rw[if_pos (.inr h93)] at heq
    obtain⟨rfl,rfl⟩:P=C.1∧s3=C.2:=by rw[← heq];exact⟨rfl,rfl⟩
    clear heq
    have nC:=J.near
    have hnd:=fun (W:World) (hW:M W r pb t wh C.2)=>need_any 93 hW hs (by have:=nC.pos hps;omega)
    have nN:=nC.trans (need_near (t:=t) C.2 93 (by decide))
    have hat:(needF t C.2 93).atoms<50:=by rw[nN.atoms];exact ha
    have htk:∀ b,(needF t C.2 93).tk b<18446744073709551616:=fun b=>by
     rw[nN.tk];exact Nat.lt_trans (hi.tk b) (Nat.lt_trans (Nat.pow_lt_pow_right (a:=2) (by decide) ha) (by decide))
    have htf:=fun (W:World) (hW:M W r pb t wh (needF t C.2 93)) (hB:ByteL W (w.heap.size+1) C.1)=>takeOf_any (w.heap.size+1) C.1 (!a1) hW hB (by omega) (by omega) hat htk
    obtain⟨q,hq⟩:∃ q,(takeOfF (needF t C.2 93) (fun b=>C.1 b == !a1)).1=q:=⟨_,rfl⟩
    obtain⟨sq,hsq⟩:∃ q,(takeOfF (needF t C.2 93) (fun b=>C.1 b == !a1)).2=q:=⟨_,rfl⟩
    simp only[hq,hsq] at htf
    have Hq:Hid (_=q):=hq
    have Hs:Hid (_=sq):=hsq
    have Hnd:=(show Hid _ from hnd)
    have Htf:=(show Hid _ from htf)
    clear hq hsq hnd htf
    have hne:(peekF t C.2 != 93)=false:=by simp[h93]
    go_wp2_with fail
    refine (peek_any J.mm hs).mono ?_
    rintro e w5 ⟨rfl,n5,rfl⟩
    go_wp2_with fail
    refine (Hnd.out _ (J.mm.heap (w':=wr.drewN n5) rfl)).mono ?_
    rintro e w3 ⟨rfl,m3,f3⟩
    have b3:=(ByteL.mk (w:=wr.drewN n5) J.by_.c J.by_.z).fr f3 (by simp;omega)
    have R3:=(Res.mk (W:=wr.drewN n5) J.res.rr J.res.zr).fr f3 (by simp;omega)
    have F3:=(J.fr.drewN n5).trans (f3.mono (S':=[r,pb]) (by simp))
    go_wp2_with fail
    refine (Htf.out _ m3 b3).mono ?_
    rintro e w4 ⟨rfl,m4,f4⟩
    have R4:=R3.fr f4 (by simp;omega)
    have F4:=F3.trans f4
    obtain⟨y0,y1,y2,y3,y4,y5,y6,y7,y8,y9,y10,y11⟩:=R4.al
    obtain⟨z0,z1,z2,z3,z4,z5,z6,z7,z8,z9,z10,z11⟩:=R4.az
    unfold pv
    go_wp2
    have hfr:=far_sets w4 w.heap.size (.bool (q 0).e) (.int .u64 (q 0).f) (.int .u64 (q 0).l) (.bool (q 1).e) (.int .u64 (q 1).f) (.int .u64 (q 1).l) (.bool (q 2).e) (.int .u64 (q 2).f) (.int .u64 (q 2).l) (.bool (q 3).e) (.int .u64 (q 3).f) (.int .u64 (q 3).l)
    refine bodyPost_ret (v:=pv q) (by simp[results,Tryz.results310,go_sem,pv,y0,y1,y2,y3,y4,y5,y6,y7,y8,y9,y10,y11]) rfl ⟨by rw[Hq.out],?_,?_⟩
    ·rw[Hs.out];exact m4.fr hfr (by simp;omega) (by simp;omega) (by simp;omega)
    ·exact F4.trans' hfr (by simp)
   ·have hne:(peekF t s3 != 93)=true:=by simp[h93]
    rw[if_neg (fun e=>e.elim (fun e=>by rw[hf] at e;cases e) h93)] at heq
    have nn:=item_near (t:=t) s3 P
    have gg:=item_prog (t:=t) s3 P
    have hit:=fun (W:World) (hW:M W r pb t wh s3) (hB:ByteL W (w.heap.size+1) P)=>item_any (w.heap.size+1) P hW hB (by omega) (by omega) (by omega) hs (by have:=J.near.pos hps;omega)
    obtain⟨P4,hq3⟩:∃ q,(itemF t s3 P).1=q:=⟨_,rfl⟩
    obtain⟨s4,hq4⟩:∃ q,(itemF t s3 P).2=q:=⟨_,rfl⟩
    simp only[hq3,hq4] at hit nn gg heq
    have Hit:=(show Hid _ from hit)
    have Heq:=(show Hid _ from heq)
    clear hq3 hq4 hit heq
    go_wp2_with fail
    refine (peek_any J.mm hs).mono ?_
    rintro e w5 ⟨rfl,n5,rfl⟩
    go_wp2_with fail
    refine (Hit.out _ (J.mm.heap (w':=wr.drewN n5) rfl) (ByteL.mk (w:=wr.drewN n5) J.by_.c J.by_.z)).mono ?_
    rintro e w6 ⟨rfl,m6,b6,f6⟩
    go_wp2
    go_roundg m'
    case measure=>omega
    case rel=>exact⟨P4,s4,m6,b6,(Res.mk (W:=wr.drewN n5) J.res.rr J.res.zr).fr f6 (by simp;omega),(J.fr.drewN n5).trans' f6 (by simp),Heq.out,J.near.trans nn,gg.imp id (fun g=>by have:=nn.pos (J.near.pos hps);omega)⟩
  ·have heq:=J.eq.out
   have heq2:(P,s3)=C:=by
    cases gk with
    | zero=>exact heq
    | succ k=>unfold classLF at heq;rw[if_pos (.inl hf)] at heq;exact heq
   clear heq
   obtain⟨rfl,rfl⟩:P=C.1∧s3=C.2:=by rw[← heq2];exact⟨rfl,rfl⟩
   clear heq2
   have nC:=J.near
   have hnd:=fun (W:World) (hW:M W r pb t wh C.2)=>need_any 93 hW hs (by have:=nC.pos hps;omega)
   have nN:=nC.trans (need_near (t:=t) C.2 93 (by decide))
   have hat:(needF t C.2 93).atoms<50:=by rw[nN.atoms];exact ha
   have htk:∀ b,(needF t C.2 93).tk b<18446744073709551616:=fun b=>by
    rw[nN.tk];exact Nat.lt_trans (hi.tk b) (Nat.lt_trans (Nat.pow_lt_pow_right (a:=2) (by decide) ha) (by decide))
   have htf:=fun (W:World) (hW:M W r pb t wh (needF t C.2 93)) (hB:ByteL W (w.heap.size+1) C.1)=>takeOf_any (w.heap.size+1) C.1 (!a1) hW hB (by omega) (by omega) hat htk
   obtain⟨q,hq⟩:∃ q,(takeOfF (needF t C.2 93) (fun b=>C.1 b == !a1)).1=q:=⟨_,rfl⟩
   obtain⟨sq,hsq⟩:∃ q,(takeOfF (needF t C.2 93) (fun b=>C.1 b == !a1)).2=q:=⟨_,rfl⟩
   simp only[hq,hsq] at htf
   have Hq:Hid (_=q):=hq
   have Hs:Hid (_=sq):=hsq
   have Hnd:=(show Hid _ from hnd)
   have Htf:=(show Hid _ from htf)
   clear hq hsq hnd htf
   have c2:wr.cell? ⟨r,2,none⟩=some (.bool true):=by rw[← hf];exact J.mm.rd.c2
   go_wp2_with fail
   refine (Hnd.out _ J.mm).mono ?_
   rintro e w3 ⟨rfl,m3,f3⟩
   have b3:=J.by_.fr f3 (by simp;omega)
   have R3:=J.res.fr f3 (by simp;omega)
   have F3:=J.fr.trans (f3.mono (S':=[r,pb]) (by simp))
   go_wp2_with fail
   refine (Htf.out _ m3 b3).mono ?_
   rintro e w4 ⟨rfl,m4,f4⟩
   have R4:=R3.fr f4 (by simp;omega)
   have F4:=F3.trans f4
   obtain⟨y0,y1,y2,y3,y4,y5,y6,y7,y8,y9,y10,y11⟩:=R4.al
   obtain⟨z0,z1,z2,z3,z4,z5,z6,z7,z8,z9,z10,z11⟩:=R4.az
   unfold pv
   go_wp2
   have hfr:=far_sets w4 w.heap.size (.bool (q 0).e) (.int .u64 (q 0).f) (.int .u64 (q 0).l) (.bool (q 1).e) (.int .u64 (q 1).f) (.int .u64 (q 1).l) (.bool (q 2).e) (.int .u64 (q 2).f) (.int .u64 (q 2).l) (.bool (q 3).e) (.int .u64 (q 3).f) (.int .u64 (q 3).l)
   refine bodyPost_ret (v:=pv q) (by simp[results,Tryz.results310,go_sem,pv,y0,y1,y2,y3,y4,y5,y6,y7,y8,y9,y10,y11]) rfl ⟨by rw[Hq.out],?_,?_⟩
   ·rw[Hs.out];exact m4.fr hfr (by simp;omega) (by simp;omega) (by simp;omega)
   ·exact F4.trans' hfr (by simp)
def Piece.ok (q:Piece):Prop:=∀ s,(q s).ok
def mixL (a b:Piece):Nat→List Value
 | 0=>[.bool (a 0).e,.int .u64 (a 0).f,.int .u64 (a 0).l,.bool (a 1).e,.int .u64 (a 1).f,.int .u64 (a 1).l,.bool (a 2).e,.int .u64 (a 2).f,.int .u64 (a 2).l,.bool (a 3).e,.int .u64 (a 3).f,.int .u64 (a 3).l]
 | 1=>[.bool ((a 0).e || (b 0).e),.int .u64 ((a 0).f ||| (b 0).f:Nat),.int .u64 ((a 0).l ||| (b 0).l:Nat),.bool (a 1).e,.int .u64 (a 1).f,.int .u64 (a 1).l,.bool (a 2).e,.int .u64 (a 2).f,.int .u64 (a 2).l,.bool (a 3).e,.int .u64 (a 3).f,.int .u64 (a 3).l]
 | 2=>[.bool ((a 0).e || (b 0).e),.int .u64 ((a 0).f ||| (b 0).f:Nat),.int .u64 ((a 0).l ||| (b 0).l:Nat),.bool ((a 1).e || (b 1).e),.int .u64 ((a 1).f ||| (b 1).f:Nat),.int .u64 ((a 1).l ||| (b 1).l:Nat),.bool (a 2).e,.int .u64 (a 2).f,.int .u64 (a 2).l,.bool (a 3).e,.int .u64 (a 3).f,.int .u64 (a 3).l]
 | 3=>[.bool ((a 0).e || (b 0).e),.int .u64 ((a 0).f ||| (b 0).f:Nat),.int .u64 ((a 0).l ||| (b 0).l:Nat),.bool ((a 1).e || (b 1).e),.int .u64 ((a 1).f ||| (b 1).f:Nat),.int .u64 ((a 1).l ||| (b 1).l:Nat),.bool ((a 2).e || (b 2).e),.int .u64 ((a 2).f ||| (b 2).f:Nat),.int .u64 ((a 2).l ||| (b 2).l:Nat),.bool (a 3).e,.int .u64 (a 3).f,.int .u64 (a 3).l]
 | _=>[.bool ((a 0).e || (b 0).e),.int .u64 ((a 0).f ||| (b 0).f:Nat),.int .u64 ((a 0).l ||| (b 0).l:Nat),.bool ((a 1).e || (b 1).e),.int .u64 ((a 1).f ||| (b 1).f:Nat),.int .u64 ((a 1).l ||| (b 1).l:Nat),.bool ((a 2).e || (b 2).e),.int .u64 ((a 2).f ||| (b 2).f:Nat),.int .u64 ((a 2).l ||| (b 2).l:Nat),.bool ((a 3).e || (b 3).e),.int .u64 ((a 3).f ||| (b 3).f:Nat),.int .u64 ((a 3).l ||| (b 3).l:Nat)]
structure EithI (w:World) (a b:Piece) (o:List Value) (W:World):Prop where
 fr:Fr [] w W
 sz:w.heap.size+1+1+1≤W.heap.size
 ro:RowIs W w.heap.size o
 rb:RowIs W (w.heap.size+1) [.bool (b 0).e,.int .u64 (b 0).f,.int .u64 (b 0).l,.bool (b 1).e,.int .u64 (b 1).f,.int .u64 (b 1).l,.bool (b 2).e,.int .u64 (b 2).f,.int .u64 (b 2).l,.bool (b 3).e,.int .u64 (b 3).f,.int .u64 (b 3).l]
 rr:RowIs W (w.heap.size+1+1) [.bool false,.int .u64 0,.int .u64 0,.bool false,.int .u64 0,.int .u64 0,.bool false,.int .u64 0,.int .u64 0,.bool false,.int .u64 0,.int .u64 0]
 zo:∀ i,W.frozen? ⟨w.heap.size,i,none⟩=false
 zr:∀ i,W.frozen? ⟨w.heap.size+1+1,i,none⟩=false
theorem EithI.drew {w:World}{a b:Piece}{o:List Value}{W:World} (h:EithI w a b o W):EithI w a b o W.drew:=⟨h.fr.drew,h.sz,h.ro,h.rb,h.rr,h.zo,h.zr⟩
theorem EithI.set {w:World}{a b:Piece}{o:List Value}{W:World} (h:EithI w a b o W) (k:Nat) (hk:k<o.length) (v:Value) :
  EithI w a b (o.set k v) (W.setCell ⟨w.heap.size,k,none⟩ v):=
 ⟨h.fr.setCell (p:=⟨w.heap.size,k,none⟩) (.inr (by simp)) _,by simpa [World.setCell] using h.sz,h.ro.set k hk v,fun i=>(setCell_far (by omega)).trans (h.rb i),fun i=>(setCell_far (by omega)).trans (h.rr i),
  fun i=>(wfz _ _ _ _).trans (h.zo i),fun i=>(wfz _ _ _ _).trans (h.zr i)⟩
theorem either_any (a b:Piece)(ha:a.ok)(hb:b.ok)(w:World):Calls Tryz.prog 220 #[pv a,pv b] w fun e w'=>e=.returned (pv (eitherF a b))∧Fr [] w w':=by
 have hm:Tryz.prog.follows Departure.mixedOrders=true:=by kernel_rfl
 have o0:=bits_or_u64_nat (a 0).f (b 0).f (ha 0).1 (hb 0).1
 have o1:=bits_or_u64_nat (a 0).l (b 0).l (ha 0).2 (hb 0).2
 have o2:=bits_or_u64_nat (a 1).f (b 1).f (ha 1).1 (hb 1).1
 have o3:=bits_or_u64_nat (a 1).l (b 1).l (ha 1).2 (hb 1).2
 have o4:=bits_or_u64_nat (a 2).f (b 2).f (ha 2).1 (hb 2).1
 have o5:=bits_or_u64_nat (a 2).l (b 2).l (ha 2).2 (hb 2).2
 have o6:=bits_or_u64_nat (a 3).f (b 3).f (ha 3).1 (hb 3).1
 have o7:=bits_or_u64_nat (a 3).l (b 3).l (ha 3).2 (hb 3).2
 obtain⟨W0,hW0⟩:∃ W0,((w.alloc (Obj.cells #[.bool (a 0).e,.int .u64 (a 0).f,.int .u64 (a 0).l,.bool (a 1).e,.int .u64 (a 1).f,.int .u64 (a 1).l,.bool (a 2).e,.int .u64 (a 2).f,.int .u64 (a 2).l,.bool (a 3).e,.int .u64 (a 3).f,.int .u64 (a 3).l] 284)).alloc (Obj.cells #[.bool (b 0).e,.int .u64 (b 0).f,.int .u64 (b 0).l,.bool (b 1).e,.int .u64 (b 1).f,.int .u64 (b 1).l,.bool (b 2).e,.int .u64 (b 2).f,.int .u64 (b 2).l,.bool (b 3).e,.int .u64 (b 3).f,.int .u64 (b 3).l] 284)).alloc (Obj.cells #[.bool false,.int .u64 0,.int .u64 0,.bool false,.int .u64 0,.int .u64 0,.bool false,.int .u64 0,.int .u64 0,.bool false,.int .u64 0,.int .u64 0] 284)=W0:=⟨_,rfl⟩
 have J0:EithI w a b (mixL a b 0) W0:=by
  rw[← hW0]
  refine⟨(((Fr.refl [] _).alloc _).alloc _).alloc _,by simp,?_,?_,?_,?_,?_⟩
  ·exact ((rowIs_new w [.bool (a 0).e,.int .u64 (a 0).f,.int .u64 (a 0).l,.bool (a 1).e,.int .u64 (a 1).f,.int .u64 (a 1).l,.bool (a 2).e,.int .u64 (a 2).f,.int .u64 (a 2).l,.bool (a 3).e,.int .u64 (a 3).f,.int .u64 (a 3).l] 284).fr (((Fr.refl [] _).alloc _).alloc _) (by simp) (by simp))
  ·have:=(rowIs_new (w.alloc (Obj.cells #[.bool (a 0).e,.int .u64 (a 0).f,.int .u64 (a 0).l,.bool (a 1).e,.int .u64 (a 1).f,.int .u64 (a 1).l,.bool (a 2).e,.int .u64 (a 2).f,.int .u64 (a 2).l,.bool (a 3).e,.int .u64 (a 3).f,.int .u64 (a 3).l] 284)) [.bool (b 0).e,.int .u64 (b 0).f,.int .u64 (b 0).l,.bool (b 1).e,.int .u64 (b 1).f,.int .u64 (b 1).l,.bool (b 2).e,.int .u64 (b 2).f,.int .u64 (b 2).l,.bool (b 3).e,.int .u64 (b 3).f,.int .u64 (b 3).l] 284).fr ((Fr.refl [] _).alloc (Obj.cells #[.bool false,.int .u64 0,.int .u64 0,.bool false,.int .u64 0,.int .u64 0,.bool false,.int .u64 0,.int .u64 0,.bool false,.int .u64 0,.int .u64 0] 284)) (by simp) (by simp)
   rwa [World.size_alloc] at this
  ·have:=(rowIs_new ((w.alloc (Obj.cells #[.bool (a 0).e,.int .u64 (a 0).f,.int .u64 (a 0).l,.bool (a 1).e,.int .u64 (a 1).f,.int .u64 (a 1).l,.bool (a 2).e,.int .u64 (a 2).f,.int .u64 (a 2).l,.bool (a 3).e,.int .u64 (a 3).f,.int .u64 (a 3).l] 284)).alloc (Obj.cells #[.bool (b 0).e,.int .u64 (b 0).f,.int .u64 (b 0).l,.bool (b 1).e,.int .u64 (b 1).f,.int .u64 (b 1).l,.bool (b 2).e,.int .u64 (b 2).f,.int .u64 (b 2).l,.bool (b 3).e,.int .u64 (b 3).f,.int .u64 (b 3).l] 284)) [.bool false,.int .u64 0,.int .u64 0,.bool false,.int .u64 0,.int .u64 0,.bool false,.int .u64 0,.int .u64 0,.bool false,.int .u64 0,.int .u64 0] 284)
   rwa [World.size_alloc,World.size_alloc] at this
  ·intro i
   have:=frozen_all_new w [.bool (a 0).e,.int .u64 (a 0).f,.int .u64 (a 0).l,.bool (a 1).e,.int .u64 (a 1).f,.int .u64 (a 1).l,.bool (a 2).e,.int .u64 (a 2).f,.int .u64 (a 2).l,.bool (a 3).e,.int .u64 (a 3).f,.int .u64 (a 3).l] 284 i
   exact (World.frozen?_alloc_past _ _ _ (by simp;omega)).trans ((World.frozen?_alloc_past _ _ _ (by simp)).trans this)
  ·intro i
   have:=frozen_all_new ((w.alloc (Obj.cells #[.bool (a 0).e,.int .u64 (a 0).f,.int .u64 (a 0).l,.bool (a 1).e,.int .u64 (a 1).f,.int .u64 (a 1).l,.bool (a 2).e,.int .u64 (a 2).f,.int .u64 (a 2).l,.bool (a 3).e,.int .u64 (a 3).f,.int .u64 (a 3).l] 284)).alloc (Obj.cells #[.bool (b 0).e,.int .u64 (b 0).f,.int .u64 (b 0).l,.bool (b 1).e,.int .u64 (b 1).f,.int .u64 (b 1).l,.bool (b 2).e,.int .u64 (b 2).f,.int .u64 (b 2).l,.bool (b 3).e,.int .u64 (b 3).f,.int .u64 (b 3).l] 284)) [.bool false,.int .u64 0,.int .u64 0,.bool false,.int .u64 0,.int .u64 0,.bool false,.int .u64 0,.int .u64 0,.bool false,.int .u64 0,.int .u64 0] 284 i
   rwa [World.size_alloc,World.size_alloc] at this
 unfold pv
 go_enter Tryz.func220,Tryz.ntmps220
 go_wp2
 clear hW0
 go_loopw [5,6] (fun _ i wr=>∃ k:Nat,k≤4∧i=.int .i64 k∧EithI w a b (mixL a b k) wr) (fun _ i _=>4-(intOf i).toNat)
 case atStart=>exact⟨0,by decide,rfl,J0⟩
 case round=>
  obtain⟨k,hk,rfl,J⟩:=hrel
  obtain rfl | rfl | rfl | rfl | rfl:k=0∨k=1∨k=2∨k=3∨k=4:=by omega
  ·have c0:wr.cell? ⟨w.heap.size,0,none⟩=some (.bool (a 0).e):=J.ro 0
   have c1:wr.cell? ⟨w.heap.size,1,none⟩=some (.int .u64 (a 0).f):=J.ro 1
   have c2:wr.cell? ⟨w.heap.size,2,none⟩=some (.int .u64 (a 0).l):=J.ro 2
   have c3:wr.cell? ⟨w.heap.size+1,0,none⟩=some (.bool (b 0).e):=J.rb 0
   have c4:wr.cell? ⟨w.heap.size+1,1,none⟩=some (.int .u64 (b 0).f):=J.rb 1
   have c5:wr.cell? ⟨w.heap.size+1,2,none⟩=some (.int .u64 (b 0).l):=J.rb 2
   have z0:=J.zo 0
   have z1:=J.zo 1
   have z2:=J.zo 2
   have hset:∀ x:Bool,x=((a 0).e || (b 0).e)→(((mixL a b 0).set 0 (.bool x)).set 1 (.int .u64 ((a 0).f ||| (b 0).f:Nat))).set 2 (.int .u64 ((a 0).l ||| (b 0).l:Nat))=mixL a b 1:=by
    rintro x rfl;rfl
   cases he:(a 0).e
   all_goals
    rw[he] at c0
    go_wp2
    refine wp_region_tail 11 hm (by kernel_rfl) ?_
    simp only[List.take_succ_cons,List.take_zero,List.drop_succ_cons,List.drop_zero]
    repeat still_step
    refine wpStill_nil ?_
    go_wp2
    refine wp_region_tail 11 hm (by kernel_rfl) ?_
    simp only[List.take_succ_cons,List.take_zero,List.drop_succ_cons,List.drop_zero]
    repeat still_step
    refine wpStill_nil ?_
    go_wp2
    refine⟨⟨1,by decide,rfl,?_⟩,by decide⟩
    have JJ:=fun (x:Bool) (hx:x=((a 0).e || (b 0).e))=>(hset x hx) ▸ (((J.set 0 (by simp[mixL]) (.bool x)).set 1 (by simp[mixL]) (.int .u64 ((a 0).f ||| (b 0).f:Nat))).set 2 (by simp[mixL]) (.int .u64 ((a 0).l ||| (b 0).l:Nat))).drew.drew
    exact JJ _ (by rw[he];rfl)
  ·have c0:wr.cell? ⟨w.heap.size,3,none⟩=some (.bool (a 1).e):=J.ro 3
   have c1:wr.cell? ⟨w.heap.size,4,none⟩=some (.int .u64 (a 1).f):=J.ro 4
   have c2:wr.cell? ⟨w.heap.size,5,none⟩=some (.int .u64 (a 1).l):=J.ro 5
   have c3:wr.cell? ⟨w.heap.size+1,3,none⟩=some (.bool (b 1).e):=J.rb 3
   have c4:wr.cell? ⟨w.heap.size+1,4,none⟩=some (.int .u64 (b 1).f):=J.rb 4
   have c5:wr.cell? ⟨w.heap.size+1,5,none⟩=some (.int .u64 (b 1).l):=J.rb 5
   have z0:=J.zo 3
   have z1:=J.zo 4
   have z2:=J.zo 5
   have hset:∀ x:Bool,x=((a 1).e || (b 1).e)→(((mixL a b 1).set 3 (.bool x)).set 4 (.int .u64 ((a 1).f ||| (b 1).f:Nat))).set 5 (.int .u64 ((a 1).l ||| (b 1).l:Nat))=mixL a b 2:=by
    rintro x rfl;rfl
   cases he:(a 1).e
   all_goals
    rw[he] at c0
    go_wp2
    refine wp_region_tail 11 hm (by kernel_rfl) ?_
    simp only[List.take_succ_cons,List.take_zero,List.drop_succ_cons,List.drop_zero]
    repeat still_step
    refine wpStill_nil ?_
    go_wp2
    refine wp_region_tail 11 hm (by kernel_rfl) ?_
    simp only[List.take_succ_cons,List.take_zero,List.drop_succ_cons,List.drop_zero]
    repeat still_step
    refine wpStill_nil ?_
    go_wp2
    refine⟨⟨2,by decide,rfl,?_⟩,by decide⟩
    have JJ:=fun (x:Bool) (hx:x=((a 1).e || (b 1).e))=>(hset x hx) ▸ (((J.set 3 (by simp[mixL]) (.bool x)).set 4 (by simp[mixL]) (.int .u64 ((a 1).f ||| (b 1).f:Nat))).set 5 (by simp[mixL]) (.int .u64 ((a 1).l ||| (b 1).l:Nat))).drew.drew
    exact JJ _ (by rw[he];rfl)
  ·have c0:wr.cell? ⟨w.heap.size,6,none⟩=some (.bool (a 2).e):=J.ro 6
   have c1:wr.cell? ⟨w.heap.size,7,none⟩=some (.int .u64 (a 2).f):=J.ro 7
   have c2:wr.cell? ⟨w.heap.size,8,none⟩=some (.int .u64 (a 2).l):=J.ro 8
   have c3:wr.cell? ⟨w.heap.size+1,6,none⟩=some (.bool (b 2).e):=J.rb 6
   have c4:wr.cell? ⟨w.heap.size+1,7,none⟩=some (.int .u64 (b 2).f):=J.rb 7
   have c5:wr.cell? ⟨w.heap.size+1,8,none⟩=some (.int .u64 (b 2).l):=J.rb 8
   have z0:=J.zo 6
   have z1:=J.zo 7
   have z2:=J.zo 8
   have hset:∀ x:Bool,x=((a 2).e || (b 2).e)→(((mixL a b 2).set 6 (.bool x)).set 7 (.int .u64 ((a 2).f ||| (b 2).f:Nat))).set 8 (.int .u64 ((a 2).l ||| (b 2).l:Nat))=mixL a b 3:=by
    rintro x rfl;rfl
   cases he:(a 2).e
   all_goals
    rw[he] at c0
    go_wp2
    refine wp_region_tail 11 hm (by kernel_rfl) ?_
    simp only[List.take_succ_cons,List.take_zero,List.drop_succ_cons,List.drop_zero]
    repeat still_step
    refine wpStill_nil ?_
    go_wp2
    refine wp_region_tail 11 hm (by kernel_rfl) ?_
    simp only[List.take_succ_cons,List.take_zero,List.drop_succ_cons,List.drop_zero]
    repeat still_step
    refine wpStill_nil ?_
    go_wp2
    refine⟨⟨3,by decide,rfl,?_⟩,by decide⟩
    have JJ:=fun (x:Bool) (hx:x=((a 2).e || (b 2).e))=>(hset x hx) ▸ (((J.set 6 (by simp[mixL]) (.bool x)).set 7 (by simp[mixL]) (.int .u64 ((a 2).f ||| (b 2).f:Nat))).set 8 (by simp[mixL]) (.int .u64 ((a 2).l ||| (b 2).l:Nat))).drew.drew
    exact JJ _ (by rw[he];rfl)
  ·have c0:wr.cell? ⟨w.heap.size,9,none⟩=some (.bool (a 3).e):=J.ro 9
   have c1:wr.cell? ⟨w.heap.size,10,none⟩=some (.int .u64 (a 3).f):=J.ro 10
   have c2:wr.cell? ⟨w.heap.size,11,none⟩=some (.int .u64 (a 3).l):=J.ro 11
   have c3:wr.cell? ⟨w.heap.size+1,9,none⟩=some (.bool (b 3).e):=J.rb 9
   have c4:wr.cell? ⟨w.heap.size+1,10,none⟩=some (.int .u64 (b 3).f):=J.rb 10
   have c5:wr.cell? ⟨w.heap.size+1,11,none⟩=some (.int .u64 (b 3).l):=J.rb 11
   have z0:=J.zo 9
   have z1:=J.zo 10
   have z2:=J.zo 11
   have hset:∀ x:Bool,x=((a 3).e || (b 3).e)→(((mixL a b 3).set 9 (.bool x)).set 10 (.int .u64 ((a 3).f ||| (b 3).f:Nat))).set 11 (.int .u64 ((a 3).l ||| (b 3).l:Nat))=mixL a b 4:=by
    rintro x rfl;rfl
   cases he:(a 3).e
   all_goals
    rw[he] at c0
    go_wp2
    refine wp_region_tail 11 hm (by kernel_rfl) ?_
    simp only[List.take_succ_cons,List.take_zero,List.drop_succ_cons,List.drop_zero]
    repeat still_step
    refine wpStill_nil ?_
    go_wp2
    refine wp_region_tail 11 hm (by kernel_rfl) ?_
    simp only[List.take_succ_cons,List.take_zero,List.drop_succ_cons,List.drop_zero]
    repeat still_step
    refine wpStill_nil ?_
    go_wp2
    refine⟨⟨4,by decide,rfl,?_⟩,by decide⟩
    have JJ:=fun (x:Bool) (hx:x=((a 3).e || (b 3).e))=>(hset x hx) ▸ (((J.set 9 (by simp[mixL]) (.bool x)).set 10 (by simp[mixL]) (.int .u64 ((a 3).f ||| (b 3).f:Nat))).set 11 (by simp[mixL]) (.int .u64 ((a 3).l ||| (b 3).l:Nat))).drew.drew
    exact JJ _ (by rw[he];rfl)
  ·have x0:wr.cell? ⟨w.heap.size,0,none⟩=some (.bool ((a 0).e || (b 0).e)):=J.ro 0
   have y0:wr.cell? ⟨w.heap.size+1+1,0,none⟩=some (.bool false):=J.rr 0
   have z0:=J.zr 0
   have x1:wr.cell? ⟨w.heap.size,1,none⟩=some (.int .u64 ((a 0).f ||| (b 0).f:Nat)):=J.ro 1
   have y1:wr.cell? ⟨w.heap.size+1+1,1,none⟩=some (.int .u64 0):=J.rr 1
   have z1:=J.zr 1
   have x2:wr.cell? ⟨w.heap.size,2,none⟩=some (.int .u64 ((a 0).l ||| (b 0).l:Nat)):=J.ro 2
   have y2:wr.cell? ⟨w.heap.size+1+1,2,none⟩=some (.int .u64 0):=J.rr 2
   have z2:=J.zr 2
   have x3:wr.cell? ⟨w.heap.size,3,none⟩=some (.bool ((a 1).e || (b 1).e)):=J.ro 3
   have y3:wr.cell? ⟨w.heap.size+1+1,3,none⟩=some (.bool false):=J.rr 3
   have z3:=J.zr 3
   have x4:wr.cell? ⟨w.heap.size,4,none⟩=some (.int .u64 ((a 1).f ||| (b 1).f:Nat)):=J.ro 4
   have y4:wr.cell? ⟨w.heap.size+1+1,4,none⟩=some (.int .u64 0):=J.rr 4
   have z4:=J.zr 4
   have x5:wr.cell? ⟨w.heap.size,5,none⟩=some (.int .u64 ((a 1).l ||| (b 1).l:Nat)):=J.ro 5
   have y5:wr.cell? ⟨w.heap.size+1+1,5,none⟩=some (.int .u64 0):=J.rr 5
   have z5:=J.zr 5
   have x6:wr.cell? ⟨w.heap.size,6,none⟩=some (.bool ((a 2).e || (b 2).e)):=J.ro 6
   have y6:wr.cell? ⟨w.heap.size+1+1,6,none⟩=some (.bool false):=J.rr 6
   have z6:=J.zr 6
   have x7:wr.cell? ⟨w.heap.size,7,none⟩=some (.int .u64 ((a 2).f ||| (b 2).f:Nat)):=J.ro 7
   have y7:wr.cell? ⟨w.heap.size+1+1,7,none⟩=some (.int .u64 0):=J.rr 7
   have z7:=J.zr 7
   have x8:wr.cell? ⟨w.heap.size,8,none⟩=some (.int .u64 ((a 2).l ||| (b 2).l:Nat)):=J.ro 8
   have y8:wr.cell? ⟨w.heap.size+1+1,8,none⟩=some (.int .u64 0):=J.rr 8
   have z8:=J.zr 8
   have x9:wr.cell? ⟨w.heap.size,9,none⟩=some (.bool ((a 3).e || (b 3).e)):=J.ro 9
   have y9:wr.cell? ⟨w.heap.size+1+1,9,none⟩=some (.bool false):=J.rr 9
   have z9:=J.zr 9
   have x10:wr.cell? ⟨w.heap.size,10,none⟩=some (.int .u64 ((a 3).f ||| (b 3).f:Nat)):=J.ro 10
   have y10:wr.cell? ⟨w.heap.size+1+1,10,none⟩=some (.int .u64 0):=J.rr 10
   have z10:=J.zr 10
   have x11:wr.cell? ⟨w.heap.size,11,none⟩=some (.int .u64 ((a 3).l ||| (b 3).l:Nat)):=J.ro 11
   have y11:wr.cell? ⟨w.heap.size+1+1,11,none⟩=some (.int .u64 0):=J.rr 11
   have z11:=J.zr 11
   go_wp2
   refine bodyPost_ret (v:=pv (eitherF a b)) (by simp[results,Tryz.results220,go_sem,pv,eitherF,x0,x1,x2,x3,x4,x5,x6,x7,x8,x9,x10,x11,y0,y1,y2,y3,y4,y5,y6,y7,y8,y9,y10,y11]) rfl ⟨rfl,?_⟩
   have hfr:=far_sets wr (w.heap.size+1+1) (.bool ((a 0).e || (b 0).e)) (.int .u64 ((a 0).f ||| (b 0).f:Nat)) (.int .u64 ((a 0).l ||| (b 0).l:Nat)) (.bool ((a 1).e || (b 1).e)) (.int .u64 ((a 1).f ||| (b 1).f:Nat)) (.int .u64 ((a 1).l ||| (b 1).l:Nat)) (.bool ((a 2).e || (b 2).e)) (.int .u64 ((a 2).f ||| (b 2).f:Nat)) (.int .u64 ((a 2).l ||| (b 2).l:Nat)) (.bool ((a 3).e || (b 3).e)) (.int .u64 ((a 3).f ||| (b 3).f:Nat)) (.int .u64 ((a 3).l ||| (b 3).l:Nat))
   exact J.fr.trans' hfr (by simp;omega)
def Post (w:World) (r pb:Nat) (t:ByteArray) (wh:Nat→Value) (x:Piece × St):Ending→World→Prop:=fun e w'=>e=.returned (pv x.1)∧M w' r pb t wh x.2∧Fr [r,pb] w w'
def SaidAlt (n:Nat):Prop:=∀ (w:World) (r pb:Nat) (t:ByteArray) (wh:Nat→Value) (s:St),M w r pb t wh s→Inv t s→t.size≤50→6*(t.size-s.pos)+6≤n→Calls Tryz.prog 192 #[.pointer (some ⟨r,0,none⟩)] w (Post w r pb t wh (altF t n s))
def SaidSeq (n:Nat):Prop:=∀ (w:World) (r pb:Nat) (t:ByteArray) (wh:Nat→Value) (s:St),M w r pb t wh s→Inv t s→t.size≤50→6*(t.size-s.pos)+4≤n→Calls Tryz.prog 218 #[.pointer (some ⟨r,0,none⟩)] w (Post w r pb t wh (seqF t n s))
def SaidPart (n:Nat):Prop:=∀ (w:World) (r pb:Nat) (t:ByteArray) (wh:Nat→Value) (s:St),M w r pb t wh s→Inv t s→t.size≤50→peekF t s≠-1→6*(t.size-s.pos)+2≤n→Calls Tryz.prog 258 #[.pointer (some ⟨r,0,none⟩)] w (Post w r pb t wh (partF t n s))
def SaidAtom (n:Nat):Prop:=∀ (w:World) (r pb:Nat) (t:ByteArray) (wh:Nat→Value) (s:St),M w r pb t wh s→Inv t s→t.size≤50→peekF t s≠-1→6*(t.size-s.pos)+1≤n→Calls Tryz.prog 289 #[.pointer (some ⟨r,0,none⟩)] w (Post w r pb t wh (atomF t n s))
theorem Inv.tk64 {t:ByteArray}{s:St} (h:Inv t s) (hs:t.size≤50) (b:Nat):s.tk b<18446744073709551616:=
 Nll (h.tk b) (Nat.le_trans (Nat.pow_le_pow_right (n:=2) (by decide) (show s.atoms≤50 by have:=h.at_;have:=h.pos;omega)) (by decide))
theorem Inv.fo64 {t:ByteArray}{s:St} (h:Inv t s) (hs:t.size≤50) (x a:Nat):s.fo x a<18446744073709551616:=
 Nll (h.fo x a) (Nat.le_trans (Nat.pow_le_pow_right (n:=2) (by decide) (show s.atoms≤50 by have:=h.at_;have:=h.pos;omega)) (by decide))
theorem PB.ok {n:Nat}{q:Piece} (h:PB n q) (hn:n≤50):q.ok:=fun x=>
 ⟨Nll (h x).1 (Nat.le_trans (Nat.pow_le_pow_right (n:=2) (by decide) hn) (by decide)),Nll (h x).2 (Nat.le_trans (Nat.pow_le_pow_right (n:=2) (by decide) hn) (by decide))⟩
theorem PB.l50 {n:Nat}{q:Piece} (h:PB n q) (hn:n≤50) (x:Nat):(q x).l<1125899906842624:=
 Nll (h x).2 (Nat.le_trans (Nat.pow_le_pow_right (n:=2) (by decide) hn) (by decide))
theorem Res.drewN {b:Nat}{W:World} (h:Res b W) (n:Nat):Res b (W.drewN n):=⟨h.rr,h.zr⟩
section
variable {w : World} {r pb : Nat} {t : ByteArray} {wh : Nat → Value} {s : St}
theorem atom_group (n:Nat)(hA:SaidAlt n)(h:M w r pb t wh s)(hi:Inv t s)(hs:t.size≤50)(hc:peekF t s=40)(hn:6*(t.size-s.pos)+1≤n+1) :
  Calls Tryz.prog 289 #[.pointer (some ⟨r,0,none⟩)] w (Post w r pb t wh ((altF t n (advF s)).1,needF t (altF t n (advF s)).2 41)):=by
 have t6:=h.tab.lt
 have hp:peekF t s≠-1:=by rw[hc];decide
 have hrl:=h.rlt
 have hpl:=h.pat.lt
 have hps:=hi.pos
 have hat:=hi.at_
 have hlt:=(peek_ne hp).2
 have hadv:=hi.adv hp
 have e40:(peekF t s==40)=true:=by simp[hc]
 have gv:=(givesAll t n).alt _ hadv
 have hpo:=gv.inv.pos
 have hal:=fun (W:World) (hW:M W r pb t wh (advF s))=>hA W r pb t wh (advF s) hW hadv hs (by simp[advF];omega)
 unfold Post at hal ⊢
 obtain⟨q,hq⟩:∃ q,(altF t n (advF s)).1=q:=⟨_,rfl⟩
 obtain⟨s1,hs1⟩:∃ q,(altF t n (advF s)).2=q:=⟨_,rfl⟩
 simp only[hq,hs1] at hal hpo ⊢
 clear hq hs1 gv
 have hnd:=fun (W:World) (hW:M W r pb t wh s1)=>need_any 41 hW hs (by omega)
 obtain⟨q',hq⟩:∃ q',q=q':=⟨_,rfl⟩
 obtain⟨sq,hsq⟩:∃ q,needF t s1 41=q:=⟨_,rfl⟩
 simp only[hsq] at hnd
 have Hq:Hid (q=q):=rfl
 have Hs:Hid (_=sq):=hsq
 have Hal:=(show Hid _ from hal)
 have Hnd:=(show Hid _ from hnd)
 clear hsq hal hnd hc hq q'
 go_enter Tryz.func289,Tryz.ntmps289
 go_wp2_with fail
 refine (peek_any (h.fr (((Fr.refl [] w).alloc (Obj.cells #[.bool false,.int .u64 0,.int .u64 0,.bool false,.int .u64 0,.int .u64 0,.bool false,.int .u64 0,.int .u64 0,.bool false,.int .u64 0,.int .u64 0] 284))) (by simp) (by simp) (by simp)) hs).mono ?_
 rintro e w1 ⟨rfl,n1,rfl⟩
 have m1:M ((w.alloc (Obj.cells #[.bool false,.int .u64 0,.int .u64 0,.bool false,.int .u64 0,.int .u64 0,.bool false,.int .u64 0,.int .u64 0,.bool false,.int .u64 0,.int .u64 0] 284)).drewN n1) r pb t wh s:=(h.fr (((Fr.refl [] w).alloc (Obj.cells #[.bool false,.int .u64 0,.int .u64 0,.bool false,.int .u64 0,.int .u64 0,.bool false,.int .u64 0,.int .u64 0,.bool false,.int .u64 0,.int .u64 0] 284))) (by simp) (by simp) (by simp)).heap rfl
 have R1:=(Res.new w).drewN n1
 have F1:Fr [r,pb] w ((w.alloc (Obj.cells #[.bool false,.int .u64 0,.int .u64 0,.bool false,.int .u64 0,.int .u64 0,.bool false,.int .u64 0,.int .u64 0,.bool false,.int .u64 0,.int .u64 0] 284)).drewN n1):=((Fr.refl _ w).alloc _).drewN n1
 generalize (w.alloc (Obj.cells #[.bool false,.int .u64 0,.int .u64 0,.bool false,.int .u64 0,.int .u64 0,.bool false,.int .u64 0,.int .u64 0,.bool false,.int .u64 0,.int .u64 0] 284)).drewN n1=W1 at *
 have c1:=m1.rd.c1
 have z1:=m1.rd.f1
 have p1:(s.pos:Int)≤50:=by omega
 go_wp2_with fail
 have m2:=m1.adv
 have f2:Fr [r] W1 (W1.setCell ⟨r,1,none⟩ (.int .i64 ((s.pos:Int)+1))):=(Fr.refl [r] W1).setCell (p:=⟨r,1,none⟩) (.inl (by simp)) _
 have R2:=R1.fr f2 (by simp;omega)
 have F2:=F1.trans (f2.mono (S':=[r,pb]) (by simp))
 clear c1 z1 m1 R1 F1 f2
 refine (Hal.out _ m2).mono ?_
 clear m2
 rintro e w3 ⟨rfl,m3,f3⟩
 have R3:=R2.fr f3 (by simp;omega)
 have F3:=F2.trans f3
 clear R2 F2 f3
 have f4:Fr [] w3 (w3.alloc (Obj.cells #[.bool (q 0).e,.int .u64 (q 0).f,.int .u64 (q 0).l,.bool (q 1).e,.int .u64 (q 1).f,.int .u64 (q 1).l,.bool (q 2).e,.int .u64 (q 2).f,.int .u64 (q 2).l,.bool (q 3).e,.int .u64 (q 3).f,.int .u64 (q 3).l] 284)):=(Fr.refl _ _).alloc _
 have m4:=m3.fr f4 (by simp) (by simp) (by simp)
 have R4:=R3.fr f4 (by simp)
 have F4:=F3.trans (f4.mono (S':=[r,pb]) (by simp))
 have O4:=rowIs_new w3 [.bool (q 0).e,.int .u64 (q 0).f,.int .u64 (q 0).l,.bool (q 1).e,.int .u64 (q 1).f,.int .u64 (q 1).l,.bool (q 2).e,.int .u64 (q 2).f,.int .u64 (q 2).l,.bool (q 3).e,.int .u64 (q 3).f,.int .u64 (q 3).l] 284
 have s3:=F3.size
 have R3lt:=R3.lt
 have l4:w3.heap.size<(w3.alloc (Obj.cells #[.bool (q 0).e,.int .u64 (q 0).f,.int .u64 (q 0).l,.bool (q 1).e,.int .u64 (q 1).f,.int .u64 (q 1).l,.bool (q 2).e,.int .u64 (q 2).f,.int .u64 (q 2).l,.bool (q 3).e,.int .u64 (q 3).f,.int .u64 (q 3).l] 284)).heap.size:=by simp
 clear f4
 unfold pv
 go_wp2_with fail
 refine (Hnd.out _ m4).mono ?_
 rintro e w5 ⟨rfl,m5,f5⟩
 have R5:=R4.fr f5 (by simp;omega)
 have F5:=F4.trans (f5.mono (S':=[r,pb]) (by simp))
 have O5:=O4.fr f5 (by simp;omega) l4
 have x0:w5.cell? ⟨w3.heap.size,0,none⟩=some (.bool (q 0).e):=O5 0
 have x1:w5.cell? ⟨w3.heap.size,1,none⟩=some (.int .u64 (q 0).f):=O5 1
 have x2:w5.cell? ⟨w3.heap.size,2,none⟩=some (.int .u64 (q 0).l):=O5 2
 have x3:w5.cell? ⟨w3.heap.size,3,none⟩=some (.bool (q 1).e):=O5 3
 have x4:w5.cell? ⟨w3.heap.size,4,none⟩=some (.int .u64 (q 1).f):=O5 4
 have x5:w5.cell? ⟨w3.heap.size,5,none⟩=some (.int .u64 (q 1).l):=O5 5
 have x6:w5.cell? ⟨w3.heap.size,6,none⟩=some (.bool (q 2).e):=O5 6
 have x7:w5.cell? ⟨w3.heap.size,7,none⟩=some (.int .u64 (q 2).f):=O5 7
 have x8:w5.cell? ⟨w3.heap.size,8,none⟩=some (.int .u64 (q 2).l):=O5 8
 have x9:w5.cell? ⟨w3.heap.size,9,none⟩=some (.bool (q 3).e):=O5 9
 have x10:w5.cell? ⟨w3.heap.size,10,none⟩=some (.int .u64 (q 3).f):=O5 10
 have x11:w5.cell? ⟨w3.heap.size,11,none⟩=some (.int .u64 (q 3).l):=O5 11
 obtain⟨y0,y1,y2,y3,y4,y5,y6,y7,y8,y9,y10,y11⟩:=R5.al
 obtain⟨z0,z1,z2,z3,z4,z5,z6,z7,z8,z9,z10,z11⟩:=R5.az
 go_wp2
 have hfr:=far_sets w5 w.heap.size (.bool (q 0).e) (.int .u64 (q 0).f) (.int .u64 (q 0).l) (.bool (q 1).e) (.int .u64 (q 1).f) (.int .u64 (q 1).l) (.bool (q 2).e) (.int .u64 (q 2).f) (.int .u64 (q 2).l) (.bool (q 3).e) (.int .u64 (q 3).f) (.int .u64 (q 3).l)
 refine bodyPost_ret (v:=pv q) (by simp[results,Tryz.results289,go_sem,pv,y0,y1,y2,y3,y4,y5,y6,y7,y8,y9,y10,y11]) rfl ⟨rfl,?_,?_⟩
 ·rw[Hs.out];exact m5.fr hfr (by simp;omega) (by simp;omega) (by simp;omega)
 ·exact F5.trans' hfr (by simp)
end
end Go.Proofs.YtclkgoigmgkffaaGreatDoor
