import Derived.Test.YtlokkgajpjafmaaGreatDoorM07
set_option linter.unusedSimpArgs false
set_option linter.unusedVariables false
set_option maxRecDepth 100000
set_option maxHeartbeats 40000000
open _root_.Go.Proofs.Tryz
namespace Go.Proofs.YtlokkgajpjafmaaGreatDoor
variable {t:BA}
theorem oD.trans {s s1:St}{x:Piece × St} (h:oD t s1 x) (hp:s.pos≤s1.pos) (ha:s.atoms≤s1.atoms):oD t s x:=⟨h.inv,h.pb,Nat.le_trans hp h.le,Nat.le_trans ha h.al⟩
theorem oT (s:St)(f:Nat→NN):aH t { s with fo:=f }=aH t s:=rfl
structure aRp (t:BA) (n:Nat):Prop where
 alt:∀ s,Inv t s→oD t s (uD t n s)
 altL:∀ q s,Inv t s→PB s.atoms q→oD t s (sZ t n q s)
 seq:∀ s,Inv t s→oD t s (vE t n s)
 seqL:∀ q s,Inv t s→PB s.atoms q→oD t s (sD t n q s)
 part:∀ s,Inv t s→aH t s≠-1→oD t s (jH t n s)
 partL:∀ q s,Inv t s→PB s.atoms q→oD t s (nG t n q s)
 atom:∀ s,Inv t s→aH t s≠-1→oD t s (uZ t n s)
theorem fD (t:BA):∀ n,aRp t n
 | 0=>⟨fun s h=>⟨h,PB.nothing _,Nat.le_refl _,Nat.le_refl _⟩,fun _ s h hq=>⟨h,hq,Nat.le_refl _,Nat.le_refl _⟩,fun s h=>⟨h,PB.nothing _,Nat.le_refl _,Nat.le_refl _⟩,fun _ s h hq=>⟨h,hq,Nat.le_refl _,Nat.le_refl _⟩,
   fun s h _=>⟨h,PB.nothing _,Nat.le_refl _,Nat.le_refl _⟩,fun _ s h hq=>⟨h,hq,Nat.le_refl _,Nat.le_refl _⟩,fun s h _=>⟨h,PB.nothing _,Nat.le_refl _,Nat.le_refl _⟩⟩
 | n+1=>by
  have ih:=fD t n
  refine⟨fun s h=>?_,fun q s h hq=>?_,fun s h=>?_,fun q s h hq=>?_,fun s h hp=>?_,fun q s h hq=>?_,fun s h hp=>?_⟩
  ·rw[aRj]
   have g:=ih.seq s h
   exact (ih.altL _ _ g.inv g.pb).trans g.le g.al
  ·rw[U8]
   split
   ·rename_i hc
    have ha:=h.adv (by rw[hc];decide)
    have g:=ih.seq _ ha
    have g2:=ih.altL _ _ g.inv ((hq.mono g.al).either g.pb)
    exact g2.trans (Nat.le_trans (by simp[aW]) g.le) g.al
   ·exact⟨h,hq,Nat.le_refl _,Nat.le_refl _⟩
  ·rw[aMy]
   exact ih.seqL _ _ h (PB.nothing _)
  ·rw[I9]
   split
   ·exact⟨h,hq,Nat.le_refl _,Nat.le_refl _⟩
   ·rename_i hc
    have g:=ih.part s h (fun e=>hc (.inl e))
    have g2:=ih.seqL (joinF q (jH t n s).1) { (jH t n s).2 with fo:=oE (jH t n s).2.fo q (jH t n s).1 } (g.inv.tie g.pb) ((hq.mono g.al).join g.pb)
    exact g2.trans g.le g.al
  ·rw[N2]
   have g:=ih.atom s h hp
   exact (ih.partL _ _ g.inv g.pb).trans g.le g.al
  ·rw[aAr]
   split
   ·rename_i hc
    have hi:=h.tie (q:=q) hq
    have ha:=hi.adv (s:={ s with fo:=oE s.fo q q }) (by rw[oT,hc];decide)
    exact (ih.partL _ _ ha (hq.either (PB.nothing _))).trans (by simp[aW]) (Nat.le_refl _)
   ·split
    ·rename_i _ hc
     have hi:=h.tie (q:=q) hq
     have ha:=hi.adv (s:={ s with fo:=oE s.fo q q }) (by rw[oT,hc];decide)
     exact (ih.partL _ _ ha hq).trans (by simp[aW]) (Nat.le_refl _)
    ·split
     ·rename_i _ _ hc
      have ha:=h.adv (by rw[hc];decide)
      exact (ih.partL _ _ ha (hq.either (PB.nothing _))).trans (by simp[aW]) (Nat.le_refl _)
     ·exact⟨h,hq,Nat.le_refl _,Nat.le_refl _⟩
  ·rw[U4]
   have ha:=h.adv hp
   have hlt:(aW s).atoms<(aW s).pos:=by have:=h.at_;simp[aW];omega
   split
   ·have g:=ih.alt _ ha
    have nn:=mM (t:=t) (uD t n (aW s)).2 41 (by decide)
    refine⟨nn.inv g.inv,?_,Nat.le_trans (Nat.le_trans (by simp[aW]) g.le) nn.le,?_⟩
    ·rw[nn.atoms];exact g.pb
    ·rw[nn.atoms];exact g.al
   ·split
    ·exact (uU n _ ha hlt).trans (by simp[aW]) (Nat.le_refl _)
    ·split
     ·exact xI s 0 255 ha hlt (by simp[aW]) (Nat.le_refl _)
     ·split
      ·exact⟨ha,PB.anchor _ _,by simp[aW],Nat.le_refl _⟩
      ·split
       ·exact⟨ha,PB.anchor _ _,by simp[aW],Nat.le_refl _⟩
       ·obtain⟨hn,hl⟩:=qS s hp
        exact xI s _ _ (hn.inv h) (by rw[hn.atoms];have:=h.at_;omega) hn.le (by rw[hn.atoms];exact Nat.le_refl _)
theorem aLv {n:Nat}{s:St} (h:Inv t s) (hp:aH t s≠-1):s.pos<(uZ t (n+1) s).2.pos:=by
 have ha:=h.adv hp;have hlt:(aW s).atoms<(aW s).pos:=by have:=h.at_;simp[aW];omega
 have e1:s.pos<(aW s).pos:=by simp[aW]
 rw[U4];split
 ·have g:=(fD t n).alt _ ha;have nn:=mM (t:=t) (uD t n (aW s)).2 41 (by decide);exact Nll (Nll e1 g.le) nn.le
 split
 ·exact Nll e1 (uU n _ ha hlt).le
 split
 ·exact e1
 split
 ·exact e1
 split
 ·exact e1
 exact (qS s hp).2
theorem aJo {n:Nat}{s:St} (h:Inv t s) (hp:aH t s≠-1):s.pos<(jH t (n+2) s).2.pos:=by
 rw[N2];have g:=(fD t (n+1)).atom s h hp;exact Nll (aLv h hp) ((fD t (n+1)).partL _ _ g.inv g.pb).le
open Go.RowKit
structure Res (b:Nat) (W:WL):Prop where
 rr:fY W b [.bool false,.int .u64 0,.int .u64 0,.bool false,.int .u64 0,.int .u64 0,.bool false,.int .u64 0,.int .u64 0,.bool false,.int .u64 0,.int .u64 0]
 zr:∀ i,W.frozen? ⟨b,i,none⟩=false
theorem Res.lt {b:Nat}{W:WL} (h:Res b W):b<W.heap.size:=aB (a:=Ad b 0) (h.rr 0)
theorem Res.al {b:Nat}{W:WL}(h:Res b W):W.cell? (Ad b 0)=some (.bool false)∧W.cell? (Ad b 1)=some (uA 0)∧W.cell? (Ad b 2)=some (uA 0)∧W.cell? (Ad b 3)=some (.bool false)∧W.cell? (Ad b 4)=some (uA 0)∧W.cell? (Ad b 5)=some (uA 0)∧W.cell? (Ad b 6)=some (.bool false)∧W.cell? (Ad b 7)=some (uA 0)∧W.cell? (Ad b 8)=some (uA 0)∧W.cell? (Ad b 9)=some (.bool false)∧W.cell? (Ad b 10)=some (uA 0)∧W.cell? (Ad b 11)=some (uA 0):=⟨h.rr 0,h.rr 1,h.rr 2,h.rr 3,h.rr 4,h.rr 5,h.rr 6,h.rr 7,h.rr 8,h.rr 9,h.rr 10,h.rr 11⟩
theorem Res.az {b:Nat}{W:WL}(h:Res b W):W.frozen? (Ad b 0)=false∧W.frozen? (Ad b 1)=false∧W.frozen? (Ad b 2)=false∧W.frozen? (Ad b 3)=false∧W.frozen? (Ad b 4)=false∧W.frozen? (Ad b 5)=false∧W.frozen? (Ad b 6)=false∧W.frozen? (Ad b 7)=false∧W.frozen? (Ad b 8)=false∧W.frozen? (Ad b 9)=false∧W.frozen? (Ad b 10)=false∧W.frozen? (Ad b 11)=false:=⟨h.zr 0,h.zr 1,h.zr 2,h.zr 3,h.zr 4,h.zr 5,h.zr 6,h.zr 7,h.zr 8,h.zr 9,h.zr 10,h.zr 11⟩
theorem Res.fr {S:LN}{b:Nat}{W W':WL} (h:Res b W) (hf:Fr S W W') (hb:b ∉ S):Res b W':=⟨h.rr.fr hf hb h.lt,fun i=>(hf.frozen (p:=Ad b i) h.lt hb).trans (h.zr i)⟩
theorem Res.new (W:WL):Res W.heap.size (W.alloc (Obj.cells #[.bool false,uA 0,uA 0,.bool false,uA 0,uA 0,.bool false,uA 0,uA 0,.bool false,uA 0,uA 0] 120)):=⟨bW W _ 120,bT W _ 120⟩
structure ClI (w:WL) (r pb:Nat) (t:BA) (wh:Nat→Value) (s:St) (C:(Nat→Bool) × St) (m:Nat) (P:Nat→Bool) (s1:St) (W:WL):Prop where
 mm:M W r pb t wh s1
 by_:dB W (w.heap.size+1) P
 res:Res w.heap.size W
 fr:Fr [r,pb] w W
 eq:Hid (gB t m P s1=C)
 near:mE t s s1
 fuel:s1.fault=true∨t.size-s1.pos<m
theorem aLp {w:WL}{r pb:Nat}{t:BA}{wh:Nat→Value}{s:St} (n:Nat) (h:M w r pb t wh s) (hi:Inv t s) (hs:t.size≤50) (hn:t.size-s.pos<n) (ha:s.atoms<50) :
  Calls prog 199 #[.pointer (some (Ad r 0))] w fun e w'=>e=.returned (pv (rC t n s).1)∧M w' r pb t wh (rC t n s).2∧Fr [r,pb] w w':=by
 have hrl:=h.rlt;have hpl:=h.pat.lt;have t6:=h.tab.lt;have hps:=hi.pos;unfold rC;simp only;have n1:=mH (t:=t) s 94 (by decide);have hsk:=fun (W:WL) (hW:M W r pb t wh s)=>oO 94 hW hs (by omega);obtain⟨a1,hq1⟩:∃ q,(cG t s 94).1=q:=⟨_,rfl⟩;obtain⟨s1,hq2⟩:∃ q,(cG t s 94).2=q:=⟨_,rfl⟩;simp only[hq1,hq2] at hsk n1 ⊢;clear hq1 hq2;have hp1:s1.pos≤t.size:=n1.pos hps;have n2:=pQ (t:=t) s1 (fun _=>false);have g2:=C6 (t:=t) s1 (fun _=>false);have hit:=fun (W:WL) (hW:M W r pb t wh s1) (hB:dB W (w.heap.size+1) (fun _=>false))=>aCd (w.heap.size+1) (fun _=>false) hW hB (by omega) (by omega) (by omega) hs (by omega);obtain⟨P2,hq3⟩:∃ q,(fC t s1 (fun _=>false)).1=q:=⟨_,rfl⟩;obtain⟨s2,hq4⟩:∃ q,(fC t s1 (fun _=>false)).2=q:=⟨_,rfl⟩;simp only[hq3,hq4] at hit n2 g2 ⊢;clear hq3 hq4;obtain⟨C,hC⟩:=eXi (gB t n P2 s2);have n3:mE t s2 C.2:=by rw[← hC];exact pF n P2 s2
 rw[hC];have HC:Hid (gB t n P2 s2=C):=hC;clear hC;have Hsk:=(show Hid _ from hsk);have Hit:=(show Hid _ from hit);clear hsk hit;have f0:Fr [] w ((w.alloc (Obj.cells #[.bool false,uA 0,uA 0,.bool false,uA 0,uA 0,.bool false,uA 0,uA 0,.bool false,uA 0,uA 0] 120)).alloc (Obj.cells zeroCells256 256)):=((Fr.refl [] _).alloc _).alloc _;have b0:=dB.new (w.alloc (Obj.cells #[.bool false,uA 0,uA 0,.bool false,uA 0,uA 0,.bool false,uA 0,uA 0,.bool false,uA 0,uA 0] 120));rw[World.size_alloc] at b0;have R0:=(Res.new w).fr ((Fr.refl [] _).alloc (Obj.cells zeroCells256 256)) (by simp);have m0:=h.fr f0 (by simp) (by simp) (by simp);go_enter func199,ntmps199;go_wp2_with fail;refine (Hsk.out _ m0).mono ?_;rintro e w1 ⟨rfl,m1,f1⟩;have b1:=b0.fr f1 (by simp;omega);have R1:=R0.fr f1 (by simp;omega);have F1:Fr [r,pb] w w1:=(f0.mono (by simp)).trans (f1.mono (by simp));clear b0 R0 m0 f1 f0;go_wp2_with fail;refine (Hit.out _ m1 b1).mono ?_;rintro e w2 ⟨rfl,m2,b2,f2⟩;have R2:=R1.fr f2 (by simp;omega);have F2:Fr [r,pb] w w2:=F1.trans' f2 (by simp);clear b1 R1 f2;go_wp2
 go_loopg [10] n (fun m _ wr=>∃ P s1,ClI w r pb t wh s C m P s1 wr)
 case atStart=>exact⟨P2,s2,m2,b2,R2,F2,HC,n1.trans n2,g2.imp id (fun g=>by have:=n1.le;omega)⟩
 case round=>
  obtain⟨P,s3,J⟩:=hrel;cases hf:s3.fault
  ·have c2:wr.cell? (Ad r 2)=some (.bool false):=by rw[← hf];exact J.mm.rd.c2
   have hfu:t.size-s3.pos<gk:=J.fuel.elim (fun e=>by rw[hf] at e;cases e) id;obtain⟨m',rfl⟩:∃ m',gk=m'+1:=⟨gk-1,by omega⟩;have heq:=J.eq.out;unfold gB at heq;by_cases h93:aH t s3=93
   ·rw[if_pos (.inr h93)] at heq;obtain⟨rfl,rfl⟩:P=C.1∧s3=C.2:=by rw[← heq];exact⟨rfl,rfl⟩
    clear heq;have nC:=J.near;have hnd:=fun (W:WL) (hW:M W r pb t wh C.2)=>yE 93 hW hs (by have:=nC.pos hps;omega);have nN:=nC.trans (mM (t:=t) C.2 93 (by decide));have hat:(gM t C.2 93).atoms<50:=by rw[nN.atoms];exact ha
    have htk:∀ b,(gM t C.2 93).tk b<18446744073709551616:=fun b=>by
     rw[nN.tk];exact Nat.lt_trans (hi.tk b) (Nat.lt_trans (Nat.pow_lt_pow_right (a:=2) (by decide) ha) (by decide))
    have htf:=fun (W:WL) (hW:M W r pb t wh (gM t C.2 93)) (hB:dB W (w.heap.size+1) C.1)=>qN (w.heap.size+1) C.1 (!a1) hW hB (by omega) (by omega) hat htk;obtain⟨q,hq⟩:=eXi ((dX (gM t C.2 93) (fun b=>C.1 b == !a1)).1);obtain⟨sq,hsq⟩:∃ q,(dX (gM t C.2 93) (fun b=>C.1 b == !a1)).2=q:=⟨_,rfl⟩;simp only[hq,hsq] at htf;have Hq:Hid (_=q):=hq;have Hs:Hid (_=sq):=hsq;have Hnd:=(show Hid _ from hnd);have Htf:=(show Hid _ from htf);clear hq hsq hnd htf;have hne:(aH t C.2 != 93)=false:=by simp[h93]
    go_wp2_with fail;refine (cM J.mm hs).mono ?_;rintro e w5 ⟨rfl,n5,rfl⟩;go_wp2_with fail;refine (Hnd.out _ (J.mm.heap (w':=wr.drewN n5) rfl)).mono ?_;rintro e w3 ⟨rfl,m3,f3⟩;have b3:=(dB.mk (w:=wr.drewN n5) J.by_.c J.by_.z).fr f3 (by simp;omega);have R3:=(Res.mk (W:=wr.drewN n5) J.res.rr J.res.zr).fr f3 (by simp;omega);have F3:=(J.fr.drewN n5).trans (f3.mono (S':=[r,pb]) (by simp));go_wp2_with fail;refine (Htf.out _ m3 b3).mono ?_;rintro e w4 ⟨rfl,m4,f4⟩;have R4:=R3.fr f4 (by simp;omega);have F4:=F3.trans f4;obtain⟨y0,y1,y2,y3,y4,y5,y6,y7,y8,y9,y10,y11⟩:=R4.al;obtain⟨z0,z1,z2,z3,z4,z5,z6,z7,z8,z9,z10,z11⟩:=R4.az;unfold pv;go_wp2;have hfr:=dM w4 w.heap.size (.bool (q 0).e) (uA (q 0).f) (uA (q 0).l) (.bool (q 1).e) (uA (q 1).f) (uA (q 1).l) (.bool (q 2).e) (uA (q 2).f) (uA (q 2).l) (.bool (q 3).e) (uA (q 3).f) (uA (q 3).l);refine bodyPost_ret (v:=pv q) (by simp[results,results199,go_sem,pv,y0,y1,y2,y3,y4,y5,y6,y7,y8,y9,y10,y11]) rfl ⟨by rw[Hq.out],?_,?_⟩
    ·rw[Hs.out];exact m4.fr hfr (by simp;omega) (by simp;omega) (by simp only[List.mem_cons,List.not_mem_nil,or_false];omega)
    exact F4.trans' hfr (by simp)
   have hne:(aH t s3 != 93)=true:=by simp[h93]
   rw[if_neg (fun e=>e.elim (fun e=>by rw[hf] at e;cases e) h93)] at heq;have nn:=pQ (t:=t) s3 P;have gg:=C6 (t:=t) s3 P;have hit:=fun (W:WL) (hW:M W r pb t wh s3) (hB:dB W (w.heap.size+1) P)=>aCd (w.heap.size+1) P hW hB (by omega) (by omega) (by omega) hs (by have:=J.near.pos hps;omega);obtain⟨P4,hq3⟩:∃ q,(fC t s3 P).1=q:=⟨_,rfl⟩;obtain⟨s4,hq4⟩:∃ q,(fC t s3 P).2=q:=⟨_,rfl⟩;simp only[hq3,hq4] at hit nn gg heq;have Hit:=(show Hid _ from hit);have Heq:=(show Hid _ from heq);clear hq3 hq4 hit heq;go_wp2_with fail;refine (cM J.mm hs).mono ?_;rintro e w5 ⟨rfl,n5,rfl⟩;go_wp2_with fail;refine (Hit.out _ (J.mm.heap (w':=wr.drewN n5) rfl) (dB.mk (w:=wr.drewN n5) J.by_.c J.by_.z)).mono ?_;rintro e w6 ⟨rfl,m6,b6,f6⟩;go_wp2
   go_roundg m'
   case measure=>omega
   case rel=>exact⟨P4,s4,m6,b6,(Res.mk (W:=wr.drewN n5) J.res.rr J.res.zr).fr f6 (by simp;omega),(J.fr.drewN n5).trans' f6 (by simp),Heq.out,J.near.trans nn,gg.imp id (fun g=>by have:=nn.pos (J.near.pos hps);omega)⟩
  have heq:=J.eq.out;have heq2:(P,s3)=C:=by
   cases gk with
   | zero=>exact heq
   | succ k=>unfold gB at heq;rw[if_pos (.inl hf)] at heq;exact heq
  clear heq;obtain⟨rfl,rfl⟩:P=C.1∧s3=C.2:=by rw[← heq2];exact⟨rfl,rfl⟩
  clear heq2;have nC:=J.near;have hnd:=fun (W:WL) (hW:M W r pb t wh C.2)=>yE 93 hW hs (by have:=nC.pos hps;omega);have nN:=nC.trans (mM (t:=t) C.2 93 (by decide));have hat:(gM t C.2 93).atoms<50:=by rw[nN.atoms];exact ha
  have htk:∀ b,(gM t C.2 93).tk b<18446744073709551616:=fun b=>by
   rw[nN.tk];exact Nat.lt_trans (hi.tk b) (Nat.lt_trans (Nat.pow_lt_pow_right (a:=2) (by decide) ha) (by decide))
  have htf:=fun (W:WL) (hW:M W r pb t wh (gM t C.2 93)) (hB:dB W (w.heap.size+1) C.1)=>qN (w.heap.size+1) C.1 (!a1) hW hB (by omega) (by omega) hat htk;obtain⟨q,hq⟩:=eXi ((dX (gM t C.2 93) (fun b=>C.1 b == !a1)).1);obtain⟨sq,hsq⟩:∃ q,(dX (gM t C.2 93) (fun b=>C.1 b == !a1)).2=q:=⟨_,rfl⟩;simp only[hq,hsq] at htf;have Hq:Hid (_=q):=hq;have Hs:Hid (_=sq):=hsq;have Hnd:=(show Hid _ from hnd);have Htf:=(show Hid _ from htf);clear hq hsq hnd htf;have c2:wr.cell? (Ad r 2)=some (.bool true):=by rw[← hf];exact J.mm.rd.c2
  go_wp2_with fail;refine (Hnd.out _ J.mm).mono ?_;rintro e w3 ⟨rfl,m3,f3⟩;have b3:=J.by_.fr f3 (by simp;omega);have R3:=J.res.fr f3 (by simp;omega);have F3:=J.fr.trans (f3.mono (S':=[r,pb]) (by simp));go_wp2_with fail;refine (Htf.out _ m3 b3).mono ?_;rintro e w4 ⟨rfl,m4,f4⟩;have R4:=R3.fr f4 (by simp;omega);have F4:=F3.trans f4;obtain⟨y0,y1,y2,y3,y4,y5,y6,y7,y8,y9,y10,y11⟩:=R4.al;obtain⟨z0,z1,z2,z3,z4,z5,z6,z7,z8,z9,z10,z11⟩:=R4.az;unfold pv;go_wp2;have hfr:=dM w4 w.heap.size (.bool (q 0).e) (uA (q 0).f) (uA (q 0).l) (.bool (q 1).e) (uA (q 1).f) (uA (q 1).l) (.bool (q 2).e) (uA (q 2).f) (uA (q 2).l) (.bool (q 3).e) (uA (q 3).f) (uA (q 3).l);refine bodyPost_ret (v:=pv q) (by simp[results,results199,go_sem,pv,y0,y1,y2,y3,y4,y5,y6,y7,y8,y9,y10,y11]) rfl ⟨by rw[Hq.out],?_,?_⟩
  ·rw[Hs.out];exact m4.fr hfr (by simp;omega) (by simp;omega) (by simp only[List.mem_cons,List.not_mem_nil,or_false];omega)
  exact F4.trans' hfr (by simp)
def Piece.ok (q:Piece):Prop:=∀ s,(q s).ok
def lC (a b:Piece):Nat→LV
 | 0=>[.bool (a 0).e,.int .u64 (a 0).f,.int .u64 (a 0).l,.bool (a 1).e,.int .u64 (a 1).f,.int .u64 (a 1).l,.bool (a 2).e,.int .u64 (a 2).f,.int .u64 (a 2).l,.bool (a 3).e,.int .u64 (a 3).f,.int .u64 (a 3).l]
 | 1=>[.bool ((a 0).e || (b 0).e),.int .u64 ((a 0).f ||| (b 0).f:Nat),.int .u64 ((a 0).l ||| (b 0).l:Nat),.bool (a 1).e,.int .u64 (a 1).f,.int .u64 (a 1).l,.bool (a 2).e,.int .u64 (a 2).f,.int .u64 (a 2).l,.bool (a 3).e,.int .u64 (a 3).f,.int .u64 (a 3).l]
 | 2=>[.bool ((a 0).e || (b 0).e),.int .u64 ((a 0).f ||| (b 0).f:Nat),.int .u64 ((a 0).l ||| (b 0).l:Nat),.bool ((a 1).e || (b 1).e),.int .u64 ((a 1).f ||| (b 1).f:Nat),.int .u64 ((a 1).l ||| (b 1).l:Nat),.bool (a 2).e,.int .u64 (a 2).f,.int .u64 (a 2).l,.bool (a 3).e,.int .u64 (a 3).f,.int .u64 (a 3).l]
 | 3=>[.bool ((a 0).e || (b 0).e),.int .u64 ((a 0).f ||| (b 0).f:Nat),.int .u64 ((a 0).l ||| (b 0).l:Nat),.bool ((a 1).e || (b 1).e),.int .u64 ((a 1).f ||| (b 1).f:Nat),.int .u64 ((a 1).l ||| (b 1).l:Nat),.bool ((a 2).e || (b 2).e),.int .u64 ((a 2).f ||| (b 2).f:Nat),.int .u64 ((a 2).l ||| (b 2).l:Nat),.bool (a 3).e,.int .u64 (a 3).f,.int .u64 (a 3).l]
 | _=>[.bool ((a 0).e || (b 0).e),.int .u64 ((a 0).f ||| (b 0).f:Nat),.int .u64 ((a 0).l ||| (b 0).l:Nat),.bool ((a 1).e || (b 1).e),.int .u64 ((a 1).f ||| (b 1).f:Nat),.int .u64 ((a 1).l ||| (b 1).l:Nat),.bool ((a 2).e || (b 2).e),.int .u64 ((a 2).f ||| (b 2).f:Nat),.int .u64 ((a 2).l ||| (b 2).l:Nat),.bool ((a 3).e || (b 3).e),.int .u64 ((a 3).f ||| (b 3).f:Nat),.int .u64 ((a 3).l ||| (b 3).l:Nat)]
structure vD (w:WL) (a b:Piece) (o:LV) (W:WL):Prop where
 fr:Fr [] w W
 sz:w.heap.size+1+1+1≤W.heap.size
 ro:fY W w.heap.size o
 rb:fY W (w.heap.size+1) [.bool (b 0).e,.int .u64 (b 0).f,.int .u64 (b 0).l,.bool (b 1).e,.int .u64 (b 1).f,.int .u64 (b 1).l,.bool (b 2).e,.int .u64 (b 2).f,.int .u64 (b 2).l,.bool (b 3).e,.int .u64 (b 3).f,.int .u64 (b 3).l]
 rr:fY W (w.heap.size+1+1) [.bool false,.int .u64 0,.int .u64 0,.bool false,.int .u64 0,.int .u64 0,.bool false,.int .u64 0,.int .u64 0,.bool false,.int .u64 0,.int .u64 0]
 zo:∀ i,W.frozen? ⟨w.heap.size,i,none⟩=false
 zr:∀ i,W.frozen? ⟨w.heap.size+1+1,i,none⟩=false
theorem vD.drew {w:WL}{a b:Piece}{o:LV}{W:WL} (h:vD w a b o W):vD w a b o W.drew:=⟨h.fr.drew,h.sz,h.ro,h.rb,h.rr,h.zo,h.zr⟩
theorem vD.set {w:WL}{a b:Piece}{o:LV}{W:WL} (h:vD w a b o W) (k:Nat) (hk:k<o.length) (v:Value) :
  vD w a b (o.set k v) (W.setCell ⟨w.heap.size,k,none⟩ v):=
 ⟨h.fr.setCell (p:=⟨w.heap.size,k,none⟩) (.inr (by simp)) _,by simpa [World.setCell] using h.sz,h.ro.set k hk v,fun i=>(aX (by omega)).trans (h.rb i),fun i=>(aX (by omega)).trans (h.rr i),
  fun i=>(wfz _ _ _ _).trans (h.zo i),fun i=>(wfz _ _ _ _).trans (h.zr i)⟩
theorem iI (a b:Piece)(ha:a.ok)(hb:b.ok)(w:WL):Calls prog 96 #[pv a,pv b] w fun e w'=>e=.returned (pv (cK a b))∧Fr [] w w':=by
 have hm:=hmX
 have o0:=bits_or_u64_nat (a 0).f (b 0).f (ha 0).1 (hb 0).1;have o1:=bits_or_u64_nat (a 0).l (b 0).l (ha 0).2 (hb 0).2;have o2:=bits_or_u64_nat (a 1).f (b 1).f (ha 1).1 (hb 1).1;have o3:=bits_or_u64_nat (a 1).l (b 1).l (ha 1).2 (hb 1).2;have o4:=bits_or_u64_nat (a 2).f (b 2).f (ha 2).1 (hb 2).1;have o5:=bits_or_u64_nat (a 2).l (b 2).l (ha 2).2 (hb 2).2;have o6:=bits_or_u64_nat (a 3).f (b 3).f (ha 3).1 (hb 3).1;have o7:=bits_or_u64_nat (a 3).l (b 3).l (ha 3).2 (hb 3).2;obtain⟨W0,hW0⟩:=eXi (((w.alloc (Obj.cells #[.bool (a 0).e,uA (a 0).f,uA (a 0).l,.bool (a 1).e,uA (a 1).f,uA (a 1).l,.bool (a 2).e,uA (a 2).f,uA (a 2).l,.bool (a 3).e,uA (a 3).f,uA (a 3).l] 120)).alloc (Obj.cells #[.bool (b 0).e,uA (b 0).f,uA (b 0).l,.bool (b 1).e,uA (b 1).f,uA (b 1).l,.bool (b 2).e,uA (b 2).f,uA (b 2).l,.bool (b 3).e,uA (b 3).f,uA (b 3).l] 120)).alloc (Obj.cells #[.bool false,uA 0,uA 0,.bool false,uA 0,uA 0,.bool false,uA 0,uA 0,.bool false,uA 0,uA 0] 120));have J0:vD w a b (lC a b 0) W0:=by
  rw[← hW0];refine⟨(((Fr.refl [] _).alloc _).alloc _).alloc _,by simp,?_,?_,?_,?_,?_⟩
  ·exact ((bW w [.bool (a 0).e,uA (a 0).f,uA (a 0).l,.bool (a 1).e,uA (a 1).f,uA (a 1).l,.bool (a 2).e,uA (a 2).f,uA (a 2).l,.bool (a 3).e,uA (a 3).f,uA (a 3).l] 120).fr (((Fr.refl [] _).alloc _).alloc _) (by simp) (by simp))
  ·have:=(bW (w.alloc (Obj.cells #[.bool (a 0).e,uA (a 0).f,uA (a 0).l,.bool (a 1).e,uA (a 1).f,uA (a 1).l,.bool (a 2).e,uA (a 2).f,uA (a 2).l,.bool (a 3).e,uA (a 3).f,uA (a 3).l] 120)) [.bool (b 0).e,uA (b 0).f,uA (b 0).l,.bool (b 1).e,uA (b 1).f,uA (b 1).l,.bool (b 2).e,uA (b 2).f,uA (b 2).l,.bool (b 3).e,uA (b 3).f,uA (b 3).l] 120).fr ((Fr.refl [] _).alloc (Obj.cells #[.bool false,uA 0,uA 0,.bool false,uA 0,uA 0,.bool false,uA 0,uA 0,.bool false,uA 0,uA 0] 120)) (by simp) (by simp)
   rwa [World.size_alloc] at this
  ·have:=(bW ((w.alloc (Obj.cells #[.bool (a 0).e,uA (a 0).f,uA (a 0).l,.bool (a 1).e,uA (a 1).f,uA (a 1).l,.bool (a 2).e,uA (a 2).f,uA (a 2).l,.bool (a 3).e,uA (a 3).f,uA (a 3).l] 120)).alloc (Obj.cells #[.bool (b 0).e,uA (b 0).f,uA (b 0).l,.bool (b 1).e,uA (b 1).f,uA (b 1).l,.bool (b 2).e,uA (b 2).f,uA (b 2).l,.bool (b 3).e,uA (b 3).f,uA (b 3).l] 120)) [.bool false,uA 0,uA 0,.bool false,uA 0,uA 0,.bool false,uA 0,uA 0,.bool false,uA 0,uA 0] 120)
   rwa [World.size_alloc,World.size_alloc] at this
  ·intro i;have:=bT w [.bool (a 0).e,uA (a 0).f,uA (a 0).l,.bool (a 1).e,uA (a 1).f,uA (a 1).l,.bool (a 2).e,uA (a 2).f,uA (a 2).l,.bool (a 3).e,uA (a 3).f,uA (a 3).l] 120 i;exact (World.frozen?_alloc_past _ _ _ (by simp;omega)).trans ((World.frozen?_alloc_past _ _ _ (by simp)).trans this)
  intro i;have:=bT ((w.alloc (Obj.cells #[.bool (a 0).e,uA (a 0).f,uA (a 0).l,.bool (a 1).e,uA (a 1).f,uA (a 1).l,.bool (a 2).e,uA (a 2).f,uA (a 2).l,.bool (a 3).e,uA (a 3).f,uA (a 3).l] 120)).alloc (Obj.cells #[.bool (b 0).e,uA (b 0).f,uA (b 0).l,.bool (b 1).e,uA (b 1).f,uA (b 1).l,.bool (b 2).e,uA (b 2).f,uA (b 2).l,.bool (b 3).e,uA (b 3).f,uA (b 3).l] 120)) [.bool false,uA 0,uA 0,.bool false,uA 0,uA 0,.bool false,uA 0,uA 0,.bool false,uA 0,uA 0] 120 i
  rwa [World.size_alloc,World.size_alloc] at this
 unfold pv;go_enter func96,ntmps96;go_wp2;clear hW0
 go_loopw [5,6] (fun _ i wr=>∃ k:Nat,k≤4∧i=iA k∧vD w a b (lC a b k) wr) (fun _ i _=>4-(intOf i).toNat)
 case atStart=>exact⟨0,by decide,rfl,J0⟩
 case round=>
  obtain⟨k,hk,rfl,J⟩:=hrel;obtain rfl | rfl | rfl | rfl | rfl:k=0∨k=1∨k=2∨k=3∨k=4:=by omega
  ·have c0:wr.cell? (Ad w.heap.size 0)=some (.bool (a 0).e):=J.ro 0;have c1:wr.cell? (Ad w.heap.size 1)=some (uA (a 0).f):=J.ro 1;have c2:wr.cell? (Ad w.heap.size 2)=some (uA (a 0).l):=J.ro 2;have c3:wr.cell? (Ad (w.heap.size+1) 0)=some (.bool (b 0).e):=J.rb 0;have c4:wr.cell? (Ad (w.heap.size+1) 1)=some (uA (b 0).f):=J.rb 1;have c5:wr.cell? (Ad (w.heap.size+1) 2)=some (uA (b 0).l):=J.rb 2;have z0:=J.zo 0;have z1:=J.zo 1;have z2:=J.zo 2;have hset:∀ x:Bool,x=((a 0).e || (b 0).e)→(((lC a b 0).set 0 (.bool x)).set 1 (uA ((a 0).f ||| (b 0).f:Nat))).set 2 (uA ((a 0).l ||| (b 0).l:Nat))=lC a b 1:=by
    rintro x rfl;rfl
   cases he:(a 0).e
   all_goals
    rw[he] at c0;go_wp2;refine aP 11 hm (by kernel_rfl) ?_;simp only[Zt]
    repeat still_step
    refine wpStill_nil ?_;go_wp2;refine aP 11 hm (by kernel_rfl) ?_;simp only[Zt]
    repeat still_step
    refine wpStill_nil ?_;go_wp2;refine⟨⟨1,by decide,rfl,?_⟩,by decide⟩;have JJ:=fun (x:Bool) (hx:x=((a 0).e || (b 0).e))=>(hset x hx) ▸ (((J.set 0 (by simp[lC]) (.bool x)).set 1 (by simp[lC]) (uA ((a 0).f ||| (b 0).f:Nat))).set 2 (by simp[lC]) (uA ((a 0).l ||| (b 0).l:Nat))).drew.drew;exact JJ _ (by rw[he];rfl)
  ·have c0:wr.cell? (Ad w.heap.size 3)=some (.bool (a 1).e):=J.ro 3;have c1:wr.cell? (Ad w.heap.size 4)=some (uA (a 1).f):=J.ro 4;have c2:wr.cell? (Ad w.heap.size 5)=some (uA (a 1).l):=J.ro 5;have c3:wr.cell? (Ad (w.heap.size+1) 3)=some (.bool (b 1).e):=J.rb 3;have c4:wr.cell? (Ad (w.heap.size+1) 4)=some (uA (b 1).f):=J.rb 4;have c5:wr.cell? (Ad (w.heap.size+1) 5)=some (uA (b 1).l):=J.rb 5;have z0:=J.zo 3;have z1:=J.zo 4;have z2:=J.zo 5;have hset:∀ x:Bool,x=((a 1).e || (b 1).e)→(((lC a b 1).set 3 (.bool x)).set 4 (uA ((a 1).f ||| (b 1).f:Nat))).set 5 (uA ((a 1).l ||| (b 1).l:Nat))=lC a b 2:=by
    rintro x rfl;rfl
   cases he:(a 1).e
   all_goals
    rw[he] at c0;go_wp2;refine aP 11 hm (by kernel_rfl) ?_;simp only[Zt]
    repeat still_step
    refine wpStill_nil ?_;go_wp2;refine aP 11 hm (by kernel_rfl) ?_;simp only[Zt]
    repeat still_step
    refine wpStill_nil ?_;go_wp2;refine⟨⟨2,by decide,rfl,?_⟩,by decide⟩;have JJ:=fun (x:Bool) (hx:x=((a 1).e || (b 1).e))=>(hset x hx) ▸ (((J.set 3 (by simp[lC]) (.bool x)).set 4 (by simp[lC]) (uA ((a 1).f ||| (b 1).f:Nat))).set 5 (by simp[lC]) (uA ((a 1).l ||| (b 1).l:Nat))).drew.drew;exact JJ _ (by rw[he];rfl)
  ·have c0:wr.cell? (Ad w.heap.size 6)=some (.bool (a 2).e):=J.ro 6;have c1:wr.cell? (Ad w.heap.size 7)=some (uA (a 2).f):=J.ro 7;have c2:wr.cell? (Ad w.heap.size 8)=some (uA (a 2).l):=J.ro 8;have c3:wr.cell? (Ad (w.heap.size+1) 6)=some (.bool (b 2).e):=J.rb 6;have c4:wr.cell? (Ad (w.heap.size+1) 7)=some (uA (b 2).f):=J.rb 7;have c5:wr.cell? (Ad (w.heap.size+1) 8)=some (uA (b 2).l):=J.rb 8;have z0:=J.zo 6;have z1:=J.zo 7;have z2:=J.zo 8;have hset:∀ x:Bool,x=((a 2).e || (b 2).e)→(((lC a b 2).set 6 (.bool x)).set 7 (uA ((a 2).f ||| (b 2).f:Nat))).set 8 (uA ((a 2).l ||| (b 2).l:Nat))=lC a b 3:=by
    rintro x rfl;rfl
   cases he:(a 2).e
   all_goals
    rw[he] at c0;go_wp2;refine aP 11 hm (by kernel_rfl) ?_;simp only[Zt]
    repeat still_step
    refine wpStill_nil ?_;go_wp2;refine aP 11 hm (by kernel_rfl) ?_;simp only[Zt]
    repeat still_step
    refine wpStill_nil ?_;go_wp2;refine⟨⟨3,by decide,rfl,?_⟩,by decide⟩;have JJ:=fun (x:Bool) (hx:x=((a 2).e || (b 2).e))=>(hset x hx) ▸ (((J.set 6 (by simp[lC]) (.bool x)).set 7 (by simp[lC]) (uA ((a 2).f ||| (b 2).f:Nat))).set 8 (by simp[lC]) (uA ((a 2).l ||| (b 2).l:Nat))).drew.drew;exact JJ _ (by rw[he];rfl)
  ·have c0:wr.cell? (Ad w.heap.size 9)=some (.bool (a 3).e):=J.ro 9;have c1:wr.cell? (Ad w.heap.size 10)=some (uA (a 3).f):=J.ro 10;have c2:wr.cell? (Ad w.heap.size 11)=some (uA (a 3).l):=J.ro 11;have c3:wr.cell? (Ad (w.heap.size+1) 9)=some (.bool (b 3).e):=J.rb 9;have c4:wr.cell? (Ad (w.heap.size+1) 10)=some (uA (b 3).f):=J.rb 10;have c5:wr.cell? (Ad (w.heap.size+1) 11)=some (uA (b 3).l):=J.rb 11;have z0:=J.zo 9;have z1:=J.zo 10;have z2:=J.zo 11;have hset:∀ x:Bool,x=((a 3).e || (b 3).e)→(((lC a b 3).set 9 (.bool x)).set 10 (uA ((a 3).f ||| (b 3).f:Nat))).set 11 (uA ((a 3).l ||| (b 3).l:Nat))=lC a b 4:=by
    rintro x rfl;rfl
   cases he:(a 3).e
   all_goals
    rw[he] at c0;go_wp2;refine aP 11 hm (by kernel_rfl) ?_;simp only[Zt]
    repeat still_step
    refine wpStill_nil ?_;go_wp2;refine aP 11 hm (by kernel_rfl) ?_;simp only[Zt]
    repeat still_step
    refine wpStill_nil ?_;go_wp2;refine⟨⟨4,by decide,rfl,?_⟩,by decide⟩;have JJ:=fun (x:Bool) (hx:x=((a 3).e || (b 3).e))=>(hset x hx) ▸ (((J.set 9 (by simp[lC]) (.bool x)).set 10 (by simp[lC]) (uA ((a 3).f ||| (b 3).f:Nat))).set 11 (by simp[lC]) (uA ((a 3).l ||| (b 3).l:Nat))).drew.drew;exact JJ _ (by rw[he];rfl)
  have x0:wr.cell? (Ad w.heap.size 0)=some (.bool ((a 0).e || (b 0).e)):=J.ro 0;have y0:wr.cell? (Ad (w.heap.size+1+1) 0)=some (.bool false):=J.rr 0;have z0:=J.zr 0;have x1:wr.cell? (Ad w.heap.size 1)=some (uA ((a 0).f ||| (b 0).f:Nat)):=J.ro 1;have y1:wr.cell? (Ad (w.heap.size+1+1) 1)=some (uA 0):=J.rr 1;have z1:=J.zr 1;have x2:wr.cell? (Ad w.heap.size 2)=some (uA ((a 0).l ||| (b 0).l:Nat)):=J.ro 2;have y2:wr.cell? (Ad (w.heap.size+1+1) 2)=some (uA 0):=J.rr 2;have z2:=J.zr 2;have x3:wr.cell? (Ad w.heap.size 3)=some (.bool ((a 1).e || (b 1).e)):=J.ro 3;have y3:wr.cell? (Ad (w.heap.size+1+1) 3)=some (.bool false):=J.rr 3;have z3:=J.zr 3;have x4:wr.cell? (Ad w.heap.size 4)=some (uA ((a 1).f ||| (b 1).f:Nat)):=J.ro 4;have y4:wr.cell? (Ad (w.heap.size+1+1) 4)=some (uA 0):=J.rr 4;have z4:=J.zr 4;have x5:wr.cell? (Ad w.heap.size 5)=some (uA ((a 1).l ||| (b 1).l:Nat)):=J.ro 5;have y5:wr.cell? (Ad (w.heap.size+1+1) 5)=some (uA 0):=J.rr 5;have z5:=J.zr 5;have x6:wr.cell? (Ad w.heap.size 6)=some (.bool ((a 2).e || (b 2).e)):=J.ro 6;have y6:wr.cell? (Ad (w.heap.size+1+1) 6)=some (.bool false):=J.rr 6;have z6:=J.zr 6;have x7:wr.cell? (Ad w.heap.size 7)=some (uA ((a 2).f ||| (b 2).f:Nat)):=J.ro 7;have y7:wr.cell? (Ad (w.heap.size+1+1) 7)=some (uA 0):=J.rr 7;have z7:=J.zr 7;have x8:wr.cell? (Ad w.heap.size 8)=some (uA ((a 2).l ||| (b 2).l:Nat)):=J.ro 8;have y8:wr.cell? (Ad (w.heap.size+1+1) 8)=some (uA 0):=J.rr 8;have z8:=J.zr 8;have x9:wr.cell? (Ad w.heap.size 9)=some (.bool ((a 3).e || (b 3).e)):=J.ro 9;have y9:wr.cell? (Ad (w.heap.size+1+1) 9)=some (.bool false):=J.rr 9;have z9:=J.zr 9;have x10:wr.cell? (Ad w.heap.size 10)=some (uA ((a 3).f ||| (b 3).f:Nat)):=J.ro 10;have y10:wr.cell? (Ad (w.heap.size+1+1) 10)=some (uA 0):=J.rr 10;have z10:=J.zr 10;have x11:wr.cell? (Ad w.heap.size 11)=some (uA ((a 3).l ||| (b 3).l:Nat)):=J.ro 11;have y11:wr.cell? (Ad (w.heap.size+1+1) 11)=some (uA 0):=J.rr 11;have z11:=J.zr 11;go_wp2;refine bodyPost_ret (v:=pv (cK a b)) (by simp[results,results96,go_sem,pv,cK,x0,x1,x2,x3,x4,x5,x6,x7,x8,x9,x10,x11,y0,y1,y2,y3,y4,y5,y6,y7,y8,y9,y10,y11]) rfl ⟨rfl,?_⟩;have hfr:=dM wr (w.heap.size+1+1) (.bool ((a 0).e || (b 0).e)) (uA ((a 0).f ||| (b 0).f:Nat)) (uA ((a 0).l ||| (b 0).l:Nat)) (.bool ((a 1).e || (b 1).e)) (uA ((a 1).f ||| (b 1).f:Nat)) (uA ((a 1).l ||| (b 1).l:Nat)) (.bool ((a 2).e || (b 2).e)) (uA ((a 2).f ||| (b 2).f:Nat)) (uA ((a 2).l ||| (b 2).l:Nat)) (.bool ((a 3).e || (b 3).e)) (uA ((a 3).f ||| (b 3).f:Nat)) (uA ((a 3).l ||| (b 3).l:Nat));exact J.fr.trans' hfr (by simp;omega)
def pW (w:WL) (r pb:Nat) (t:BA) (wh:Nat→Value) (x:Piece × St):Ending→WL→Prop:=fun e w'=>e=.returned (pv x.1)∧M w' r pb t wh x.2∧Fr [r,pb] w w'
def vZ (n:Nat):Prop:=∀ (w:WL) (r pb:Nat) (t:BA) (wh:Nat→Value) (s:St),M w r pb t wh s→Inv t s→t.size≤50→6*(t.size-s.pos)+6≤n→Calls prog 58 #[.pointer (some ⟨r,0,none⟩)] w (pW w r pb t wh (uD t n s))
def X0 (n:Nat):Prop:=∀ (w:WL) (r pb:Nat) (t:BA) (wh:Nat→Value) (s:St),M w r pb t wh s→Inv t s→t.size≤50→6*(t.size-s.pos)+4≤n→Calls prog 94 #[.pointer (some ⟨r,0,none⟩)] w (pW w r pb t wh (vE t n s))
def zF (n:Nat):Prop:=∀ (w:WL) (r pb:Nat) (t:BA) (wh:Nat→Value) (s:St),M w r pb t wh s→Inv t s→t.size≤50→aH t s≠-1→6*(t.size-s.pos)+2≤n→Calls prog 148 #[.pointer (some ⟨r,0,none⟩)] w (pW w r pb t wh (jH t n s))
def zG (n:Nat):Prop:=∀ (w:WL) (r pb:Nat) (t:BA) (wh:Nat→Value) (s:St),M w r pb t wh s→Inv t s→t.size≤50→aH t s≠-1→6*(t.size-s.pos)+1≤n→Calls prog 173 #[.pointer (some ⟨r,0,none⟩)] w (pW w r pb t wh (uZ t n s))
theorem Inv.tk64 {t:BA}{s:St} (h:Inv t s) (hs:t.size≤50) (b:Nat):s.tk b<18446744073709551616:=
 Nll (h.tk b) (Nat.le_trans (Nat.pow_le_pow_right (n:=2) (by decide) (show s.atoms≤50 by have:=h.at_;have:=h.pos;omega)) (by decide))
theorem Inv.fo64 {t:BA}{s:St} (h:Inv t s) (hs:t.size≤50) (x a:Nat):s.fo x a<18446744073709551616:=
 Nll (h.fo x a) (Nat.le_trans (Nat.pow_le_pow_right (n:=2) (by decide) (show s.atoms≤50 by have:=h.at_;have:=h.pos;omega)) (by decide))
theorem PB.ok {n:Nat}{q:Piece} (h:PB n q) (hn:n≤50):q.ok:=fun x=>
 ⟨Nll (h x).1 (Nat.le_trans (Nat.pow_le_pow_right (n:=2) (by decide) hn) (by decide)),Nll (h x).2 (Nat.le_trans (Nat.pow_le_pow_right (n:=2) (by decide) hn) (by decide))⟩
theorem PB.l50 {n:Nat}{q:Piece} (h:PB n q) (hn:n≤50) (x:Nat):(q x).l<1125899906842624:=
 Nll (h x).2 (Nat.le_trans (Nat.pow_le_pow_right (n:=2) (by decide) hn) (by decide))
theorem Res.drewN {b:Nat}{W:WL} (h:Res b W) (n:Nat):Res b (W.drewN n):=⟨h.rr,h.zr⟩
section
variable {w:WL}{r pb:Nat}{t:BA}{wh:Nat→Value}{s:St}
theorem aGs (n:Nat)(hA:vZ n)(h:M w r pb t wh s)(hi:Inv t s)(hs:t.size≤50)(hc:aH t s=40)(hn:6*(t.size-s.pos)+1≤n+1) :
  Calls prog 173 #[.pointer (some (Ad r 0))] w (pW w r pb t wh ((uD t n (aW s)).1,gM t (uD t n (aW s)).2 41)):=by
 have t6:=h.tab.lt;have hp:aH t s≠-1:=by rw[hc];decide
 have hrl:=h.rlt;have hpl:=h.pat.lt;have hps:=hi.pos;have hat:=hi.at_;have hlt:=(iO hp).2;have hadv:=hi.adv hp;have e40:(aH t s==40)=true:=by simp[hc]
 have gv:=(fD t n).alt _ hadv;have hpo:=gv.inv.pos;have hal:=fun (W:WL) (hW:M W r pb t wh (aW s))=>hA W r pb t wh (aW s) hW hadv hs (by simp[aW];omega);unfold pW at hal ⊢;obtain⟨q,hq⟩:=eXi ((uD t n (aW s)).1);obtain⟨s1,hs1⟩:∃ q,(uD t n (aW s)).2=q:=⟨_,rfl⟩;simp only[hq,hs1] at hal hpo ⊢;clear hq hs1 gv;have hnd:=fun (W:WL) (hW:M W r pb t wh s1)=>yE 41 hW hs (by omega);obtain⟨q',hq⟩:∃ q',q=q':=⟨_,rfl⟩;obtain⟨sq,hsq⟩:∃ q,gM t s1 41=q:=⟨_,rfl⟩;simp only[hsq] at hnd;have Hq:Hid (q=q):=rfl;have Hs:Hid (_=sq):=hsq;have Hal:=(show Hid _ from hal);have Hnd:=(show Hid _ from hnd);clear hsq hal hnd hc hq q';go_enter func173,ntmps173;go_wp2_with fail;refine (cM (h.fr (((Fr.refl [] w).alloc (Obj.cells #[.bool false,uA 0,uA 0,.bool false,uA 0,uA 0,.bool false,uA 0,uA 0,.bool false,uA 0,uA 0] 120))) (by simp) (by simp) (by simp)) hs).mono ?_;rintro e w1 ⟨rfl,n1,rfl⟩;have m1:M ((w.alloc (Obj.cells #[.bool false,uA 0,uA 0,.bool false,uA 0,uA 0,.bool false,uA 0,uA 0,.bool false,uA 0,uA 0] 120)).drewN n1) r pb t wh s:=(h.fr (((Fr.refl [] w).alloc (Obj.cells #[.bool false,uA 0,uA 0,.bool false,uA 0,uA 0,.bool false,uA 0,uA 0,.bool false,uA 0,uA 0] 120))) (by simp) (by simp) (by simp)).heap rfl;have R1:=(Res.new w).drewN n1;have F1:Fr [r,pb] w ((w.alloc (Obj.cells #[.bool false,uA 0,uA 0,.bool false,uA 0,uA 0,.bool false,uA 0,uA 0,.bool false,uA 0,uA 0] 120)).drewN n1):=((Fr.refl _ w).alloc _).drewN n1;generalize (w.alloc (Obj.cells #[.bool false,uA 0,uA 0,.bool false,uA 0,uA 0,.bool false,uA 0,uA 0,.bool false,uA 0,uA 0] 120)).drewN n1=W1 at *;have c1:=m1.rd.c1;have z1:=m1.rd.f1;have p1:(s.pos:Int)≤50:=by omega
 go_wp2_with fail;have m2:=m1.adv;have f2:Fr [r] W1 (W1.setCell ⟨r,1,none⟩ (.int .i64 ((s.pos:Int)+1))):=(Fr.refl [r] W1).setCell (p:=⟨r,1,none⟩) (.inl (by simp)) _;have R2:=R1.fr f2 (by simp;omega);have F2:=F1.trans (f2.mono (S':=[r,pb]) (by simp));clear c1 z1 m1 R1 F1 f2;refine (Hal.out _ m2).mono ?_;clear m2;rintro e w3 ⟨rfl,m3,f3⟩;have R3:=R2.fr f3 (by simp;omega);have F3:=F2.trans f3;clear R2 F2 f3;have f4:Fr [] w3 (w3.alloc (Obj.cells #[.bool (q 0).e,uA (q 0).f,uA (q 0).l,.bool (q 1).e,uA (q 1).f,uA (q 1).l,.bool (q 2).e,uA (q 2).f,uA (q 2).l,.bool (q 3).e,uA (q 3).f,uA (q 3).l] 120)):=(Fr.refl _ _).alloc _;have m4:=m3.fr f4 (by simp) (by simp) (by simp);have R4:=R3.fr f4 (by simp);have F4:=F3.trans (f4.mono (S':=[r,pb]) (by simp));have O4:=bW w3 [.bool (q 0).e,uA (q 0).f,uA (q 0).l,.bool (q 1).e,uA (q 1).f,uA (q 1).l,.bool (q 2).e,uA (q 2).f,uA (q 2).l,.bool (q 3).e,uA (q 3).f,uA (q 3).l] 120;have s3:=F3.size;have R3lt:=R3.lt;have l4:w3.heap.size<(w3.alloc (Obj.cells #[.bool (q 0).e,uA (q 0).f,uA (q 0).l,.bool (q 1).e,uA (q 1).f,uA (q 1).l,.bool (q 2).e,uA (q 2).f,uA (q 2).l,.bool (q 3).e,uA (q 3).f,uA (q 3).l] 120)).heap.size:=by simp
 clear f4;unfold pv;go_wp2_with fail;refine (Hnd.out _ m4).mono ?_;rintro e w5 ⟨rfl,m5,f5⟩;have R5:=R4.fr f5 (by simp;omega);have F5:=F4.trans (f5.mono (S':=[r,pb]) (by simp));have O5:=O4.fr f5 (by simp;omega) l4;have x0:w5.cell? (Ad w3.heap.size 0)=some (.bool (q 0).e):=O5 0;have x1:w5.cell? (Ad w3.heap.size 1)=some (uA (q 0).f):=O5 1;have x2:w5.cell? (Ad w3.heap.size 2)=some (uA (q 0).l):=O5 2;have x3:w5.cell? (Ad w3.heap.size 3)=some (.bool (q 1).e):=O5 3;have x4:w5.cell? (Ad w3.heap.size 4)=some (uA (q 1).f):=O5 4;have x5:w5.cell? (Ad w3.heap.size 5)=some (uA (q 1).l):=O5 5;have x6:w5.cell? (Ad w3.heap.size 6)=some (.bool (q 2).e):=O5 6;have x7:w5.cell? (Ad w3.heap.size 7)=some (uA (q 2).f):=O5 7;have x8:w5.cell? (Ad w3.heap.size 8)=some (uA (q 2).l):=O5 8;have x9:w5.cell? (Ad w3.heap.size 9)=some (.bool (q 3).e):=O5 9;have x10:w5.cell? (Ad w3.heap.size 10)=some (uA (q 3).f):=O5 10;have x11:w5.cell? (Ad w3.heap.size 11)=some (uA (q 3).l):=O5 11;obtain⟨y0,y1,y2,y3,y4,y5,y6,y7,y8,y9,y10,y11⟩:=R5.al;obtain⟨z0,z1,z2,z3,z4,z5,z6,z7,z8,z9,z10,z11⟩:=R5.az;go_wp2;have hfr:=dM w5 w.heap.size (.bool (q 0).e) (uA (q 0).f) (uA (q 0).l) (.bool (q 1).e) (uA (q 1).f) (uA (q 1).l) (.bool (q 2).e) (uA (q 2).f) (uA (q 2).l) (.bool (q 3).e) (uA (q 3).f) (uA (q 3).l);refine bodyPost_ret (v:=pv q) (by simp[results,results173,go_sem,pv,y0,y1,y2,y3,y4,y5,y6,y7,y8,y9,y10,y11]) rfl ⟨rfl,?_,?_⟩
 ·rw[Hs.out];exact m5.fr hfr (by simp;omega) (by simp;omega) (by simp only[List.mem_cons,List.not_mem_nil,or_false];omega)
 exact F5.trans' hfr (by simp)
end
theorem aAl (t:BA)(s:St):0≤(eC t s).1∧(eC t s).1<256:=by
 have h:=aHm t (cG t s 92).2;unfold eC;split
 ·simp
 simp only;omega
section
variable {w:WL}{r pb:Nat}{t:BA}{wh:Nat→Value}{s:St}
theorem pT (h:M w r pb t wh s)(hi:Inv t s)(hs:t.size≤50)(X:Piece × St)(hX:(∃ n,aH t s=91∧6*(t.size-s.pos)+1≤n+1∧X=rC t n (aW s))∨(aH t s=46∧X=iQ (aW s) 0 255)∨(aH t s=94∧X=(eV 1,aW s))∨(aH t s=36∧X=(eV 2,aW s))) :
  Calls prog 173 #[.pointer (some (Ad r 0))] w (pW w r pb t wh X):=by
 have t6:=h.tab.lt;have hp:aH t s≠-1:=by rcases hX with ⟨n,hc,-,-⟩ | ⟨hc,-⟩ | ⟨hc,-⟩ | ⟨hc,-⟩ <;> rw[hc] <;> decide
 have hrl:=h.rlt;have hpl:=h.pat.lt;have hps:=hi.pos;have hat:=hi.at_;have hlt:=(iO hp).2;have hadv:=hi.adv hp;obtain⟨q,sq⟩:=X;unfold pW;simp only;rcases hX with ⟨n,hc,hn,hX⟩ | ⟨hc,hX⟩ | ⟨hc,hX⟩ | ⟨hc,hX⟩
 all_goals
  first | have e40:(aH t s==40)=true:=by simp[hc] | have e40:(aH t s==40)=false:=by simp[hc]
  first | have e91:(aH t s==91)=true:=by simp[hc] | have e91:(aH t s==91)=false:=by simp[hc]
  first | have e46:(aH t s==46)=true:=by simp[hc] | have e46:(aH t s==46)=false:=by simp[hc]
  first | have e94:(aH t s==94)=true:=by simp[hc] | have e94:(aH t s==94)=false:=by simp[hc]
  first | have e36:(aH t s==36)=true:=by simp[hc] | have e36:(aH t s==36)=false:=by simp[hc]
  first
   | (have hcl:=fun (W:WL) (hW:M W r pb t wh (aW s))=>aLp n hW hadv hs (by simp[aW];omega) (by simp[aW];omega)
      simp only[← hX] at hcl)
   | (have:(q,sq)=iQ (aW s) 0 255:=hX
      have hcl:=fun (W:WL) (hW:M W r pb t wh (aW s))=>Y1 0 255 (by decide) (by decide) hW (by simp[aW];omega) (hadv.tk64 hs);simp only[← hX,Int.natCast_zero,show ((255:Nat):Int)=255 from rfl] at hcl)
   | (simp only[Prod.mk.injEq] at hX
      obtain⟨hq,rfl⟩:=hX
      first
       | (have:q=eV 1:=hq;have hcl:=fun (W:WL) (hW:M W r pb t wh (aW s))=>(U7 W).mono fun e w' hh=>(AI hh.1 (AI (hW.fr hh.2 (by simp) (by simp) (by simp)) (hh.2.mono (S':=[r,pb]) (by simp))):e=_∧M w' r pb t wh (aW s)∧Fr [r,pb] W w'))
       | have hcl:=fun (W:WL) (hW:M W r pb t wh (aW s))=>(aGv W).mono fun e w' hh=>(AI hh.1 (AI (hW.fr hh.2 (by simp) (by simp) (by simp)) (hh.2.mono (S':=[r,pb]) (by simp))):e=_∧M w' r pb t wh (aW s)∧Fr [r,pb] W w')
      simp only[← hq] at hcl)
  have Hcl:=(show Hid _ from hcl);clear hcl hc
  try clear hX
  try clear this
  try clear hq
  go_enter func173,ntmps173;go_wp2_with fail;refine (cM (h.fr (((Fr.refl [] w).alloc (Obj.cells #[.bool false,uA 0,uA 0,.bool false,uA 0,uA 0,.bool false,uA 0,uA 0,.bool false,uA 0,uA 0] 120))) (by simp) (by simp) (by simp)) hs).mono ?_;rintro e w1 ⟨rfl,n1,rfl⟩;have m1:M ((w.alloc (Obj.cells #[.bool false,uA 0,uA 0,.bool false,uA 0,uA 0,.bool false,uA 0,uA 0,.bool false,uA 0,uA 0] 120)).drewN n1) r pb t wh s:=(h.fr (((Fr.refl [] w).alloc (Obj.cells #[.bool false,uA 0,uA 0,.bool false,uA 0,uA 0,.bool false,uA 0,uA 0,.bool false,uA 0,uA 0] 120))) (by simp) (by simp) (by simp)).heap rfl;have R1:=(Res.new w).drewN n1;have F1:Fr [r,pb] w ((w.alloc (Obj.cells #[.bool false,uA 0,uA 0,.bool false,uA 0,uA 0,.bool false,uA 0,uA 0,.bool false,uA 0,uA 0] 120)).drewN n1):=((Fr.refl _ w).alloc _).drewN n1;generalize (w.alloc (Obj.cells #[.bool false,uA 0,uA 0,.bool false,uA 0,uA 0,.bool false,uA 0,uA 0,.bool false,uA 0,uA 0] 120)).drewN n1=W1 at *;have c1:=m1.rd.c1;have z1:=m1.rd.f1;have p1:(s.pos:Int)≤50:=by omega
  go_wp2_with fail;have m2:=m1.adv;have f2:Fr [r] W1 (W1.setCell ⟨r,1,none⟩ (.int .i64 ((s.pos:Int)+1))):=(Fr.refl [r] W1).setCell (p:=⟨r,1,none⟩) (.inl (by simp)) _;have R2:=R1.fr f2 (by simp;omega);have F2:=F1.trans (f2.mono (S':=[r,pb]) (by simp));clear c1 z1 m1 R1 F1 f2;refine (Hcl.out _ m2).mono ?_;clear m2;rintro e w3 ⟨rfl,m3,f3⟩;have R3:=R2.fr f3 (by simp;omega);have F3:=F2.trans f3;clear R2 F2 f3;obtain⟨y0,y1,y2,y3,y4,y5,y6,y7,y8,y9,y10,y11⟩:=R3.al;obtain⟨z0,z1,z2,z3,z4,z5,z6,z7,z8,z9,z10,z11⟩:=R3.az;unfold pv;go_wp2;have hfr:=dM w3 w.heap.size (.bool (q 0).e) (uA (q 0).f) (uA (q 0).l) (.bool (q 1).e) (uA (q 1).f) (uA (q 1).l) (.bool (q 2).e) (uA (q 2).f) (uA (q 2).l) (.bool (q 3).e) (uA (q 3).f) (uA (q 3).l);refine bodyPost_ret (v:=pv q) (by simp[results,results173,go_sem,pv,y0,y1,y2,y3,y4,y5,y6,y7,y8,y9,y10,y11]) rfl ⟨rfl,?_,?_⟩
  ·exact m3.fr hfr (by simp;omega) (by simp;omega) (by simp;omega)
  exact F3.trans' hfr (by simp)
theorem aGr (h:M w r pb t wh s)(hi:Inv t s)(hs:t.size≤50)(hp:aH t s≠-1)(h40:aH t s≠40)(h91:aH t s≠91)(h46:aH t s≠46)(h94:aH t s≠94)(h36:aH t s≠36) :
  Calls prog 173 #[.pointer (some (Ad r 0))] w (pW w r pb t wh (iQ (eC t s).2 (eC t s).1 (eC t s).1)):=by
 have t6:=h.tab.lt;have hrl:=h.rlt;have hpl:=h.pat.lt;have hps:=hi.pos;have hat:=hi.at_;have hlt:=(iO hp).2;have hadv:=hi.adv hp;have e40:(aH t s==40)=false:=by simpa using h40
 have e91:(aH t s==91)=false:=by simpa using h91
 have e46:(aH t s==46)=false:=by simpa using h46
 have e94:(aH t s==94)=false:=by simpa using h94
 have e36:(aH t s==36)=false:=by simpa using h36
 obtain⟨pn,pl⟩:=qS s hp;have pin:=pn.inv hi;have pr:=aAl t s;have hpa:=fun (W:WL) (hW:M W r pb t wh s)=>aJj hW hs (by omega);have pat:=pn.atoms;have ptk:=pin.tk64 hs;unfold pW;obtain⟨b',hb⟩:∃ q,(eC t s).1=q:=⟨_,rfl⟩;obtain⟨s1,hs1⟩:∃ q,(eC t s).2=q:=⟨_,rfl⟩;simp only[hb,hs1] at hpa pat ptk pr ⊢;clear hb hs1 pn pl pin h40 h91 h46 h94 h36 hp;obtain⟨b,rfl⟩:=Int.eq_ofNat_of_zero_le pr.1;have hcl:=fun (W:WL) (hW:M W r pb t wh s1)=>Y1 b b (Nat.le_refl _) (by omega) hW (by omega) ptk;obtain⟨q,hq⟩:=eXi ((iQ s1 b b).1);obtain⟨sq,hsq⟩:∃ q,(iQ s1 b b).2=q:=⟨_,rfl⟩;simp only[hq,hsq] at hcl;have Hq:Hid (_=q):=hq;have Hs:Hid (_=sq):=hsq;have Hcl:=(show Hid _ from hcl);have Hpa:=(show Hid _ from hpa);clear hq hsq hcl hpa pat ptk;go_enter func173,ntmps173;go_wp2_with fail;refine (cM (h.fr (((Fr.refl [] w).alloc (Obj.cells #[.bool false,uA 0,uA 0,.bool false,uA 0,uA 0,.bool false,uA 0,uA 0,.bool false,uA 0,uA 0] 120))) (by simp) (by simp) (by simp)) hs).mono ?_;rintro e w1 ⟨rfl,n1,rfl⟩;have m1:M ((w.alloc (Obj.cells #[.bool false,uA 0,uA 0,.bool false,uA 0,uA 0,.bool false,uA 0,uA 0,.bool false,uA 0,uA 0] 120)).drewN n1) r pb t wh s:=(h.fr (((Fr.refl [] w).alloc (Obj.cells #[.bool false,uA 0,uA 0,.bool false,uA 0,uA 0,.bool false,uA 0,uA 0,.bool false,uA 0,uA 0] 120))) (by simp) (by simp) (by simp)).heap rfl;have R1:=(Res.new w).drewN n1;have F1:Fr [r,pb] w ((w.alloc (Obj.cells #[.bool false,uA 0,uA 0,.bool false,uA 0,uA 0,.bool false,uA 0,uA 0,.bool false,uA 0,uA 0] 120)).drewN n1):=((Fr.refl _ w).alloc _).drewN n1;generalize (w.alloc (Obj.cells #[.bool false,uA 0,uA 0,.bool false,uA 0,uA 0,.bool false,uA 0,uA 0,.bool false,uA 0,uA 0] 120)).drewN n1=W1 at *;have c1:=m1.rd.c1;have z1:=m1.rd.f1;have p1:(s.pos:Int)≤50:=by omega
 clear c1 z1;go_wp2_with fail;refine (Hpa.out _ m1).mono ?_;clear m1;rintro e w2 ⟨rfl,m2,f2⟩;have R2:=R1.fr f2 (by simp;omega);have F2:=F1.trans (f2.mono (S':=[r,pb]) (by simp));clear R1 F1 f2;go_wp2_with fail;refine (Hcl.out _ m2).mono ?_;clear m2;rintro e w3 ⟨rfl,m3,f3⟩;have R3:=R2.fr f3 (by simp;omega);have F3:=F2.trans f3;clear R2 F2 f3;obtain⟨y0,y1,y2,y3,y4,y5,y6,y7,y8,y9,y10,y11⟩:=R3.al;obtain⟨z0,z1,z2,z3,z4,z5,z6,z7,z8,z9,z10,z11⟩:=R3.az;unfold pv;go_wp2;have hfr:=dM w3 w.heap.size (.bool (q 0).e) (uA (q 0).f) (uA (q 0).l) (.bool (q 1).e) (uA (q 1).f) (uA (q 1).l) (.bool (q 2).e) (uA (q 2).f) (uA (q 2).l) (.bool (q 3).e) (uA (q 3).f) (uA (q 3).l);refine bodyPost_ret (v:=pv q) (by simp[results,results173,go_sem,pv,y0,y1,y2,y3,y4,y5,y6,y7,y8,y9,y10,y11]) rfl ⟨by rw[Hq.out],?_,?_⟩
 ·rw[Hs.out];exact m3.fr hfr (by simp;omega) (by simp;omega) (by simp;omega)
 exact F3.trans' hfr (by simp)
end
theorem aLu (n:Nat)(hA:vZ n):zG (n+1):=by
 intro w r pb t wh s h hi hs hp hn;rw[U4];split
 ·rename_i hc;exact aGs n hA h hi hs hc hn
 split
 ·rename_i _ hc;exact pT h hi hs _ (.inl ⟨n,hc,hn,rfl⟩)
 split
 ·rename_i _ _ hc;exact pT h hi hs _ (.inr (.inl ⟨hc,rfl⟩))
 split
 ·rename_i _ _ _ hc;exact pT h hi hs _ (.inr (.inr (.inl ⟨hc,rfl⟩)))
 split
 ·rename_i _ _ _ _ hc;exact pT h hi hs _ (.inr (.inr (.inr ⟨hc,rfl⟩)))
 ·rename_i h1 h2 h3 h4 h5;exact aGr h hi hs hp h1 h2 h3 h4 h5
theorem aNc (W:WL)(b:Nat)(a0 a1 a2 a3 a4 a5 a6 a7 a8 a9 a10 a11 v0 v1 v2 v3 v4 v5 v6 v7 v8 v9 v10 v11:Value)(h:fY W b [a0,a1,a2,a3,a4,a5,a6,a7,a8,a9,a10,a11]):fY ((((((((((((W.setCell { block:=b,off:=0 } (v0)).setCell { block:=b,off:=1 } (v1)).setCell { block:=b,off:=2 } (v2)).setCell { block:=b,off:=3 } (v3)).setCell { block:=b,off:=4 } (v4)).setCell { block:=b,off:=5 } (v5)).setCell { block:=b,off:=6 } (v6)).setCell { block:=b,off:=7 } (v7)).setCell { block:=b,off:=8 } (v8)).setCell { block:=b,off:=9 } (v9)).setCell { block:=b,off:=10 } (v10)).setCell { block:=b,off:=11 } (v11)) b [v0,v1,v2,v3,v4,v5,v6,v7,v8,v9,v10,v11]:=
 ((((((((((((h.set 0 (by simp) v0).set 1 (by simp) v1).set 2 (by simp) v2).set 3 (by simp) v3).set 4 (by simp) v4).set 5 (by simp) v5).set 6 (by simp) v6).set 7 (by simp) v7).set 8 (by simp) v8).set 9 (by simp) v9).set 10 (by simp) v10).set 11 (by simp) v11)
theorem uT (W:WL)(b:Nat)(v0 v1 v2 v3 v4 v5 v6 v7 v8 v9 v10 v11:Value)(a:Addr):((((((((((((W.setCell { block:=b,off:=0 } (v0)).setCell { block:=b,off:=1 } (v1)).setCell { block:=b,off:=2 } (v2)).setCell { block:=b,off:=3 } (v3)).setCell { block:=b,off:=4 } (v4)).setCell { block:=b,off:=5 } (v5)).setCell { block:=b,off:=6 } (v6)).setCell { block:=b,off:=7 } (v7)).setCell { block:=b,off:=8 } (v8)).setCell { block:=b,off:=9 } (v9)).setCell { block:=b,off:=10 } (v10)).setCell { block:=b,off:=11 } (v11)).frozen? a=W.frozen? a:=by
 simp only[wfz]
structure Out (b:Nat) (q:Piece) (W:WL):Prop where
 rr:fY W b [.bool (q 0).e,.int .u64 (q 0).f,.int .u64 (q 0).l,.bool (q 1).e,.int .u64 (q 1).f,.int .u64 (q 1).l,.bool (q 2).e,.int .u64 (q 2).f,.int .u64 (q 2).l,.bool (q 3).e,.int .u64 (q 3).f,.int .u64 (q 3).l]
 zr:∀ i,W.frozen? ⟨b,i,none⟩=false
theorem Out.lt {b:Nat}{q:Piece}{W:WL} (h:Out b q W):b<W.heap.size:=aB (a:=Ad b 0) (h.rr 0)
theorem Out.al {b:Nat}{q:Piece}{W:WL}(h:Out b q W):W.cell? (Ad b 0)=some (.bool (q 0).e)∧W.cell? (Ad b 1)=some (uA (q 0).f)∧W.cell? (Ad b 2)=some (uA (q 0).l)∧W.cell? (Ad b 3)=some (.bool (q 1).e)∧W.cell? (Ad b 4)=some (uA (q 1).f)∧W.cell? (Ad b 5)=some (uA (q 1).l)∧W.cell? (Ad b 6)=some (.bool (q 2).e)∧W.cell? (Ad b 7)=some (uA (q 2).f)∧W.cell? (Ad b 8)=some (uA (q 2).l)∧W.cell? (Ad b 9)=some (.bool (q 3).e)∧W.cell? (Ad b 10)=some (uA (q 3).f)∧W.cell? (Ad b 11)=some (uA (q 3).l):=⟨h.rr 0,h.rr 1,h.rr 2,h.rr 3,h.rr 4,h.rr 5,h.rr 6,h.rr 7,h.rr 8,h.rr 9,h.rr 10,h.rr 11⟩
theorem Out.az {b:Nat}{q:Piece}{W:WL}(h:Out b q W):W.frozen? (Ad b 0)=false∧W.frozen? (Ad b 1)=false∧W.frozen? (Ad b 2)=false∧W.frozen? (Ad b 3)=false∧W.frozen? (Ad b 4)=false∧W.frozen? (Ad b 5)=false∧W.frozen? (Ad b 6)=false∧W.frozen? (Ad b 7)=false∧W.frozen? (Ad b 8)=false∧W.frozen? (Ad b 9)=false∧W.frozen? (Ad b 10)=false∧W.frozen? (Ad b 11)=false:=⟨h.zr 0,h.zr 1,h.zr 2,h.zr 3,h.zr 4,h.zr 5,h.zr 6,h.zr 7,h.zr 8,h.zr 9,h.zr 10,h.zr 11⟩
theorem Out.fr {S:LN}{b:Nat}{q:Piece}{W W':WL} (h:Out b q W) (hf:Fr S W W') (hb:b ∉ S):Out b q W':=⟨h.rr.fr hf hb h.lt,fun i=>(hf.frozen (p:=Ad b i) h.lt hb).trans (h.zr i)⟩
theorem Out.heap {b:Nat}{q:Piece}{W W':WL} (h:Out b q W) (hh:W'.heap=W.heap):Out b q W':=
 ⟨fun i=>(World.cell?_of_block (w:=W) (a:=Ad b i) (by rw[hh])).trans (h.rr i),fun i=>(World.frozen?_of_block (w:=W) (a:=Ad b i) (by rw[hh])).trans (h.zr i)⟩
theorem Out.new (W:WL)(q:Piece):Out W.heap.size q (W.alloc (Obj.cells #[.bool (q 0).e,uA (q 0).f,uA (q 0).l,.bool (q 1).e,uA (q 1).f,uA (q 1).l,.bool (q 2).e,uA (q 2).f,uA (q 2).l,.bool (q 3).e,uA (q 3).f,uA (q 3).l] 120)):=⟨bW W _ 120,bT W _ 120⟩
theorem Out.set {b:Nat}{q:Piece}{W:WL} (h:Out b q W) (p:Piece):Out b p ((((((((((((W.setCell { block:=b,off:=0 } (.bool (p 0).e)).setCell { block:=b,off:=1 } (.int .u64 (p 0).f)).setCell { block:=b,off:=2 } (.int .u64 (p 0).l)).setCell { block:=b,off:=3 } (.bool (p 1).e)).setCell { block:=b,off:=4 } (.int .u64 (p 1).f)).setCell { block:=b,off:=5 } (.int .u64 (p 1).l)).setCell { block:=b,off:=6 } (.bool (p 2).e)).setCell { block:=b,off:=7 } (.int .u64 (p 2).f)).setCell { block:=b,off:=8 } (.int .u64 (p 2).l)).setCell { block:=b,off:=9 } (.bool (p 3).e)).setCell { block:=b,off:=10 } (.int .u64 (p 3).f)).setCell { block:=b,off:=11 } (.int .u64 (p 3).l)):=
 ⟨aNc W b _ _ _ _ _ _ _ _ _ _ _ _ (.bool (p 0).e) (uA (p 0).f) (uA (p 0).l) (.bool (p 1).e) (uA (p 1).f) (uA (p 1).l) (.bool (p 2).e) (uA (p 2).f) (uA (p 2).l) (.bool (p 3).e) (uA (p 3).f) (uA (p 3).l) h.rr,fun i=>(uT W b (.bool (p 0).e) (uA (p 0).f) (uA (p 0).l) (.bool (p 1).e) (uA (p 1).f) (uA (p 1).l) (.bool (p 2).e) (uA (p 2).f) (uA (p 2).l) (.bool (p 3).e) (uA (p 3).f) (uA (p 3).l) _).trans (h.zr i)⟩
theorem Res.heap {b:Nat}{W W':WL} (h:Res b W) (hh:W'.heap=W.heap):Res b W':=
 ⟨fun i=>(World.cell?_of_block (w:=W) (a:=Ad b i) (by rw[hh])).trans (h.rr i),fun i=>(World.frozen?_of_block (w:=W) (a:=Ad b i) (by rw[hh])).trans (h.zr i)⟩
theorem Fr.heap {S:LN}{a w w':WL} (h:Fr S a w) (hh:w'.heap=w.heap) (ho:w'.os=w.os) (ht:w'.tape=w.tape) (hu:w'.output=w.output):Fr S a w':=
 ⟨ho.trans h.os,ht.trans h.tape,hu.trans h.output,by rw[hh];exact h.size,by rw[hh];exact h.block⟩
structure gQ (w:WL) (r pb:Nat) (t:BA) (wh:Nat→Value) (ob:Nat) (q:Piece) (s:St) (W:WL):Prop where
 m:M W r pb t wh s
 out:Out ob q W
 res:Res w.heap.size W
 fr:Fr [r,pb] w W
 lo:w.heap.size<ob
 rl:r<w.heap.size
 pl:pb<w.heap.size
 h6:1<w.heap.size
theorem gQ.heap {w:WL}{r pb:Nat}{t:BA}{wh:Nat→Value}{ob:Nat}{q:Piece}{s:St}{W W':WL} (h:gQ w r pb t wh ob q s W) (hh:W'.heap=W.heap) (ho:W'.os=W.os) (ht:W'.tape=W.tape) (hu:W'.output=W.output):gQ w r pb t wh ob q s W':=
 ⟨h.m.heap hh,h.out.heap hh,h.res.heap hh,h.fr.heap hh ho ht hu,h.lo,h.rl,h.pl,h.h6⟩
theorem gQ.kept {w:WL}{r pb:Nat}{t:BA}{wh:Nat→Value}{ob:Nat}{q:Piece}{s:St}{W W':WL} (h:gQ w r pb t wh ob q s W) (hf:Fr [] W W'):gQ w r pb t wh ob q s W':=
 ⟨h.m.fr hf (by simp) (by simp) (by simp),h.out.fr hf (by simp),h.res.fr hf (by simp),h.fr.trans (hf.mono (by simp)),h.lo,h.rl,h.pl,h.h6⟩
theorem gQ.call {w:WL}{r pb:Nat}{t:BA}{wh:Nat→Value}{ob:Nat}{q:Piece}{s s':St}{W W':WL} (h:gQ w r pb t wh ob q s W) (hm:M W' r pb t wh s') (hf:Fr [r,pb] W W'):gQ w r pb t wh ob q s' W':=
 have h1:=h.lo
 have h2:=h.rl
 have h3:=h.pl
 ⟨hm,h.out.fr hf (by simp;omega),h.res.fr hf (by simp;omega),h.fr.trans hf,h.lo,h.rl,h.pl,h.h6⟩
theorem gQ.set {w:WL}{r pb:Nat}{t:BA}{wh:Nat→Value}{ob:Nat}{q:Piece}{s:St}{W:WL} (h:gQ w r pb t wh ob q s W) (p:Piece):gQ w r pb t wh ob p s ((((((((((((W.setCell { block:=ob,off:=0 } (.bool (p 0).e)).setCell { block:=ob,off:=1 } (.int .u64 (p 0).f)).setCell { block:=ob,off:=2 } (.int .u64 (p 0).l)).setCell { block:=ob,off:=3 } (.bool (p 1).e)).setCell { block:=ob,off:=4 } (.int .u64 (p 1).f)).setCell { block:=ob,off:=5 } (.int .u64 (p 1).l)).setCell { block:=ob,off:=6 } (.bool (p 2).e)).setCell { block:=ob,off:=7 } (.int .u64 (p 2).f)).setCell { block:=ob,off:=8 } (.int .u64 (p 2).l)).setCell { block:=ob,off:=9 } (.bool (p 3).e)).setCell { block:=ob,off:=10 } (.int .u64 (p 3).f)).setCell { block:=ob,off:=11 } (.int .u64 (p 3).l)):=by
 have h1:=h.lo;have h2:=h.rl;have h3:=h.pl;have h4:=h.h6;have hf:=dM W ob (.bool (p 0).e) (uA (p 0).f) (uA (p 0).l) (.bool (p 1).e) (uA (p 1).f) (uA (p 1).l) (.bool (p 2).e) (uA (p 2).f) (uA (p 2).l) (.bool (p 3).e) (uA (p 3).f) (uA (p 3).l);exact⟨h.m.fr hf (by simp;omega) (by simp;omega) (by simp only[List.mem_cons,List.not_mem_nil,or_false];omega),h.out.set p,h.res.fr hf (by simp;omega),h.fr.trans' hf (by simp;omega),h.lo,h.rl,h.pl,h.h6⟩
theorem gQ.adv {w:WL}{r pb:Nat}{t:BA}{wh:Nat→Value}{ob:Nat}{q:Piece}{s:St}{W:WL} (h:gQ w r pb t wh ob q s W):gQ w r pb t wh ob q (aW s) (W.setCell ⟨r,1,none⟩ (.int .i64 ((s.pos:Int)+1))):=
 h.call h.m.adv ((Fr.refl [r,pb] W).setCell (p:=⟨r,1,none⟩) (.inl (by simp)) _)
theorem gQ.tie {w:WL}{r pb:Nat}{t:BA}{wh:Nat→Value}{ob:Nat}{q:Piece}{s:St}{W W':WL}{fo:Nat→NN} (h:gQ w r pb t wh ob q s W) (hP:bL W' pb wh s.tk fo) (hf:Fr [pb] W W'):gQ w r pb t wh ob q { s with fo:=fo } W':=
 h.call ⟨h.m.rd.of_block (hf.block r h.m.rlt (by simpa using h.m.n1)),hP,h.m.tab.fr hf (by simpa using fun e=>h.m.n3 e.symm),h.m.n1,h.m.n2,h.m.n3⟩ (hf.mono (by simp))
end Go.Proofs.YtlokkgajpjafmaaGreatDoor
