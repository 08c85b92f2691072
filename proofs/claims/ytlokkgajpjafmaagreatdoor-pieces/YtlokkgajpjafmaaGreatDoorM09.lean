import Derived.Deep.OwnRows
import Derived.Test.YtlokkgajpjafmaaGreatDoorM08
set_option linter.unusedSimpArgs false
set_option linter.unusedVariables false
set_option maxRecDepth 100000
set_option maxHeartbeats 40000000
open _root_.Go.Proofs.Tryz
namespace Go.Proofs.YtlokkgajpjafmaaGreatDoor
open Go.RowKit
structure aZz (w:WL) (r pb:Nat) (t:BA) (wh:Nat→Value) (ob:Nat) (X:Piece × St) (m:Nat) (q:Piece) (s1:St) (W:WL):Prop where
 wk:gQ w r pb t wh ob q s1 W
 eq:Hid (nG t m q s1=X)
 inv:Inv t s1
 pb:PB s1.atoms q
 fuel:6*(t.size-s1.pos)+1≤m
theorem aJn (n:Nat)(hA:zG n):zF (n+1):=by
 intro w r pb t wh s h hi hs hp hn;have t6:=h.tab.lt;have hm:=hmX
 have hrl:=h.rlt;have hpl:=h.pat.lt;rw[N2];have gv:=(fD t n).atom s hi hp;have hat:=fun (W:WL) (hW:M W r pb t wh s)=>hA W r pb t wh s hW hi hs hp (by omega);unfold pW at hat ⊢;obtain⟨q0,hq0⟩:∃ q,(uZ t n s).1=q:=⟨_,rfl⟩;obtain⟨s0,hs0⟩:∃ q,(uZ t n s).2=q:=⟨_,rfl⟩;have gi:=gv.inv;have gp:=gv.pb;have gl:=gv.le;simp only[hq0,hs0] at hat gi gp gl ⊢;clear hq0 hs0 gv;obtain⟨X,hX⟩:=eXi (nG t n q0 s0);rw[hX];have HX:Hid (nG t n q0 s0=X):=hX;have Hat:=(show Hid _ from hat);clear hX hat;have f0:Fr [] w (w.alloc (Obj.cells #[.bool false,uA 0,uA 0,.bool false,uA 0,uA 0,.bool false,uA 0,uA 0,.bool false,uA 0,uA 0] 120)):=(Fr.refl [] _).alloc _;have m0:=h.fr f0 (by simp) (by simp) (by simp);have R0:=Res.new w;go_enter func148,ntmps148;go_wp2_with fail;refine (Hat.out _ m0).mono ?_;rintro e w1 ⟨rfl,m1,f1⟩;have R1:=R0.fr f1 (by simp;omega);have F1:Fr [r,pb] w w1:=(f0.mono (by simp)).trans f1;have f2:Fr [] w1 (w1.alloc (Obj.cells #[.bool (q0 0).e,uA (q0 0).f,uA (q0 0).l,.bool (q0 1).e,uA (q0 1).f,uA (q0 1).l,.bool (q0 2).e,uA (q0 2).f,uA (q0 2).l,.bool (q0 3).e,uA (q0 3).f,uA (q0 3).l] 120)):=(Fr.refl [] _).alloc _;have K0:gQ w r pb t wh w1.heap.size q0 s0 (w1.alloc (Obj.cells #[.bool (q0 0).e,uA (q0 0).f,uA (q0 0).l,.bool (q0 1).e,uA (q0 1).f,uA (q0 1).l,.bool (q0 2).e,uA (q0 2).f,uA (q0 2).l,.bool (q0 3).e,uA (q0 3).f,uA (q0 3).l] 120)):=
  ⟨m1.fr f2 (by simp) (by simp) (by simp),Out.new w1 q0,R1.fr f2 (by simp),F1.trans (f2.mono (by simp)),R1.lt,hrl,hpl,t6⟩
 clear m0 R0 f0 m1 R1 F1 f1 f2;unfold pv;go_wp2;generalize w1.heap.size=ob at *;generalize w1.alloc (Obj.cells #[.bool (q0 0).e,uA (q0 0).f,uA (q0 0).l,.bool (q0 1).e,uA (q0 1).f,uA (q0 1).l,.bool (q0 2).e,uA (q0 2).f,uA (q0 2).l,.bool (q0 3).e,uA (q0 3).f,uA (q0 3).l] 120)=W2 at *
 go_loopg [6] n (fun m _ wr=>∃ q s1,aZz w r pb t wh ob X m q s1 wr)
 case atStart=>exact⟨q0,s0,K0,HX,gi,gp,by omega⟩
 case round=>
  obtain⟨q,s1,J⟩:=hrel;clear K0 HX Hat;have heq:=J.eq.out;have hfu:=J.fuel;obtain⟨m',rfl⟩:∃ m',gk=m'+1:=⟨gk-1,by omega⟩;rw[aAr] at heq;have hpk:=cM J.wk.m hs;have hpos:=J.inv.pos;have hat:=J.inv.at_;by_cases c42:aH t s1=42
  ·rw[if_pos c42] at heq;have hp1:=(iO (t:=t) (s:=s1) (by rw[c42];decide)).2;have Heq:Hid _:=heq;have H42:Hid _:=c42;have e42:(aH t s1==42)=true:=by simp[c42]
   clear heq c42;go_wp2_with fail;refine hpk.mono ?_;rintro e w5 ⟨rfl,n5,rfl⟩;have K0:gQ w r pb t wh ob q s1 (wr.drewN n5):=J.wk.heap rfl rfl rfl rfl;generalize wr.drewN n5=Wa at *;have c4:=K0.m.rd.c4;obtain⟨x0,x1,x2,x3,x4,x5,x6,x7,x8,x9,x10,x11⟩:=K0.out.al;go_wp2;refine aP 5 hm (by kernel_rfl) ?_;simp only[Zt]
   repeat still_step
   refine wpStill_nil ?_;go_wp2_with fail;have hrep:=xT pb q Wa.drew wh s1.tk s1.fo (fun x=>J.pb.l50 (by omega) x) (fun x=>(J.pb.ok (by omega) x).1) (K0.m.pat.of_block rfl) (J.inv.fo64 hs) (K0.m.tab.of_block rfl) K0.m.n3;unfold pv at hrep;refine hrep.mono ?_;rintro e Wb ⟨rfl,Pb,fb⟩;have fb:Fr [pb] Wa Wb:=⟨fb.os,fb.tape,fb.output,fb.size,fb.block⟩;have Kb:=K0.tie Pb fb;clear hrep c4 x0 x1 x2 x3 x4 x5 x6 x7 x8 x9 x10 x11;go_wp2;refine aI (fun _=>True) hm ?_;have hS:(fun _:WL=>True) Wb.drew:=trivial;refine wpAnyH_ready (rs:=[0,1]) (by kernel_rfl) (by simp) ?_;refine AllReadyH.cons rfl (fun K hK=>?_) ?_
   ·obtain⟨x0,x1,x2,x3,x4,x5,x6,x7,x8,x9,x10,x11⟩:=Kb.out.al;go_simp;clear x0 x1 x2 x3 x4 x5 x6 x7 x8 x9 x10 x11;refine hK _ _ hS ?_;clear hK K;intro _;refine rd1 (r:=1) (by kernel_rfl) rfl fun K hK=>?_;go_simp;have hnt:=iW Wb.drew;unfold pv at hnt;refine hnt.mono ?_;rintro e V1 ⟨rfl,fv⟩;have fv:Fr [] Wb V1:=⟨fv.os,fv.tape,fv.output,fv.size,fv.block⟩;have K1:=Kb.kept fv;clear hnt;clear hS;have hS:=trivial;refine hK _ _ hS ?_;clear hK K;intro _;refine rd1 (r:=2) (by kernel_rfl) rfl fun K hK=>?_;go_simp;have hei:=iI q aQ (J.pb.ok (by omega)) ((PB.nothing 0).ok (by decide)) V1;unfold pv at hei;refine hei.mono ?_;rintro e V2 ⟨rfl,fu⟩;have K2:=K1.kept fu;clear hei;clear hS;have hS:=trivial;refine hK _ _ hS ?_;clear hK K;intro _;obtain⟨x0,x1,x2,x3,x4,x5,x6,x7,x8,x9,x10,x11⟩:=K2.out.al;obtain⟨xz0,xz1,xz2,xz3,xz4,xz5,xz6,xz7,xz8,xz9,xz10,xz11⟩:=K2.out.az;refine rd1 (r:=3) (by kernel_rfl) rfl fun K hK=>?_;go_simp;clear x0 x1 x2 x3 x4 x5 x6 x7 x8 x9 x10 x11 xz0 xz1 xz2 xz3 xz4 xz5 xz6 xz7 xz8 xz9 xz10 xz11;have K3:=K2.set (cK q aQ);generalize World.setCell _ _ _=V3 at *;refine hK _ _ trivial ?_;clear hK K;intro _;refine wpAnyH_done (by kernel_rfl) ?_ _;have heq':Hid _:=Heq.out;have c42':Hid _:=H42.out;have c1:=K3.m.rd.c1;have z1:=K3.m.rd.f1;go_wp2
    go_roundg m'
    case measure=>omega
    case rel=>
     have hin:=(J.inv.tie (q:=q) J.pb).adv (s:={ s1 with fo:=oE s1.fo q q }) (by rw[oT,c42'.out];decide);exact⟨cK q aQ,_,K3.adv,heq'.out,hin,J.pb.either (PB.nothing _),by simp[aW];omega⟩
   refine AllReadyH.cons rfl (fun K hK=>?_) AllReadyH.nil;go_simp;have hnt:=iW Wb.drew;unfold pv at hnt;refine hnt.mono ?_;rintro e V1 ⟨rfl,fv⟩;have fv:Fr [] Wb V1:=⟨fv.os,fv.tape,fv.output,fv.size,fv.block⟩;have K1:=Kb.kept fv;clear hnt;clear hS;have hS:=trivial;refine hK _ _ hS ?_;clear hK K;intro _;obtain⟨x0,x1,x2,x3,x4,x5,x6,x7,x8,x9,x10,x11⟩:=K1.out.al;refine rd1 (r:=0) (by kernel_rfl) rfl fun K hK=>?_;go_simp;clear x0 x1 x2 x3 x4 x5 x6 x7 x8 x9 x10 x11;refine hK _ _ hS ?_;clear hK K;intro _;refine rd1 (r:=2) (by kernel_rfl) rfl fun K hK=>?_;go_simp;have hei:=iI q aQ (J.pb.ok (by omega)) ((PB.nothing 0).ok (by decide)) V1;unfold pv at hei;refine hei.mono ?_;rintro e V2 ⟨rfl,fu⟩;have K2:=K1.kept fu;clear hei;clear hS;have hS:=trivial;refine hK _ _ hS ?_;clear hK K;intro _;obtain⟨x0,x1,x2,x3,x4,x5,x6,x7,x8,x9,x10,x11⟩:=K2.out.al;obtain⟨xz0,xz1,xz2,xz3,xz4,xz5,xz6,xz7,xz8,xz9,xz10,xz11⟩:=K2.out.az;refine rd1 (r:=3) (by kernel_rfl) rfl fun K hK=>?_;go_simp;clear x0 x1 x2 x3 x4 x5 x6 x7 x8 x9 x10 x11 xz0 xz1 xz2 xz3 xz4 xz5 xz6 xz7 xz8 xz9 xz10 xz11;have K3:=K2.set (cK q aQ);generalize World.setCell _ _ _=V3 at *;refine hK _ _ trivial ?_;clear hK K;intro _;refine wpAnyH_done (by kernel_rfl) ?_ _;have heq':Hid _:=Heq.out;have c42':Hid _:=H42.out;have c1:=K3.m.rd.c1;have z1:=K3.m.rd.f1;go_wp2
   go_roundg m'
   case measure=>omega
   case rel=>
    have hin:=(J.inv.tie (q:=q) J.pb).adv (s:={ s1 with fo:=oE s1.fo q q }) (by rw[oT,c42'.out];decide);exact⟨cK q aQ,_,K3.adv,heq'.out,hin,J.pb.either (PB.nothing _),by simp[aW];omega⟩
  rw[if_neg c42] at heq;by_cases c43:aH t s1=43
  ·rw[if_pos c43] at heq;have hp1:=(iO (t:=t) (s:=s1) (by rw[c43];decide)).2;have Heq:Hid _:=heq;have H43:Hid _:=c43;have e42:(aH t s1==42)=false:=by simp[c43]
   have e43:(aH t s1==43)=true:=by simp[c43]
   clear heq c43 c42;go_wp2_with fail;refine hpk.mono ?_;rintro e w5 ⟨rfl,n5,rfl⟩;have K0:gQ w r pb t wh ob q s1 (wr.drewN n5):=J.wk.heap rfl rfl rfl rfl;generalize wr.drewN n5=Wa at *;have c4:=K0.m.rd.c4;obtain⟨x0,x1,x2,x3,x4,x5,x6,x7,x8,x9,x10,x11⟩:=K0.out.al;go_wp2;refine aP 5 hm (by kernel_rfl) ?_;simp only[Zt]
   repeat still_step
   refine wpStill_nil ?_;go_wp2_with fail;have hrep:=xT pb q Wa.drew wh s1.tk s1.fo (fun x=>J.pb.l50 (by omega) x) (fun x=>(J.pb.ok (by omega) x).1) (K0.m.pat.of_block rfl) (J.inv.fo64 hs) (K0.m.tab.of_block rfl) K0.m.n3;unfold pv at hrep;refine hrep.mono ?_;rintro e Wb ⟨rfl,Pb,fb⟩;have fb:Fr [pb] Wa Wb:=⟨fb.os,fb.tape,fb.output,fb.size,fb.block⟩;have Kb:=K0.tie Pb fb;clear hrep c4 x0 x1 x2 x3 x4 x5 x6 x7 x8 x9 x10 x11;have heq':Hid _:=Heq.out;have c1:=Kb.m.rd.c1;have z1:=Kb.m.rd.f1;have c43':Hid _:=H43.out;go_wp2
   go_roundg m'
   case measure=>omega
   case rel=>
    have hin:=(J.inv.tie (q:=q) J.pb).adv (s:={ s1 with fo:=oE s1.fo q q }) (by rw[oT,c43'.out];decide);exact⟨q,_,Kb.adv,heq'.out,hin,J.pb,by simp[aW];omega⟩
  rw[if_neg c43] at heq;by_cases c63:aH t s1=63
  ·rw[if_pos c63] at heq;have hp1:=(iO (t:=t) (s:=s1) (by rw[c63];decide)).2;have Heq:Hid _:=heq;have H63:Hid _:=c63;have e42:(aH t s1==42)=false:=by simp[c63]
   have e43:(aH t s1==43)=false:=by simp[c63]
   have e63:(aH t s1==63)=true:=by simp[c63]
   clear heq c63 c42 c43;go_wp2_with fail;refine hpk.mono ?_;rintro e w5 ⟨rfl,n5,rfl⟩;have K0:gQ w r pb t wh ob q s1 (wr.drewN n5):=J.wk.heap rfl rfl rfl rfl;generalize wr.drewN n5=Wa at *;go_wp2;refine aI (fun _=>True) hm ?_;have hS:(fun _:WL=>True) Wa.drew:=trivial;refine wpAnyH_ready (rs:=[0,1]) (by kernel_rfl) (by simp) ?_;refine AllReadyH.cons rfl (fun K hK=>?_) ?_
   ·obtain⟨x0,x1,x2,x3,x4,x5,x6,x7,x8,x9,x10,x11⟩:=K0.out.al;go_simp;clear x0 x1 x2 x3 x4 x5 x6 x7 x8 x9 x10 x11;refine hK _ _ hS ?_;clear hK K;intro _;refine rd1 (r:=1) (by kernel_rfl) rfl fun K hK=>?_;go_simp;have hnt:=iW Wa.drew;unfold pv at hnt;refine hnt.mono ?_;rintro e V1 ⟨rfl,fv⟩;have fv:Fr [] Wa V1:=⟨fv.os,fv.tape,fv.output,fv.size,fv.block⟩;have K1:=K0.kept fv;clear hnt;clear hS;have hS:=trivial;refine hK _ _ hS ?_;clear hK K;intro _;refine rd1 (r:=2) (by kernel_rfl) rfl fun K hK=>?_;go_simp;have hei:=iI q aQ (J.pb.ok (by omega)) ((PB.nothing 0).ok (by decide)) V1;unfold pv at hei;refine hei.mono ?_;rintro e V2 ⟨rfl,fu⟩;have K2:=K1.kept fu;clear hei;clear hS;have hS:=trivial;refine hK _ _ hS ?_;clear hK K;intro _;obtain⟨x0,x1,x2,x3,x4,x5,x6,x7,x8,x9,x10,x11⟩:=K2.out.al;obtain⟨xz0,xz1,xz2,xz3,xz4,xz5,xz6,xz7,xz8,xz9,xz10,xz11⟩:=K2.out.az;refine rd1 (r:=3) (by kernel_rfl) rfl fun K hK=>?_;go_simp;clear x0 x1 x2 x3 x4 x5 x6 x7 x8 x9 x10 x11 xz0 xz1 xz2 xz3 xz4 xz5 xz6 xz7 xz8 xz9 xz10 xz11;have K3:=K2.set (cK q aQ);generalize World.setCell _ _ _=V3 at *;refine hK _ _ trivial ?_;clear hK K;intro _;refine wpAnyH_done (by kernel_rfl) ?_ _;have c1:=K3.m.rd.c1;have z1:=K3.m.rd.f1;go_wp2
    go_roundg m'
    case measure=>omega
    case rel=>exact⟨cK q aQ,_,K3.adv,Heq.out,J.inv.adv (by rw[H63.out];decide),J.pb.either (PB.nothing _),by simp[aW];omega⟩
   refine AllReadyH.cons rfl (fun K hK=>?_) AllReadyH.nil;go_simp;have hnt:=iW Wa.drew;unfold pv at hnt;refine hnt.mono ?_;rintro e V1 ⟨rfl,fv⟩;have fv:Fr [] Wa V1:=⟨fv.os,fv.tape,fv.output,fv.size,fv.block⟩;have K1:=K0.kept fv;clear hnt;clear hS;have hS:=trivial;refine hK _ _ hS ?_;clear hK K;intro _;obtain⟨x0,x1,x2,x3,x4,x5,x6,x7,x8,x9,x10,x11⟩:=K1.out.al;refine rd1 (r:=0) (by kernel_rfl) rfl fun K hK=>?_;go_simp;clear x0 x1 x2 x3 x4 x5 x6 x7 x8 x9 x10 x11;refine hK _ _ hS ?_;clear hK K;intro _;refine rd1 (r:=2) (by kernel_rfl) rfl fun K hK=>?_;go_simp;have hei:=iI q aQ (J.pb.ok (by omega)) ((PB.nothing 0).ok (by decide)) V1;unfold pv at hei;refine hei.mono ?_;rintro e V2 ⟨rfl,fu⟩;have K2:=K1.kept fu;clear hei;clear hS;have hS:=trivial;refine hK _ _ hS ?_;clear hK K;intro _;obtain⟨x0,x1,x2,x3,x4,x5,x6,x7,x8,x9,x10,x11⟩:=K2.out.al;obtain⟨xz0,xz1,xz2,xz3,xz4,xz5,xz6,xz7,xz8,xz9,xz10,xz11⟩:=K2.out.az;refine rd1 (r:=3) (by kernel_rfl) rfl fun K hK=>?_;go_simp;clear x0 x1 x2 x3 x4 x5 x6 x7 x8 x9 x10 x11 xz0 xz1 xz2 xz3 xz4 xz5 xz6 xz7 xz8 xz9 xz10 xz11;have K3:=K2.set (cK q aQ);generalize World.setCell _ _ _=V3 at *;refine hK _ _ trivial ?_;clear hK K;intro _;refine wpAnyH_done (by kernel_rfl) ?_ _;have c1:=K3.m.rd.c1;have z1:=K3.m.rd.f1;go_wp2
   go_roundg m'
   case measure=>omega
   case rel=>exact⟨cK q aQ,_,K3.adv,Heq.out,J.inv.adv (by rw[H63.out];decide),J.pb.either (PB.nothing _),by simp[aW];omega⟩
  rw[if_neg c63] at heq;have Heq:Hid _:=heq;have e42:(aH t s1==42)=false:=by simpa using c42
  have e43:(aH t s1==43)=false:=by simpa using c43
  have e63:(aH t s1==63)=false:=by simpa using c63
  clear heq c63 c42 c43;go_wp2_with fail;refine hpk.mono ?_;rintro e w5 ⟨rfl,n5,rfl⟩;have K0:gQ w r pb t wh ob q s1 (wr.drewN n5):=J.wk.heap rfl rfl rfl rfl;generalize wr.drewN n5=Wa at *;obtain⟨x0,x1,x2,x3,x4,x5,x6,x7,x8,x9,x10,x11⟩:=K0.out.al;obtain⟨y0,y1,y2,y3,y4,y5,y6,y7,y8,y9,y10,y11⟩:=K0.res.al;obtain⟨z0,z1,z2,z3,z4,z5,z6,z7,z8,z9,z10,z11⟩:=K0.res.az;go_wp2;have hlo:=K0.lo;have hfr:=dM Wa w.heap.size (.bool (q 0).e) (uA (q 0).f) (uA (q 0).l) (.bool (q 1).e) (uA (q 1).f) (uA (q 1).l) (.bool (q 2).e) (uA (q 2).f) (uA (q 2).l) (.bool (q 3).e) (uA (q 3).f) (uA (q 3).l);have hX:=Heq.out;refine bodyPost_ret (v:=pv q) (by simp[results,results148,go_sem,pv,y0,y1,y2,y3,y4,y5,y6,y7,y8,y9,y10,y11]) rfl ⟨by rw[← hX],?_,?_⟩
  ·rw[← hX];exact K0.m.fr hfr (by simp;omega) (by simp;omega) (by simp only[List.mem_cons,List.not_mem_nil,or_false];omega)
  exact K0.fr.trans' hfr (by simp)
structure bCa (w:WL) (r pb:Nat) (t:BA) (wh:Nat→Value) (ob:Nat) (X:Piece × St) (m:Nat) (q:Piece) (s1:St) (W:WL):Prop where
 wk:gQ w r pb t wh ob q s1 W
 eq:Hid (sD t m q s1=X)
 inv:Inv t s1
 pb:PB s1.atoms q
 fuel:s1.fault=true∨6*(t.size-s1.pos)+3≤m
theorem aJa {t:BA}{m:Nat}{q:Piece}{s:St} (h:aH t s = -1∨aH t s=41∨aH t s=124∨aH t s=42∨aH t s=43∨aH t s=63):sD t m q s=(q,s):=by
 cases m with
 | zero=>rw[aSe]
 | succ m=>rw[I9,if_pos h]
theorem aMx (n:Nat)(hA:∀ m,m≤n→zF m):X0 (n+1):=by
 intro w r pb t wh s h hi hs hn;have t6:=h.tab.lt;have hm:=hmX
 have hrl:=h.rlt;have hpl:=h.pat.lt;rw[aMy];unfold pW;have gp:PB s.atoms aQ:=PB.nothing _;have hnt:=fun (W:WL)=>iW W;obtain⟨q0,hq0⟩:∃ q,aQ=q:=⟨_,rfl⟩;rw[hq0] at gp hnt ⊢;clear hq0;obtain⟨X,hX⟩:=eXi (sD t n q0 s);rw[hX];have HX:Hid (sD t n q0 s=X):=hX;have Hnt:=(show Hid _ from hnt);have HA:=(show Hid _ from hA);clear hX hnt hA;have f0:Fr [] w (w.alloc (Obj.cells #[.bool false,uA 0,uA 0,.bool false,uA 0,uA 0,.bool false,uA 0,uA 0,.bool false,uA 0,uA 0] 120)):=(Fr.refl [] _).alloc _;have m0:=h.fr f0 (by simp) (by simp) (by simp);have R0:=Res.new w;go_enter func94,ntmps94;go_wp2_with fail;refine (Hnt.out _).mono ?_;rintro e w1 ⟨rfl,f1⟩;have m1:=m0.fr f1 (by simp) (by simp) (by simp);have R1:=R0.fr f1 (by simp);have F1:Fr [r,pb] w w1:=(f0.mono (by simp)).trans (f1.mono (by simp));have f2:Fr [] w1 (w1.alloc (Obj.cells #[.bool (q0 0).e,uA (q0 0).f,uA (q0 0).l,.bool (q0 1).e,uA (q0 1).f,uA (q0 1).l,.bool (q0 2).e,uA (q0 2).f,uA (q0 2).l,.bool (q0 3).e,uA (q0 3).f,uA (q0 3).l] 120)):=(Fr.refl [] _).alloc _;have K0:gQ w r pb t wh w1.heap.size q0 s (w1.alloc (Obj.cells #[.bool (q0 0).e,uA (q0 0).f,uA (q0 0).l,.bool (q0 1).e,uA (q0 1).f,uA (q0 1).l,.bool (q0 2).e,uA (q0 2).f,uA (q0 2).l,.bool (q0 3).e,uA (q0 3).f,uA (q0 3).l] 120)):=
  ⟨m1.fr f2 (by simp) (by simp) (by simp),Out.new w1 q0,R1.fr f2 (by simp),F1.trans (f2.mono (by simp)),R1.lt,hrl,hpl,t6⟩
 clear m0 R0 f0 m1 R1 F1 f1 f2;unfold pv;go_wp2;generalize w1.heap.size=ob at *;generalize w1.alloc (Obj.cells #[.bool (q0 0).e,uA (q0 0).f,uA (q0 0).l,.bool (q0 1).e,uA (q0 1).f,uA (q0 1).l,.bool (q0 2).e,uA (q0 2).f,uA (q0 2).l,.bool (q0 3).e,uA (q0 3).f,uA (q0 3).l] 120)=W2 at *
 go_loopg [5] n (fun m _ wr=>m≤n∧∃ q s1,bCa w r pb t wh ob X m q s1 wr)
 case atStart=>exact⟨Nat.le_refl _,q0,s,K0,HX,hi,gp,.inr (by omega)⟩
 case round=>
  obtain⟨hgkn,q,s1,J⟩:=hrel;clear K0 HX Hnt;have hpk:=cM J.wk.m hs;have hpos:=J.inv.pos;have hat:=J.inv.at_;by_cases hst:aH t s1 = -1∨aH t s1=41∨aH t s1=124∨aH t s1=42∨aH t s1=43∨aH t s1=63
  ·have Heq:Hid ((q,s1)=X):=(aJa hst).symm.trans J.eq.out;rcases hst with c | c | c | c | c | c
   all_goals
    first | have em1:(aH t s1==(-1))=true:=by simp[c] | have em1:(aH t s1==(-1))=false:=by simp[c]
    first | have e41:(aH t s1==41)=true:=by simp[c] | have e41:(aH t s1==41)=false:=by simp[c]
    first | have e124:(aH t s1==124)=true:=by simp[c] | have e124:(aH t s1==124)=false:=by simp[c]
    first | have e42:(aH t s1==42)=true:=by simp[c] | have e42:(aH t s1==42)=false:=by simp[c]
    first | have e43:(aH t s1==43)=true:=by simp[c] | have e43:(aH t s1==43)=false:=by simp[c]
    first | have e63:(aH t s1==63)=true:=by simp[c] | have e63:(aH t s1==63)=false:=by simp[c]
    clear c;go_wp2_with fail;refine hpk.mono ?_;rintro e w5 ⟨rfl,n5,rfl⟩;have K0:gQ w r pb t wh ob q s1 (wr.drewN n5):=J.wk.heap rfl rfl rfl rfl;generalize wr.drewN n5=Wa at *;obtain⟨x0,x1,x2,x3,x4,x5,x6,x7,x8,x9,x10,x11⟩:=K0.out.al;obtain⟨y0,y1,y2,y3,y4,y5,y6,y7,y8,y9,y10,y11⟩:=K0.res.al;obtain⟨z0,z1,z2,z3,z4,z5,z6,z7,z8,z9,z10,z11⟩:=K0.res.az;go_wp2;have hlo:=K0.lo;have hfr:=dM Wa w.heap.size (.bool (q 0).e) (uA (q 0).f) (uA (q 0).l) (.bool (q 1).e) (uA (q 1).f) (uA (q 1).l) (.bool (q 2).e) (uA (q 2).f) (uA (q 2).l) (.bool (q 3).e) (uA (q 3).f) (uA (q 3).l);have hX:=Heq.out;refine bodyPost_ret (v:=pv q) (by simp[results,results94,go_sem,pv,y0,y1,y2,y3,y4,y5,y6,y7,y8,y9,y10,y11]) rfl ⟨by rw[← hX],?_,?_⟩
    ·rw[← hX];exact K0.m.fr hfr (by simp;omega) (by simp;omega) (by simp;omega)
    exact K0.fr.trans' hfr (by simp)
  have hne:aH t s1≠-1:=fun e=>hst (.inl e);obtain⟨hnf,hp1⟩:=iO hne;have hfu:6*(t.size-s1.pos)+3≤gk:=J.fuel.elim (fun e=>by rw[hnf] at e;cases e) id;have hlt:=J.fuel;obtain⟨m',rfl⟩:∃ m',gk=m'+1:=⟨gk-1,by omega⟩;have heq:=J.eq.out;rw[I9,if_neg hst] at heq;obtain⟨k',hk'⟩:∃ k',m'=k'+2:=⟨m' - 2,by omega⟩;have gv:=(fD t m').part s1 J.inv hne;have gpr:s1.pos<(jH t m' s1).2.pos:=by rw[hk'];exact aJo J.inv hne
  clear hk' k' hlt;have hpa:=fun (W:WL) (hW:M W r pb t wh s1)=>HA.out m' (by omega) W r pb t wh s1 hW J.inv hs hne (by omega);unfold pW at hpa;have gi:=gv.inv;have gb:=gv.pb;have gal:=gv.al;obtain⟨q1,hq1⟩:∃ q,(jH t m' s1).1=q:=⟨_,rfl⟩;obtain⟨s2,hs2⟩:∃ q,(jH t m' s1).2=q:=⟨_,rfl⟩;simp only[hq1,hs2] at hpa gi gb gal gpr heq;clear hq1 hs2 gv;have Heq:Hid _:=heq;have Hpa:Hid _:=hpa;clear heq hpa;have gi_at:=gi.at_;have gi_pos:=gi.pos;have em1:(aH t s1==(-1))=false:=by simp;exact fun e=>hst (by simp[e])
  have e41:(aH t s1==41)=false:=by simp;exact fun e=>hst (by simp[e])
  have e124:(aH t s1==124)=false:=by simp;exact fun e=>hst (by simp[e])
  have e42:(aH t s1==42)=false:=by simp;exact fun e=>hst (by simp[e])
  have e43:(aH t s1==43)=false:=by simp;exact fun e=>hst (by simp[e])
  have e63:(aH t s1==63)=false:=by simp;exact fun e=>hst (by simp[e])
  clear hst hne;go_wp2_with fail;refine hpk.mono ?_;rintro e w5 ⟨rfl,n5,rfl⟩;have K0:gQ w r pb t wh ob q s1 (wr.drewN n5):=J.wk.heap rfl rfl rfl rfl;generalize wr.drewN n5=Wa at *;have c4:=K0.m.rd.c4;go_wp2;clear c4;refine aI (fun w1=>w1.cell? (Ad r 4)=some (.pointer (some (Ad pb 0)))) hm ?_;have hS:(fun w1:WL=>w1.cell? (Ad r 4)=some (.pointer (some (Ad pb 0)))) Wa.drew:=K0.m.rd.c4;refine aK (fun _ _ _ _ _ h=>h) hS [0,1,2,3,5] (by kernel_rfl) ?_
  iterate 5
   refine Yls.cons (v:=?_) rfl (.inl ⟨rfl,fun w1 hS1=>?_⟩) ?_;rotate_left
   ·have s4:w1.cell? (Ad r 4)=some (.pointer (some (Ad pb 0))):=hS1;go_simp;rfl
   simp only[Act.put,Zp]
  refine Yls.nil ?_;refine wpAnyH_ready (rs:=[4,6]) (by kernel_rfl) (by simp) ?_;refine AllReadyH.cons rfl (fun K hK=>?_) ?_
  ·obtain⟨x0,x1,x2,x3,x4,x5,x6,x7,x8,x9,x10,x11⟩:=K0.out.al;go_simp;clear x0 x1 x2 x3 x4 x5 x6 x7 x8 x9 x10 x11;refine hK _ _ hS ?_;clear hK K;intro _;refine rd1 (r:=6) (by kernel_rfl) rfl fun K hK=>?_;go_simp;refine (Hpa.out _ (K0.m.heap (w':=Wa.drew) rfl)).mono ?_;rintro e V1 ⟨rfl,mv,fv⟩;unfold pv;have fv:Fr [r,pb] Wa V1:=⟨fv.os,fv.tape,fv.output,fv.size,fv.block⟩;have K1:=K0.call mv fv;clear hS;have hS:=K1.m.rd.c4;refine hK _ _ hS ?_;clear hK K;intro _;refine rd1 (r:=7) (by kernel_rfl) rfl fun K hK=>?_;go_simp;have hjo:=aCa pb q q1 V1 wh s2.tk s2.fo (fun x=>J.pb.l50 (by omega) x) (fun x=>J.pb.ok (by omega) x) (fun x=>gb.ok (by omega) x) K1.m.pat (gi.fo64 hs) K1.m.tab K1.m.n3;unfold pv at hjo;refine hjo.mono ?_;rintro e V2 ⟨rfl,Pv,fu⟩;have K2:=K1.tie Pv fu;clear hjo;clear hS;have hS:=K2.m.rd.c4;refine hK _ _ hS ?_;clear hK K;intro _;obtain⟨x0,x1,x2,x3,x4,x5,x6,x7,x8,x9,x10,x11⟩:=K2.out.al;obtain⟨xz0,xz1,xz2,xz3,xz4,xz5,xz6,xz7,xz8,xz9,xz10,xz11⟩:=K2.out.az;refine rd1 (r:=8) (by kernel_rfl) rfl fun K hK=>?_;go_simp;clear x0 x1 x2 x3 x4 x5 x6 x7 x8 x9 x10 x11 xz0 xz1 xz2 xz3 xz4 xz5 xz6 xz7 xz8 xz9 xz10 xz11;have K3:=K2.set (joinF q q1);generalize World.setCell _ _ _=V3 at *;refine hK _ _ (K3.m.rd.c4) ?_;clear hK K;intro _;refine wpAnyH_done (by kernel_rfl) ?_ _;go_wp2
   go_roundg m'
   case measure=>omega
   case rel=>exact⟨by omega,joinF q q1,_,K3,Heq.out,gi.tie gb,(J.pb.mono gal).join gb,.inr (by simp only;omega)⟩
  refine AllReadyH.cons rfl (fun K hK=>?_) AllReadyH.nil;go_simp;refine (Hpa.out _ (K0.m.heap (w':=Wa.drew) rfl)).mono ?_;rintro e V1 ⟨rfl,mv,fv⟩;unfold pv;have fv:Fr [r,pb] Wa V1:=⟨fv.os,fv.tape,fv.output,fv.size,fv.block⟩;have K1:=K0.call mv fv;clear hS;have hS:=K1.m.rd.c4;refine hK _ _ hS ?_;clear hK K;intro _;obtain⟨x0,x1,x2,x3,x4,x5,x6,x7,x8,x9,x10,x11⟩:=K1.out.al;refine rd1 (r:=4) (by kernel_rfl) rfl fun K hK=>?_;go_simp;clear x0 x1 x2 x3 x4 x5 x6 x7 x8 x9 x10 x11;refine hK _ _ hS ?_;clear hK K;intro _;refine rd1 (r:=7) (by kernel_rfl) rfl fun K hK=>?_;go_simp;have hjo:=aCa pb q q1 V1 wh s2.tk s2.fo (fun x=>J.pb.l50 (by omega) x) (fun x=>J.pb.ok (by omega) x) (fun x=>gb.ok (by omega) x) K1.m.pat (gi.fo64 hs) K1.m.tab K1.m.n3;unfold pv at hjo;refine hjo.mono ?_;rintro e V2 ⟨rfl,Pv,fu⟩;have K2:=K1.tie Pv fu;clear hjo;clear hS;have hS:=K2.m.rd.c4;refine hK _ _ hS ?_;clear hK K;intro _;obtain⟨x0,x1,x2,x3,x4,x5,x6,x7,x8,x9,x10,x11⟩:=K2.out.al;obtain⟨xz0,xz1,xz2,xz3,xz4,xz5,xz6,xz7,xz8,xz9,xz10,xz11⟩:=K2.out.az;refine rd1 (r:=8) (by kernel_rfl) rfl fun K hK=>?_;go_simp;clear x0 x1 x2 x3 x4 x5 x6 x7 x8 x9 x10 x11 xz0 xz1 xz2 xz3 xz4 xz5 xz6 xz7 xz8 xz9 xz10 xz11;have K3:=K2.set (joinF q q1);generalize World.setCell _ _ _=V3 at *;refine hK _ _ (K3.m.rd.c4) ?_;clear hK K;intro _;refine wpAnyH_done (by kernel_rfl) ?_ _;go_wp2
  go_roundg m'
  case measure=>omega
  case rel=>exact⟨by omega,joinF q q1,_,K3,Heq.out,gi.tie gb,(J.pb.mono gal).join gb,.inr (by simp only;omega)⟩
structure bCe (w:WL) (r pb:Nat) (t:BA) (wh:Nat→Value) (ob:Nat) (X:Piece × St) (m:Nat) (q:Piece) (s1:St) (W:WL):Prop where
 wk:gQ w r pb t wh ob q s1 W
 eq:Hid (sZ t m q s1=X)
 inv:Inv t s1
 pb:PB s1.atoms q
 fuel:s1.fault=true∨6*(t.size-s1.pos)+5≤m
theorem aLw {t:BA}{m:Nat}{q:Piece}{s:St} (h:aH t s≠124):sZ t m q s=(q,s):=by
 cases m with
 | zero=>rw[aVh]
 | succ m=>rw[U8,if_neg h]
theorem aRi (n:Nat)(hA:∀ m,m≤n→X0 m):vZ (n+1):=by
 intro w r pb t wh s h hi hs hn;have t6:=h.tab.lt;have hm:=hmX
 have hrl:=h.rlt;have hpl:=h.pat.lt;rw[aRj];have gv:=(fD t n).seq s hi;have hsq:=fun (W:WL) (hW:M W r pb t wh s)=>hA n (Nat.le_refl _) W r pb t wh s hW hi hs (by omega);unfold pW at hsq ⊢;obtain⟨q0,hq0⟩:∃ q,(vE t n s).1=q:=⟨_,rfl⟩;obtain⟨s0,hs0⟩:∃ q,(vE t n s).2=q:=⟨_,rfl⟩;have gi:=gv.inv;have gp:=gv.pb;have gl:=gv.le;simp only[hq0,hs0] at hsq gi gp gl ⊢;clear hq0 hs0 gv;obtain⟨X,hX⟩:=eXi (sZ t n q0 s0);rw[hX];have HX:Hid (sZ t n q0 s0=X):=hX;have Hsq:=(show Hid _ from hsq);have HA:=(show Hid _ from hA);clear hX hsq hA;have f0:Fr [] w (w.alloc (Obj.cells #[.bool false,uA 0,uA 0,.bool false,uA 0,uA 0,.bool false,uA 0,uA 0,.bool false,uA 0,uA 0] 120)):=(Fr.refl [] _).alloc _;have m0:=h.fr f0 (by simp) (by simp) (by simp);have R0:=Res.new w;go_enter func58,ntmps58;go_wp2_with fail;refine (Hsq.out _ m0).mono ?_;rintro e w1 ⟨rfl,m1,f1⟩;have R1:=R0.fr f1 (by simp;omega);have F1:Fr [r,pb] w w1:=(f0.mono (by simp)).trans f1;have f2:Fr [] w1 (w1.alloc (Obj.cells #[.bool (q0 0).e,uA (q0 0).f,uA (q0 0).l,.bool (q0 1).e,uA (q0 1).f,uA (q0 1).l,.bool (q0 2).e,uA (q0 2).f,uA (q0 2).l,.bool (q0 3).e,uA (q0 3).f,uA (q0 3).l] 120)):=(Fr.refl [] _).alloc _;have K0:gQ w r pb t wh w1.heap.size q0 s0 (w1.alloc (Obj.cells #[.bool (q0 0).e,uA (q0 0).f,uA (q0 0).l,.bool (q0 1).e,uA (q0 1).f,uA (q0 1).l,.bool (q0 2).e,uA (q0 2).f,uA (q0 2).l,.bool (q0 3).e,uA (q0 3).f,uA (q0 3).l] 120)):=
  ⟨m1.fr f2 (by simp) (by simp) (by simp),Out.new w1 q0,R1.fr f2 (by simp),F1.trans (f2.mono (by simp)),R1.lt,hrl,hpl,t6⟩
 clear m0 R0 f0 m1 R1 F1 f1 f2;unfold pv;go_wp2;generalize w1.heap.size=ob at *;generalize w1.alloc (Obj.cells #[.bool (q0 0).e,uA (q0 0).f,uA (q0 0).l,.bool (q0 1).e,uA (q0 1).f,uA (q0 1).l,.bool (q0 2).e,uA (q0 2).f,uA (q0 2).l,.bool (q0 3).e,uA (q0 3).f,uA (q0 3).l] 120)=W2 at *
 go_loopg [6] n (fun m _ wr=>m≤n∧∃ q s1,bCe w r pb t wh ob X m q s1 wr)
 case atStart=>exact⟨Nat.le_refl _,q0,s0,K0,HX,gi,gp,.inr (by omega)⟩
 case round=>
  obtain⟨hgkn,q,s1,J⟩:=hrel;clear K0 HX Hsq;have hpos:=J.inv.pos;have hat:=J.inv.at_;have hsk:=oO 124 J.wk.m hs (by omega);unfold cG at hsk;by_cases hc:aH t s1=124
  ·rw[if_pos hc] at hsk;have hne:aH t s1≠-1:=by rw[hc];decide
   obtain⟨hnf,hp1⟩:=iO hne;have hfu:6*(t.size-s1.pos)+5≤gk:=J.fuel.elim (fun e=>by rw[hnf] at e;cases e) id;obtain⟨m',rfl⟩:∃ m',gk=m'+1:=⟨gk-1,by omega⟩;have heq:=J.eq.out;rw[U8,if_pos hc] at heq;have hin:=J.inv.adv hne;have gv:=(fD t m').seq _ hin;have hpa:=fun (W:WL) (hW:M W r pb t wh (aW s1))=>HA.out m' (by omega) W r pb t wh (aW s1) hW hin hs (by simp[aW];omega);unfold pW at hpa;have gi2:=gv.inv;have gb:=gv.pb;have gal:=gv.al;have gl2:=gv.le;obtain⟨q1,hq1⟩:∃ q,(vE t m' (aW s1)).1=q:=⟨_,rfl⟩;obtain⟨s2,hs2⟩:∃ q,(vE t m' (aW s1)).2=q:=⟨_,rfl⟩;simp only[hq1,hs2] at hpa gi2 gb gal gl2 heq;clear hq1 hs2 gv;have ga2:s1.atoms≤s2.atoms:=gal;have gl3:s1.pos+1≤s2.pos:=gl2;have Heq:Hid _:=heq;have Hpa:Hid _:=hpa;clear heq hpa gal gl2 hc hne;have gi_at:=gi2.at_;have gi_pos:=gi2.pos;go_wp2_with fail;refine hsk.mono ?_;rintro e Wa ⟨rfl,ma,fa⟩;have K0:=J.wk.call ma (fa.mono (by simp));go_wp2;refine aI (fun _=>True) hm ?_;have hS:(fun _:WL=>True) Wa.drew:=trivial;refine wpAnyH_take (i:=1) (v:=?_) rfl (by kernel_rfl) (by kernel_rfl) (by kernel_rfl) (fun _ _ _ h=>h) (.inl ⟨rfl,fun w1 hS1=>?_⟩) hS ?_;rotate_left
   ·go_simp;rfl
   simp only[Act.put,Zp];refine wpAnyH_ready (rs:=[0,2]) (by kernel_rfl) (by simp) ?_;refine AllReadyH.cons rfl (fun K hK=>?_) ?_
   ·obtain⟨x0,x1,x2,x3,x4,x5,x6,x7,x8,x9,x10,x11⟩:=K0.out.al;go_simp;clear x0 x1 x2 x3 x4 x5 x6 x7 x8 x9 x10 x11;refine hK _ _ hS ?_;clear hK K;intro _;refine rd1 (r:=2) (by kernel_rfl) rfl fun K hK=>?_;go_simp;refine (Hpa.out _ (K0.m.heap (w':=Wa.drew) rfl)).mono ?_;rintro e V1 ⟨rfl,mv,fv⟩;unfold pv;have fv:Fr [r,pb] Wa V1:=⟨fv.os,fv.tape,fv.output,fv.size,fv.block⟩;have K1:=K0.call mv fv;clear hS;have hS:=trivial;refine hK _ _ hS ?_;clear hK K;intro _;refine rd1 (r:=3) (by kernel_rfl) rfl fun K hK=>?_;go_simp;have hei:=iI q q1 (J.pb.ok (by omega)) (gb.ok (by omega)) V1;unfold pv at hei;refine hei.mono ?_;rintro e V2 ⟨rfl,fu⟩;have K2:=K1.kept fu;clear hei;clear hS;have hS:=trivial;refine hK _ _ hS ?_;clear hK K;intro _;obtain⟨x0,x1,x2,x3,x4,x5,x6,x7,x8,x9,x10,x11⟩:=K2.out.al;obtain⟨xz0,xz1,xz2,xz3,xz4,xz5,xz6,xz7,xz8,xz9,xz10,xz11⟩:=K2.out.az;refine rd1 (r:=4) (by kernel_rfl) rfl fun K hK=>?_;go_simp;clear x0 x1 x2 x3 x4 x5 x6 x7 x8 x9 x10 x11 xz0 xz1 xz2 xz3 xz4 xz5 xz6 xz7 xz8 xz9 xz10 xz11;have K3:=K2.set (cK q q1);generalize World.setCell _ _ _=V3 at *;refine hK _ _ (trivial) ?_;clear hK K;intro _;refine wpAnyH_done (by kernel_rfl) ?_ _;go_wp2
    go_roundg m'
    case measure=>omega
    case rel=>exact⟨by omega,cK q q1,_,K3,Heq.out,gi2,(J.pb.mono ga2).either gb,.inr (by omega)⟩
   refine AllReadyH.cons rfl (fun K hK=>?_) AllReadyH.nil;go_simp;refine (Hpa.out _ (K0.m.heap (w':=Wa.drew) rfl)).mono ?_;rintro e V1 ⟨rfl,mv,fv⟩;unfold pv;have fv:Fr [r,pb] Wa V1:=⟨fv.os,fv.tape,fv.output,fv.size,fv.block⟩;have K1:=K0.call mv fv;clear hS;have hS:=trivial;refine hK _ _ hS ?_;clear hK K;intro _;obtain⟨x0,x1,x2,x3,x4,x5,x6,x7,x8,x9,x10,x11⟩:=K1.out.al;refine rd1 (r:=0) (by kernel_rfl) rfl fun K hK=>?_;go_simp;clear x0 x1 x2 x3 x4 x5 x6 x7 x8 x9 x10 x11;refine hK _ _ hS ?_;clear hK K;intro _;refine rd1 (r:=3) (by kernel_rfl) rfl fun K hK=>?_;go_simp;have hei:=iI q q1 (J.pb.ok (by omega)) (gb.ok (by omega)) V1;unfold pv at hei;refine hei.mono ?_;rintro e V2 ⟨rfl,fu⟩;have K2:=K1.kept fu;clear hei;clear hS;have hS:=trivial;refine hK _ _ hS ?_;clear hK K;intro _;obtain⟨x0,x1,x2,x3,x4,x5,x6,x7,x8,x9,x10,x11⟩:=K2.out.al;obtain⟨xz0,xz1,xz2,xz3,xz4,xz5,xz6,xz7,xz8,xz9,xz10,xz11⟩:=K2.out.az;refine rd1 (r:=4) (by kernel_rfl) rfl fun K hK=>?_;go_simp;clear x0 x1 x2 x3 x4 x5 x6 x7 x8 x9 x10 x11 xz0 xz1 xz2 xz3 xz4 xz5 xz6 xz7 xz8 xz9 xz10 xz11;have K3:=K2.set (cK q q1);generalize World.setCell _ _ _=V3 at *;refine hK _ _ (trivial) ?_;clear hK K;intro _;refine wpAnyH_done (by kernel_rfl) ?_ _;go_wp2
   go_roundg m'
   case measure=>omega
   case rel=>exact⟨by omega,cK q q1,_,K3,Heq.out,gi2,(J.pb.mono ga2).either gb,.inr (by omega)⟩
  rw[if_neg hc] at hsk;have Heq:Hid ((q,s1)=X):=(aLw hc).symm.trans J.eq.out;clear hc;go_wp2_with fail;refine hsk.mono ?_;rintro e Wa ⟨rfl,ma,fa⟩;have K0:=J.wk.call ma (fa.mono (by simp));obtain⟨x0,x1,x2,x3,x4,x5,x6,x7,x8,x9,x10,x11⟩:=K0.out.al;obtain⟨y0,y1,y2,y3,y4,y5,y6,y7,y8,y9,y10,y11⟩:=K0.res.al;obtain⟨z0,z1,z2,z3,z4,z5,z6,z7,z8,z9,z10,z11⟩:=K0.res.az;go_wp2;have hlo:=K0.lo;have hfr:=dM Wa w.heap.size (.bool (q 0).e) (uA (q 0).f) (uA (q 0).l) (.bool (q 1).e) (uA (q 1).f) (uA (q 1).l) (.bool (q 2).e) (uA (q 2).f) (uA (q 2).l) (.bool (q 3).e) (uA (q 3).f) (uA (q 3).l);have hX:=Heq.out;refine bodyPost_ret (v:=pv q) (by simp[results,results58,go_sem,pv,y0,y1,y2,y3,y4,y5,y6,y7,y8,y9,y10,y11]) rfl ⟨by rw[← hX],?_,?_⟩
  ·rw[← hX];exact K0.m.fr hfr (by simp;omega) (by simp;omega) (by simp only[List.mem_cons,List.not_mem_nil,or_false];omega)
  exact K0.fr.trans' hfr (by simp)
theorem aNb:∀ n,vZ n∧X0 n∧zF n∧zG n:=by
 intro n;induction n using Nat.strongRecOn with
 | _ n ih=>
  cases n with
  | zero=>
   refine⟨?_,?_,?_,?_⟩
   ·intro w r pb t wh s _ _ _ h;omega
   ·intro w r pb t wh s _ _ _ h;omega
   ·intro w r pb t wh s _ _ _ _ h;omega
   intro w r pb t wh s _ _ _ _ h;omega
  | succ n=>
   exact⟨aRi n (fun m hm=>(ih m (by omega)).2.1),aMx n (fun m hm=>(ih m (by omega)).2.2.1),aJn n (ih n (by omega)).2.2.2,aLu n (ih n (by omega)).1⟩
def st0:St:=⟨0,false,0,fun _=>0,fun _ _=>0⟩
def eT (t:BA):Piece × St:=uD t 400 st0
def nE (t:BA):Bool:=!(eT t).2.fault && decide (t.size≤(eT t).2.pos)
theorem I7 (t:BA):Inv t st0:=⟨Nat.zero_le _,Nat.le_refl _,fun _=>Nat.one_pos,fun _ _=>Nat.one_pos⟩
def whF (q:Piece):Nat→Value:=fun i=>([.bool (q 0).e,.int .u64 (q 0).f,.int .u64 (q 0).l,.bool (q 1).e,.int .u64 (q 1).f,.int .u64 (q 1).l,.bool (q 2).e,.int .u64 (q 2).f,.int .u64 (q 2).l,.bool (q 3).e,.int .u64 (q 3).f,.int .u64 (q 3).l]:LV).getD i (.bool false)
def wh0:Nat→Value:=fun i=>([Value.bool false,Value.int .u64 0,Value.int .u64 0,Value.bool false,Value.int .u64 0,Value.int .u64 0,Value.bool false,Value.int .u64 0,Value.int .u64 0,Value.bool false,Value.int .u64 0,Value.int .u64 0]:LV).getD i (.bool false)
theorem aJd (t:BA)(w:WL)(h:50<t.size)(hs:t.size≤maxLen) :
  Calls prog 36 #[.string t] w fun e w'=>e=.returned (.tuple #[.pointer none,iA 0,iA 1])∧w'=w:=by
 unfold maxLen at hs;have g1:(50:Int)<t.size:=by omega
 go_enter func36,ntmps36;go_wp2;go_ret3;exact⟨rfl,rfl⟩
theorem aWa:zeroCells125=(([Value.bool false,uA 0,uA 0,Value.bool false,uA 0,uA 0,Value.bool false,uA 0,uA 0,Value.bool false,uA 0,uA 0]:LV)++List.replicate 456 (uA 0)).toArray:=by kernel_rfl
theorem bL.new (W:WL):bL (W.alloc (.cells zeroCells125 125)) W.heap.size wh0 (fun _=>0) (fun _ _=>0):=by
 have h:=wan W (.cells zeroCells125 125);rw[aWa] at h ⊢;have hc:∀ i,(W.alloc (.cells (([Value.bool false,uA 0,uA 0,Value.bool false,uA 0,uA 0,Value.bool false,uA 0,uA 0,Value.bool false,uA 0,uA 0]:LV)++List.replicate 456 (uA 0)).toArray 125)).cell? (Ad W.heap.size i)=(([Value.bool false,uA 0,uA 0,Value.bool false,uA 0,uA 0,Value.bool false,uA 0,uA 0,Value.bool false,uA 0,uA 0]:LV)++List.replicate 456 (uA 0))[i]?:=fun i=>by
  unfold World.cell?;rw[h];exact List.getElem?_toArray
 have hz:∀ i,12≤i→i<468→(([Value.bool false,uA 0,uA 0,Value.bool false,uA 0,uA 0,Value.bool false,uA 0,uA 0,Value.bool false,uA 0,uA 0]:LV)++List.replicate 456 (uA 0))[i]?=some (uA 0):=fun i h1 h2=>by
  rw[List.getElem?_append_right (by simpa using h1),List.getElem?_replicate,if_pos (by simp;omega)]
 refine⟨fun i hi=>?_,fun b hb=>?_,fun s a hs ha=>?_,fun i hi=>?_⟩
 ·rw[hc,List.getElem?_append_left (by simpa using hi)];unfold wh0;rw[List.getD_eq_getElem?_getD,Lge (by simpa using hi)];rfl
 ·rw[hc,hz _ (by omega) (by omega)];rfl
 ·rw[hc,hz _ (by omega) (by omega)];rfl
 unfold World.frozen?;rw[h];simp
theorem bL.setWhole {w:WL}{pb:Nat}{wh:Nat→Value}{tk:NN}{fo:Nat→NN} (h:bL w pb wh tk fo) (q:Piece):bL ((((((((((((w.setCell { block:=pb,off:=0 } (.bool (q 0).e)).setCell { block:=pb,off:=1 } (.int .u64 (q 0).f)).setCell { block:=pb,off:=2 } (.int .u64 (q 0).l)).setCell { block:=pb,off:=3 } (.bool (q 1).e)).setCell { block:=pb,off:=4 } (.int .u64 (q 1).f)).setCell { block:=pb,off:=5 } (.int .u64 (q 1).l)).setCell { block:=pb,off:=6 } (.bool (q 2).e)).setCell { block:=pb,off:=7 } (.int .u64 (q 2).f)).setCell { block:=pb,off:=8 } (.int .u64 (q 2).l)).setCell { block:=pb,off:=9 } (.bool (q 3).e)).setCell { block:=pb,off:=10 } (.int .u64 (q 3).f)).setCell { block:=pb,off:=11 } (.int .u64 (q 3).l)) pb (whF q) tk fo:=by
 have hr:∀ i,12≤i→((((((((((((w.setCell { block:=pb,off:=0 } (.bool (q 0).e)).setCell { block:=pb,off:=1 } (.int .u64 (q 0).f)).setCell { block:=pb,off:=2 } (.int .u64 (q 0).l)).setCell { block:=pb,off:=3 } (.bool (q 1).e)).setCell { block:=pb,off:=4 } (.int .u64 (q 1).f)).setCell { block:=pb,off:=5 } (.int .u64 (q 1).l)).setCell { block:=pb,off:=6 } (.bool (q 2).e)).setCell { block:=pb,off:=7 } (.int .u64 (q 2).f)).setCell { block:=pb,off:=8 } (.int .u64 (q 2).l)).setCell { block:=pb,off:=9 } (.bool (q 3).e)).setCell { block:=pb,off:=10 } (.int .u64 (q 3).f)).setCell { block:=pb,off:=11 } (.int .u64 (q 3).l)).cell? (Ad pb i)=w.cell? (Ad pb i):=fun i hi=>by
  rw[aA (by omega)];rw[aA (by omega)];rw[aA (by omega)];rw[aA (by omega)];rw[aA (by omega)];rw[aA (by omega)];rw[aA (by omega)];rw[aA (by omega)];rw[aA (by omega)];rw[aA (by omega)];rw[aA (by omega)];rw[aA (by omega)]
 refine⟨fun i hi=>?_,fun b hb=>(hr _ (by omega)).trans (h.ht b hb),fun s a hs ha=>(hr _ (by omega)).trans (h.hf s a hs ha),fun i hi=>(uT w pb (.bool (q 0).e) (uA (q 0).f) (uA (q 0).l) (.bool (q 1).e) (uA (q 1).f) (uA (q 1).l) (.bool (q 2).e) (uA (q 2).f) (uA (q 2).l) (.bool (q 3).e) (uA (q 3).f) (uA (q 3).l) _).trans (h.fz i hi)⟩;have hex:∀ j,j<12→(w.cell? (Ad pb j)).isSome=true:=fun j hj=>by rw[h.hw j hj];rfl
 obtain rfl | rfl | rfl | rfl | rfl | rfl | rfl | rfl | rfl | rfl | rfl | rfl:i=0∨i=1∨i=2∨i=3∨i=4∨i=5∨i=6∨i=7∨i=8∨i=9∨i=10∨i=11:=by omega
 all_goals
  repeat rw[aA (by decide)]
  rw[World.cell?_setCell_same' _ _ _ ?_]
  ·rfl
  ·repeat rw[aA (by decide)]
   exact hex _ (by decide)
def aEa (w:WL) (ok:Bool) (q:Piece) (s:St) (e:Ending) (w':WL):Prop:=Fr [] w w' ∧
 if ok=true then ∃ pb,w.heap.size≤pb∧e=.returned (.tuple #[.pointer (some ⟨pb,0,none⟩),.int .i64 0,.int .i64 0])∧bL w' pb (whF q) s.tk s.fo
 else e=.returned (.tuple #[.pointer none,.int .i64 s.pos,.int .i64 2])
theorem aAd (t:BA)(w:WL)(hs:t.size≤50)(hT:Tab w) :
  Calls prog 36 #[.string t] w (aEa w (nE t) (eT t).1 (eT t).2):=by
 have hm:=hmX
 have g1:¬ ((50:Int)<t.size):=by omega
 have hw0:=hT.lt;have hal:=fun (W:WL) (r pb:Nat) (hW:M W r pb t wh0 st0)=>(aNb 400).1 W r pb t wh0 st0 hW (I7 t) hs (by simp[st0];omega);unfold pW at hal;have gv:=(fD t 400).alt st0 (I7 t);have gpos:=gv.inv.pos;unfold nE;change ∀ (W:WL) (r pb:Nat),M W r pb t wh0 st0→Calls prog 58 _ W fun e w'=>e=Ending.returned (pv (eT t).1)∧M w' r pb t wh0 (eT t).2∧Fr [r,pb] W w' at hal;change (eT t).2.pos≤t.size at gpos;obtain⟨q,hq⟩:=eXi ((eT t).1);obtain⟨s1,hs1⟩:∃ q,(eT t).2=q:=⟨_,rfl⟩;simp only[hq,hs1] at hal gpos ⊢;clear hq hs1 gv;have Hal:Hid _:=hal;clear hal;have f0:Fr [] w ((w.alloc (Obj.cells zeroCells125 125)).alloc (Obj.cells #[Value.string t,iA 0,Value.bool false,iA 0,Value.pointer (some { block:=w.heap.size,off:=0 })] 127)):=((Fr.refl [] _).alloc _).alloc _;have m0:M ((w.alloc (Obj.cells zeroCells125 125)).alloc (Obj.cells #[Value.string t,iA 0,Value.bool false,iA 0,Value.pointer (some { block:=w.heap.size,off:=0 })] 127)) (w.heap.size+1) w.heap.size t wh0 st0:=by
  have hr:=bW (w.alloc (Obj.cells zeroCells125 125)) [Value.string t,iA 0,Value.bool false,iA 0,Value.pointer (some { block:=w.heap.size,off:=0 })] 127;have hz:=bT (w.alloc (Obj.cells zeroCells125 125)) [Value.string t,iA 0,Value.bool false,iA 0,Value.pointer (some { block:=w.heap.size,off:=0 })] 127;rw[World.size_alloc] at hr hz;exact⟨⟨hr 0,hr 1,hr 2,hr 3,hr 4,hz 1,hz 2,hz 3⟩,(bL.new w).fr ((Fr.refl [] _).alloc _) (by simp),hT.fr f0 (by simp),by omega,by omega,by omega⟩
 go_enter func36,ntmps36;go_wp2;generalize (w.alloc (Obj.cells zeroCells125 125)).alloc (Obj.cells #[Value.string t,iA 0,Value.bool false,iA 0,Value.pointer (some { block:=w.heap.size,off:=0 })] 127)=W0 at *;refine aI (fun w1=>w1.cell? (Ad (w.heap.size+1) 4)=some (.pointer (some (Ad w.heap.size 0)))) hm ?_;have hS:(fun w1:WL=>w1.cell? (Ad (w.heap.size+1) 4)=some (.pointer (some (Ad w.heap.size 0)))) W0.drew:=m0.rd.c4;refine aK (fun _ _ _ _ _ h=>h) hS [0,1] (by kernel_rfl) ?_
 iterate 2
  refine Yls.cons (v:=?_) rfl (.inl ⟨rfl,fun w1 hS1=>?_⟩) ?_;rotate_left
  ·have s4:w1.cell? (Ad (w.heap.size+1) 4)=some (.pointer (some (Ad w.heap.size 0))):=hS1;go_simp;rfl
  simp only[Act.put,Zp]
 refine Yls.nil ?_;refine rd1 (r:=2) (by kernel_rfl) rfl fun K hK=>?_;go_simp;refine (Hal.out _ _ _ (m0.heap (w':=W0.drew) rfl)).mono ?_;rintro e Wa ⟨rfl,ma,fa⟩;have fa:Fr [w.heap.size+1,w.heap.size] W0 Wa:=⟨fa.os,fa.tape,fa.output,fa.size,fa.block⟩;have Fa:Fr [] w Wa:=f0.trans' fa (by simp);unfold pv;clear hS;have hS:=ma.rd.c4;refine hK _ _ hS ?_;clear hK K;intro _;refine aK (fun _ _ _ _ _ h=>h) hS [3,4] (by kernel_rfl) ?_
 iterate 2
  refine Yls.cons (v:=?_) rfl (.inl ⟨rfl,fun w1 hS1=>?_⟩) ?_;rotate_left
  ·go_simp;rfl
  simp only[Act.put,Zp]
 refine Yls.nil ?_;have y0:Wa.cell? (Ad w.heap.size 0)=some (.bool false):=ma.pat.hw 0 (by decide);have z0:=ma.pat.fz 0 (by decide);have y1:Wa.cell? (Ad w.heap.size 1)=some (uA 0):=ma.pat.hw 1 (by decide);have z1:=ma.pat.fz 1 (by decide);have y2:Wa.cell? (Ad w.heap.size 2)=some (uA 0):=ma.pat.hw 2 (by decide);have z2:=ma.pat.fz 2 (by decide);have y3:Wa.cell? (Ad w.heap.size 3)=some (.bool false):=ma.pat.hw 3 (by decide);have z3:=ma.pat.fz 3 (by decide);have y4:Wa.cell? (Ad w.heap.size 4)=some (uA 0):=ma.pat.hw 4 (by decide);have z4:=ma.pat.fz 4 (by decide);have y5:Wa.cell? (Ad w.heap.size 5)=some (uA 0):=ma.pat.hw 5 (by decide);have z5:=ma.pat.fz 5 (by decide);have y6:Wa.cell? (Ad w.heap.size 6)=some (.bool false):=ma.pat.hw 6 (by decide);have z6:=ma.pat.fz 6 (by decide);have y7:Wa.cell? (Ad w.heap.size 7)=some (uA 0):=ma.pat.hw 7 (by decide);have z7:=ma.pat.fz 7 (by decide);have y8:Wa.cell? (Ad w.heap.size 8)=some (uA 0):=ma.pat.hw 8 (by decide);have z8:=ma.pat.fz 8 (by decide);have y9:Wa.cell? (Ad w.heap.size 9)=some (.bool false):=ma.pat.hw 9 (by decide);have z9:=ma.pat.fz 9 (by decide);have y10:Wa.cell? (Ad w.heap.size 10)=some (uA 0):=ma.pat.hw 10 (by decide);have z10:=ma.pat.fz 10 (by decide);have y11:Wa.cell? (Ad w.heap.size 11)=some (uA 0):=ma.pat.hw 11 (by decide);have z11:=ma.pat.fz 11 (by decide);refine rd1 (r:=5) (by kernel_rfl) rfl fun K hK=>?_;go_simp;clear y0 z0 y1 z1 y2 z2 y3 z3 y4 z4 y5 z5 y6 z6 y7 z7 y8 z8 y9 z9 y10 z10 y11 z11;have Pb:=ma.pat.setWhole q;have fb:=dM Wa w.heap.size (.bool (q 0).e) (uA (q 0).f) (uA (q 0).l) (.bool (q 1).e) (uA (q 1).f) (uA (q 1).l) (.bool (q 2).e) (uA (q 2).f) (uA (q 2).l) (.bool (q 3).e) (uA (q 3).f) (uA (q 3).l);have rb:=ma.rd.of_block (fb.block (w.heap.size+1) ma.rlt (by simp));have Fb:Fr [] w ((((((((((((Wa.setCell { block:=w.heap.size,off:=0 } (.bool (q 0).e)).setCell { block:=w.heap.size,off:=1 } (.int .u64 (q 0).f)).setCell { block:=w.heap.size,off:=2 } (.int .u64 (q 0).l)).setCell { block:=w.heap.size,off:=3 } (.bool (q 1).e)).setCell { block:=w.heap.size,off:=4 } (.int .u64 (q 1).f)).setCell { block:=w.heap.size,off:=5 } (.int .u64 (q 1).l)).setCell { block:=w.heap.size,off:=6 } (.bool (q 2).e)).setCell { block:=w.heap.size,off:=7 } (.int .u64 (q 2).f)).setCell { block:=w.heap.size,off:=8 } (.int .u64 (q 2).l)).setCell { block:=w.heap.size,off:=9 } (.bool (q 3).e)).setCell { block:=w.heap.size,off:=10 } (.int .u64 (q 3).f)).setCell { block:=w.heap.size,off:=11 } (.int .u64 (q 3).l)):=Fa.trans' fb (by simp);generalize World.setCell _ _ _=Wb at *;refine hK _ _ rb.c4 ?_;clear hK K hS;intro _;refine wpAnyH_done (by kernel_rfl) ?_ _;have c2:=rb.c2;have c1:=rb.c1;have c4:=rb.c4;have g2:(s1.pos:Int)≤50:=by omega
 cases hf:s1.fault
 ·rw[hf] at c2;by_cases hlt:s1.pos<t.size
  ·have g3:decide ((s1.pos:Int)<(t.size:Int))=true:=by simp;omega
   go_wp2;refine aY hm (by kernel_rfl) ?_
   repeat still_step
   refine wpStill_nil ?_;go_wp2;go_ret3;refine⟨Fb.drew,?_⟩;rw[if_neg (by rw[hf];simp;omega)];rfl
  have g3:decide ((s1.pos:Int)<(t.size:Int))=false:=by simp;omega
  go_wp2;go_ret3;refine⟨Fb,?_⟩;rw[if_pos (by rw[hf];simp;omega)];exact⟨w.heap.size,Nat.le_refl _,rfl,Pb⟩
 rw[hf] at c2;go_wp2;refine aY hm (by kernel_rfl) ?_
 repeat still_step
 refine wpStill_nil ?_;go_wp2;go_ret3;refine⟨Fb.drew,?_⟩;rw[if_neg (by rw[hf];simp)];rfl
theorem yQ {r r':Nat→Int}{l:LN} (h:∀ a,a ∈ l→r a=r' a) (least:Int):mB r least l=mB r' least l:=by
 unfold mB;induction l generalizing least with
 | nil=>rfl
 | cons a l ih=>simp only[List.foldl_cons];rw[h a (by simp)];exact ih (fun b hb=>h b (by simp[hb])) _
theorem yR {r:Nat→Int}{l:LN}{least hi:Int} (h0:least≤hi) (h:∀ a,a ∈ l→r a≤hi):mB r least l≤hi∧least≤mB r least l:=by
 unfold mB;induction l generalizing least with
 | nil=>exact⟨h0,Int.le_refl _⟩
 | cons a l ih=>
  simp only[List.foldl_cons];have:=ih (least:=max least (r a)) (by have:=h a (by simp);omega) (fun b hb=>h b (by simp[hb]));exact⟨this.1,by omega⟩
def jD (place length:Nat):Nat:=(if place=0 then 1 else 0)+(if place=length then 2 else 0)
theorem aMo (p l:Nat):jD p l<4:=by unfold jD;split <;> split <;> decide
def aVu (x:BA) (k:Nat):Nat:=if h:k<x.size then x[k].toNat else 0
def eM (q:Piece) (tk:NN) (fo:Nat→NN) (x:BA):Nat→Nat × (Nat→Int)
 | 0=>(0,fun _=>-1)
 | d+1=>(tk (aVu x (x.size-(d+1))),fun a=>
   mB (eM q tk fo x d).2 (if (q (jD (x.size-d) x.size)).l.testBit a=true then ((x.size-d:Nat):Int) else -1) (dN (fo (jD (x.size-d) x.size) a &&& (eM q tk fo x d).1)))
def yT (q:Piece) (tk:NN) (fo:Nat→NN) (x:BA) (d:Nat):Int:=
 mB (eM q tk fo x d).2 (if (q (jD (x.size-d) x.size)).e=true then ((x.size-d:Nat):Int) else -1) (dN ((q (jD (x.size-d) x.size)).f &&& (eM q tk fo x d).1))
def oI (q:Piece) (tk:NN) (fo:Nat→NN) (x:BA) (k:Nat):Int:=yT q tk fo x (x.size-k)
theorem aHi (q:Piece)(tk:NN)(fo:Nat→NN)(x:BA):∀ d a,(eM q tk fo x d).2 a≤x.size
 | 0,_=>by show (-1:Int)≤_;omega
 | d+1,a=>by
  simp only[eM]
  refine (yR ?_ (fun b _=>aHi q tk fo x d b)).1
  split <;> omega
theorem aQe (q:Piece)(tk:NN)(fo:Nat→NN)(x:BA)(d:Nat):yT q tk fo x d≤x.size∧-1≤yT q tk fo x d:=by
 have h:=yR (r:=(eM q tk fo x d).2) (l:=dN ((q (jD (x.size-d) x.size)).f &&& (eM q tk fo x d).1)) (least:=if (q (jD (x.size-d) x.size)).e=true then ((x.size-d:Nat):Int) else -1) (hi:=x.size) (by split <;> omega) (fun b _=>aHi q tk fo x d b)
 have h2:(-1:Int)≤if (q (jD (x.size-d) x.size)).e=true then ((x.size-d:Nat):Int) else -1:=by split <;> omega
 unfold yT;exact⟨h.1,by omega⟩
theorem aZj:(prog.info? 3).map (fun i=>(i.zero,i.size,i.bytes))=some (some (iA 0),1,8):=by kernel_rfl
theorem Y7 (p l:Nat):uH p l=(jD p l:Nat):=by
 unfold uH jD;by_cases h1:p=0
 ·by_cases h2:p=l
  ·rw[if_pos (by omega),if_pos (by omega),if_pos h1,if_pos h2];rfl
  rw[if_pos (by omega),if_neg (by omega),if_pos h1,if_neg h2];rfl
 by_cases h2:p=l
 ·rw[if_neg (by omega),if_pos (by omega),if_neg h1,if_pos h2];rfl
 rw[if_neg (by omega),if_neg (by omega),if_neg h1,if_neg h2];rfl
def aLz (q:Piece) (tk:NN) (fo:Nat→NN) (x:BA) (d:Nat) (W:WL) (b:Nat):Prop:=
 ∃ r,cN W b (eM q tk fo x d).1 r∧∀ a,(eM q tk fo x d).1.testBit a=true→r a=(eM q tk fo x d).2 a
def fH (W:WL) (b:Nat) (T:TypeId):Prop:=∃ c fz,W.heap[b]?=some (.cells c T fz)
theorem fH.of_block {W W':WL}{b:Nat}{T:TypeId} (h:fH W b T) (e:W'.heap[b]?=W.heap[b]?):fH W' b T:=let ⟨c,fz,hb⟩:=h;⟨c,fz,e.trans hb⟩
theorem fH.lt {W:WL}{b:Nat}{T:TypeId} (h:fH W b T):b<W.heap.size:=let ⟨_,_,hb⟩:=h;(Age.1 hb).1
theorem fH.fr {S:LN}{W W':WL}{b:Nat}{T:TypeId} (h:fH W b T) (hf:Fr S W W') (hb:b ∉ S):fH W' b T:=h.of_block (hf.block b h.lt hb)
theorem fH.set {W:WL}{b:Nat}{T:TypeId} (h:fH W b T) (a:Addr) (v:Value):fH (W.setCell a v) b T:=by
 obtain⟨c,fz,hb⟩:=h;unfold fH World.setCell;simp only[Array.getElem?_modify];by_cases e:a.block=b
 ·rw[if_pos e,hb];exact⟨_,_,rfl⟩
 rw[if_neg e,hb];exact⟨_,_,rfl⟩
structure pI (w:WL) (pb:Nat) (q:Piece) (tk:NN) (fo:Nat→NN) (x:BA) (d hb bb:Nat) (W:WL):Prop where
 pat:bL W pb (whF q) tk fo
 here:∃ l r,cN W hb l r
 back0:∃ l r,cN W bb l r
 back:∀ e,d=e+1→aLz q tk fo x e W bb
 ec:∀ j,j≤x.size→W.cell? ⟨w.heap.size,j,none⟩=some (.int .i64 (if x.size<j+d then oI q tk fo x j else 0))
 ez:∀ j,j≤x.size→W.frozen? ⟨w.heap.size,j,none⟩=false
 tab:Tab W
 fr:Fr [] w W
 nb:hb≠bb
 h1:hb=w.heap.size+1∨hb=w.heap.size+1+1
 h2:bb=w.heap.size+1∨bb=w.heap.size+1+1
 pl:pb<w.heap.size
 tg:fH W w.heap.size 3
 h6:1<w.heap.size
structure kZ (w:WL) (pb:Nat) (q:Piece) (tk:NN) (fo:Nat→NN) (x:BA) (d hb bb:Nat) (W:WL):Prop where
 pat:bL W pb (whF q) tk fo
 here:aLz q tk fo x d W hb
 back:∃ l r,cN W bb l r
 ec:∀ j,j≤x.size→W.cell? ⟨w.heap.size,j,none⟩=some (.int .i64 (if x.size<j+d then oI q tk fo x j else 0))
 ez:∀ j,j≤x.size→W.frozen? ⟨w.heap.size,j,none⟩=false
 tab:Tab W
 fr:Fr [] w W
 nb:hb≠bb
 h1:hb=w.heap.size+1∨hb=w.heap.size+1+1
 h2:bb=w.heap.size+1∨bb=w.heap.size+1+1
 pl:pb<w.heap.size
 tg:fH W w.heap.size 3
 h6:1<w.heap.size
section
variable {w:WL}{pb:Nat}{q:Piece}{tk:NN}{fo:Nat→NN}{x:BA}{d hb bb:Nat}{W W':WL}
theorem aLz.fr {S:LN}{b:Nat} (h:aLz q tk fo x d W b) (hf:Fr S W W') (hb:b ∉ S):aLz q tk fo x d W' b:=let ⟨r,h1,h2⟩:=h;⟨r,h1.fr hf hb,h2⟩
theorem pI.filled (h:pI w pb q tk fo x d hb bb W)(hr:aLz q tk fo x d W' hb)(hf:Fr [hb] W W')(hez:w.heap.size<W.heap.size):kZ w pb q tk fo x d hb bb W':=by
 have e1:=h.h1;have e2:=h.h2;have e3:=h.pl;have e6:=h.h6;have e4:=h.nb;obtain⟨l,r,hb0⟩:=h.back0;exact⟨h.pat.fr hf (by simp;omega),hr,⟨l,r,hb0.fr hf (by simpa using fun e=>e4 e.symm)⟩,fun j hj=>(hf.cell (p:=Ad w.heap.size j) hez (by simp;omega)).trans (h.ec j hj),
  fun j hj=>(hf.frozen (p:=Ad w.heap.size j) hez (by simp;omega)).trans (h.ez j hj),h.tab.fr hf (by simp;omega),h.fr.trans' hf (by simp;omega),h.nb,h.h1,h.h2,h.pl,h.tg.fr hf (by simp;omega),h.h6⟩
theorem kZ.kept (h:kZ w pb q tk fo x d hb bb W)(hf:Fr [] W W')(hez:w.heap.size<W.heap.size):kZ w pb q tk fo x d hb bb W':=by
 obtain⟨l,r,hb0⟩:=h.back;exact⟨h.pat.fr hf (by simp),h.here.fr hf (by simp),⟨l,r,hb0.fr hf (by simp)⟩,fun j hj=>(hf.cell (p:=Ad w.heap.size j) hez (by simp)).trans (h.ec j hj),
  fun j hj=>(hf.frozen (p:=Ad w.heap.size j) hez (by simp)).trans (h.ez j hj),h.tab.fr hf (by simp),h.fr.trans (hf.mono (by simp)),h.nb,h.h1,h.h2,h.pl,h.tg.fr hf (by simp),h.h6⟩
theorem kZ.elt (h:kZ w pb q tk fo x d hb bb W):w.heap.size<W.heap.size:=aB (a:=Ad w.heap.size 0) (h.ec 0 (Nat.zero_le _))
theorem pI.elt (h:pI w pb q tk fo x d hb bb W):w.heap.size<W.heap.size:=aB (a:=Ad w.heap.size 0) (h.ec 0 (Nat.zero_le _))
theorem kZ.next (h:kZ w pb q tk fo x d hb bb W)(k:Nat)(hk:k+d=x.size):pI w pb q tk fo x (d+1) bb hb (W.setCell ⟨w.heap.size,k,none⟩ (.int .i64 (yT q tk fo x d))):=by
 have e1:=h.h1;have e2:=h.h2;have e3:=h.pl;have e6:=h.h6;obtain⟨l,r,hb0⟩:=h.back;have hf:Fr [w.heap.size] W (W.setCell ⟨w.heap.size,k,none⟩ (.int .i64 (yT q tk fo x d))):=(Fr.refl _ W).setCell (p:=⟨w.heap.size,k,none⟩) (.inl (by simp)) _;have h0:=h.tab.lt;refine⟨h.pat.fr hf (by simp;omega),⟨l,r,hb0.fr hf (by simp;omega)⟩,?_,fun e he=>?_,fun j hj=>?_,fun j hj=>(wfz _ _ _ _).trans (h.ez j hj),h.tab.fr hf (by simp;omega),h.fr.trans' hf (by simp),fun e=>h.nb e.symm,h.h2,h.h1,h.pl,h.tg.set _ _,h.h6⟩
 ·obtain⟨r',hr',_⟩:=h.here;exact⟨_,r',hr'.fr hf (by simp;omega)⟩
 ·obtain rfl:e=d:=by omega
  exact h.here.fr hf (by simp;omega)
 by_cases e:j=k
 ·subst e;rw[if_pos (by omega)];have:oI q tk fo x j=yT q tk fo x d:=by unfold oI;rw[show x.size-j=d by omega]
  rw[this];exact World.cell?_setCell_same' _ _ _ (by rw[h.ec j hj];rfl)
 rw[aA (fun e'=>e e'.symm),h.ec j hj];by_cases c:x.size<j+d
 ·rw[if_pos c,if_pos (by omega)]
 rw[if_neg c,if_neg (by omega)]
end
theorem aYl (q:Piece)(s:Nat)(hs:s<4):whF q (3*s+2)=uA (q s).l:=by
 obtain rfl | rfl | rfl | rfl:s=0∨s=1∨s=2∨s=3:=by omega
 all_goals rfl
theorem aYn (q:Piece)(s:Nat)(hs:s<4):whF q (s*3)=.bool (q s).e:=by
 obtain rfl | rfl | rfl | rfl:s=0∨s=1∨s=2∨s=3:=by omega
 all_goals rfl
theorem aYm (q:Piece)(s:Nat)(hs:s<4):whF q (s*3+1)=uA (q s).f:=by
 obtain rfl | rfl | rfl | rfl:s=0∨s=1∨s=2∨s=3:=by omega
 all_goals rfl
theorem aWc (q:Piece)(s:Nat)(hs:s<4):whF q (s*3+2)=uA (q s).l:=by
 obtain rfl | rfl | rfl | rfl:s=0∨s=1∨s=2∨s=3:=by omega
 all_goals rfl
theorem aLb {w:WL}{pb:Nat}{q:Piece}{tk:NN}{fo:Nat→NN}{x:BA}{hb bb:Nat}{W:WL} (h:pI w pb q tk fo x 0 hb bb W) :
  Calls prog 181 #[.pointer (some (Ad pb 0)),.pointer (some (Ad hb 0)),.string x,iA x.size,.pointer (some (Ad bb 0))] W fun e W'=>e=.returned (.tuple #[])∧kZ w pb q tk fo x 0 hb bb W':=by
 obtain⟨l,r,hr⟩:=h.here;refine (aPy pb hb bb x W l r hr).mono ?_;rintro e W' ⟨rfl,hr',hf⟩;exact⟨rfl,h.filled ⟨r,hr',fun a ha=>by simp[eM] at ha⟩ hf h.elt⟩
theorem aQa {w:WL}{pb:Nat}{q:Piece}{tk:NN}{fo:Nat→NN}{x:BA}{hb bb:Nat}{W:WL} (d k:Nat) (h:pI w pb q tk fo x (d+1) hb bb W) (hk:k+(d+1)=x.size) (hx:x.size≤100)
  (lq:PB 50 q) (ltk:∀ b,tk b<1125899906842624) (lfo:∀ s a,fo s a<18446744073709551616) :
  Calls prog 181 #[.pointer (some (Ad pb 0)),.pointer (some (Ad hb 0)),.string x,iA k,.pointer (some (Ad bb 0))] W fun e W'=>e=.returned (.tuple #[])∧kZ w pb q tk fo x (d+1) hb bb W':=by
 have e1:=h.h1;have e2:=h.h2;have e3:=h.pl;have e6:=h.h6;obtain⟨l,r,hr⟩:=h.here;obtain⟨rb,hrb,hag⟩:=h.back d rfl;have hlb:(eM q tk fo x d).1<1125899906842624:=by
  cases d with
  | zero=>simp[eM]
  | succ d=>exact ltk _
 have H:aIh W pb hb bb (whF q) (fun s=>(q s).l) tk fo l r (eM q tk fo x d).1 rb:=
  ⟨h.pat,fun s hs=>aYl q s hs,fun s=>Nll (lq s).2 (by decide),ltk,lfo,hr,hrb,hlb,h.tab,h.nb,by omega,by omega,by omega⟩
 refine (aUu pb hb bb k x W (whF q) (fun s=>(q s).l) tk fo l r (eM q tk fo x d).1 rb H (by omega) (by omega)).mono ?_;rintro e W' ⟨rfl,hr',hf⟩;refine⟨rfl,h.filled ?_ hf h.elt⟩;have hkl:k<x.size:=by omega
 have hbk:(eM q tk fo x (d+1)).1=tk x[k].toNat:=by
  simp only[eM];unfold aVu;rw[show x.size-(d+1)=k by omega,dif_pos hkl]
 have hsp:(uH ((k:Int)+1) x.size).toNat=jD (x.size-d) x.size:=by
  have:((k:Int)+1)=((x.size-d:Nat):Int):=by omega
  rw[this,Y7];rfl
 refine⟨_,by rw[hbk];exact hr',fun a ha=>?_⟩;rw[hbk] at ha;simp only[aPz,ha,if_true,eM];rw[hsp,show ((k:Int)+1)=((x.size-d:Nat):Int) by omega];refine yQ (fun b hb'=>?_) _;refine hag b ?_;have:=(gE.1 hb').2;rw[Nat.testBit_and,Bool.and_eq_true] at this;exact this.2
theorem bBt {w:WL}{pb:Nat}{q:Piece}{tk:NN}{fo:Nat→NN}{x:BA}{d hb bb:Nat}{W:WL} (h:kZ w pb q tk fo x d hb bb W) (least:Int) (lq:PB 50 q) (ltk:∀ b,tk b<1125899906842624)
  (hl:least=if (q (jD (x.size-d) x.size)).e=true then ((x.size-d:Nat):Int) else -1) :
  Calls prog 183 #[.pointer (some (Ad hb 0)),uA (q (jD (x.size-d) x.size)).f,iA least] W fun e W'=>e=.returned (iA (yT q tk fo x d))∧kZ w pb q tk fo x d hb bb W':=by
 obtain⟨r,hr,hag⟩:=h.here;have hlb:(eM q tk fo x d).1<1125899906842624:=by
  cases d with
  | zero=>simp[eM]
  | succ d=>exact ltk _
 refine (sR hb (eM q tk fo x d).1 (q (jD (x.size-d) x.size)).f r least hlb (Nll (lq _).1 (by decide)) W hr h.tab).mono ?_;rintro e W' ⟨rfl,hf⟩;refine⟨?_,h.kept hf h.elt⟩;unfold yT;rw[hl];congr 2;refine yQ (fun b hb'=>hag b ?_) _;have:=(gE.1 hb').2;rw[Nat.testBit_and,Bool.and_eq_true] at this;exact this.2
end Go.Proofs.YtlokkgajpjafmaaGreatDoor
