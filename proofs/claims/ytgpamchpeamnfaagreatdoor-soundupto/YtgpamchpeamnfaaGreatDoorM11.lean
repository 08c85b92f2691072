/-
  Texts Wr Ws Wt.
-/
import Derived.Test.YtgpamchpeamnfaaGreatDoorMA
import Derived.Test.YtgpamchpeamnfaaGreatDoorM10
import Derived.Test.YtgpamchpeamnfaaGreatDoorM00
set_option linter.unusedSimpArgs false
set_option linter.unusedVariables false
set_option maxRecDepth 100000
set_option maxHeartbeats 40000000
open _root_.Go.Proofs.Tryz
namespace Go.Proofs.YtgpamchpeamnfaaGreatDoor
open Go.RowKit
theorem aTr (W:World)(b:Nat)(a0 a1 a2 a3 a4 a5 a6 a7 a8 a9 a10 a11 v0 v1 v2 v3 v4 v5 v6 v7 v8 v9 v10 v11:Value)(h:kJ W b [a0,a1,a2,a3,a4,a5,a6,a7,a8,a9,a10,a11]):kJ ((((((((((((W.setCell { block:=b,off:=0 } (v0)).setCell { block:=b,off:=1 } (v1)).setCell { block:=b,off:=2 } (v2)).setCell { block:=b,off:=3 } (v3)).setCell { block:=b,off:=4 } (v4)).setCell { block:=b,off:=5 } (v5)).setCell { block:=b,off:=6 } (v6)).setCell { block:=b,off:=7 } (v7)).setCell { block:=b,off:=8 } (v8)).setCell { block:=b,off:=9 } (v9)).setCell { block:=b,off:=10 } (v10)).setCell { block:=b,off:=11 } (v11)) b [v0,v1,v2,v3,v4,v5,v6,v7,v8,v9,v10,v11]:=
 ((((((((((((h.set 0 (by simp) v0).set 1 (by simp) v1).set 2 (by simp) v2).set 3 (by simp) v3).set 4 (by simp) v4).set 5 (by simp) v5).set 6 (by simp) v6).set 7 (by simp) v7).set 8 (by simp) v8).set 9 (by simp) v9).set 10 (by simp) v10).set 11 (by simp) v11)
theorem i8 (W:World)(b:Nat)(v0 v1 v2 v3 v4 v5 v6 v7 v8 v9 v10 v11:Value)(a:Addr):((((((((((((W.setCell { block:=b,off:=0 } (v0)).setCell { block:=b,off:=1 } (v1)).setCell { block:=b,off:=2 } (v2)).setCell { block:=b,off:=3 } (v3)).setCell { block:=b,off:=4 } (v4)).setCell { block:=b,off:=5 } (v5)).setCell { block:=b,off:=6 } (v6)).setCell { block:=b,off:=7 } (v7)).setCell { block:=b,off:=8 } (v8)).setCell { block:=b,off:=9 } (v9)).setCell { block:=b,off:=10 } (v10)).setCell { block:=b,off:=11 } (v11)).frozen? a=W.frozen? a:=by
 simp only[wfz]
structure Out (b:Nat) (q:Piece) (W:World):Prop where
 rr:kJ W b [.bool (q 0).e,.int .u64 (q 0).f,.int .u64 (q 0).l,.bool (q 1).e,.int .u64 (q 1).f,.int .u64 (q 1).l,.bool (q 2).e,.int .u64 (q 2).f,.int .u64 (q 2).l,.bool (q 3).e,.int .u64 (q 3).f,.int .u64 (q 3).l]
 zr:∀ i,W.frozen? ⟨b,i,none⟩=false
theorem Out.lt {b:Nat}{q:Piece}{W:World} (h:Out b q W):b<W.heap.size:=aC (a:=⟨b,0,none⟩) (h.rr 0)
theorem Out.al {b:Nat}{q:Piece}{W:World}(h:Out b q W):W.cell? ⟨b,0,none⟩=some (.bool (q 0).e)∧W.cell? ⟨b,1,none⟩=some (.int .u64 (q 0).f)∧W.cell? ⟨b,2,none⟩=some (.int .u64 (q 0).l)∧W.cell? ⟨b,3,none⟩=some (.bool (q 1).e)∧W.cell? ⟨b,4,none⟩=some (.int .u64 (q 1).f)∧W.cell? ⟨b,5,none⟩=some (.int .u64 (q 1).l)∧W.cell? ⟨b,6,none⟩=some (.bool (q 2).e)∧W.cell? ⟨b,7,none⟩=some (.int .u64 (q 2).f)∧W.cell? ⟨b,8,none⟩=some (.int .u64 (q 2).l)∧W.cell? ⟨b,9,none⟩=some (.bool (q 3).e)∧W.cell? ⟨b,10,none⟩=some (.int .u64 (q 3).f)∧W.cell? ⟨b,11,none⟩=some (.int .u64 (q 3).l):=⟨h.rr 0,h.rr 1,h.rr 2,h.rr 3,h.rr 4,h.rr 5,h.rr 6,h.rr 7,h.rr 8,h.rr 9,h.rr 10,h.rr 11⟩
theorem Out.az {b:Nat}{q:Piece}{W:World}(h:Out b q W):W.frozen? ⟨b,0,none⟩=false∧W.frozen? ⟨b,1,none⟩=false∧W.frozen? ⟨b,2,none⟩=false∧W.frozen? ⟨b,3,none⟩=false∧W.frozen? ⟨b,4,none⟩=false∧W.frozen? ⟨b,5,none⟩=false∧W.frozen? ⟨b,6,none⟩=false∧W.frozen? ⟨b,7,none⟩=false∧W.frozen? ⟨b,8,none⟩=false∧W.frozen? ⟨b,9,none⟩=false∧W.frozen? ⟨b,10,none⟩=false∧W.frozen? ⟨b,11,none⟩=false:=⟨h.zr 0,h.zr 1,h.zr 2,h.zr 3,h.zr 4,h.zr 5,h.zr 6,h.zr 7,h.zr 8,h.zr 9,h.zr 10,h.zr 11⟩
theorem Out.fr {S:List Nat}{b:Nat}{q:Piece}{W W':World} (h:Out b q W) (hf:Fr S W W') (hb:b ∉ S):Out b q W':=⟨h.rr.fr hf hb h.lt,fun i=>(hf.frozen (p:=⟨b,i,none⟩) h.lt hb).trans (h.zr i)⟩
theorem Out.heap {b:Nat}{q:Piece}{W W':World} (h:Out b q W) (hh:W'.heap=W.heap):Out b q W':=
 ⟨fun i=>(World.cell?_of_block (w:=W) (a:=⟨b,i,none⟩) (by rw[hh])).trans (h.rr i),fun i=>(World.frozen?_of_block (w:=W) (a:=⟨b,i,none⟩) (by rw[hh])).trans (h.zr i)⟩
theorem Out.new (W:World)(q:Piece):Out W.heap.size q (W.alloc (Obj.cells #[.bool (q 0).e,.int .u64 (q 0).f,.int .u64 (q 0).l,.bool (q 1).e,.int .u64 (q 1).f,.int .u64 (q 1).l,.bool (q 2).e,.int .u64 (q 2).f,.int .u64 (q 2).l,.bool (q 3).e,.int .u64 (q 3).f,.int .u64 (q 3).l] 217)):=⟨eQ W _ 217,dL W _ 217⟩
theorem Out.set {b:Nat}{q:Piece}{W:World} (h:Out b q W) (p:Piece):Out b p ((((((((((((W.setCell { block:=b,off:=0 } (.bool (p 0).e)).setCell { block:=b,off:=1 } (.int .u64 (p 0).f)).setCell { block:=b,off:=2 } (.int .u64 (p 0).l)).setCell { block:=b,off:=3 } (.bool (p 1).e)).setCell { block:=b,off:=4 } (.int .u64 (p 1).f)).setCell { block:=b,off:=5 } (.int .u64 (p 1).l)).setCell { block:=b,off:=6 } (.bool (p 2).e)).setCell { block:=b,off:=7 } (.int .u64 (p 2).f)).setCell { block:=b,off:=8 } (.int .u64 (p 2).l)).setCell { block:=b,off:=9 } (.bool (p 3).e)).setCell { block:=b,off:=10 } (.int .u64 (p 3).f)).setCell { block:=b,off:=11 } (.int .u64 (p 3).l)):=
 ⟨aTr W b _ _ _ _ _ _ _ _ _ _ _ _ (.bool (p 0).e) (.int .u64 (p 0).f) (.int .u64 (p 0).l) (.bool (p 1).e) (.int .u64 (p 1).f) (.int .u64 (p 1).l) (.bool (p 2).e) (.int .u64 (p 2).f) (.int .u64 (p 2).l) (.bool (p 3).e) (.int .u64 (p 3).f) (.int .u64 (p 3).l) h.rr,fun i=>(i8 W b (.bool (p 0).e) (.int .u64 (p 0).f) (.int .u64 (p 0).l) (.bool (p 1).e) (.int .u64 (p 1).f) (.int .u64 (p 1).l) (.bool (p 2).e) (.int .u64 (p 2).f) (.int .u64 (p 2).l) (.bool (p 3).e) (.int .u64 (p 3).f) (.int .u64 (p 3).l) _).trans (h.zr i)⟩
theorem Res.heap {b:Nat}{W W':World} (h:Res b W) (hh:W'.heap=W.heap):Res b W':=
 ⟨fun i=>(World.cell?_of_block (w:=W) (a:=⟨b,i,none⟩) (by rw[hh])).trans (h.rr i),fun i=>(World.frozen?_of_block (w:=W) (a:=⟨b,i,none⟩) (by rw[hh])).trans (h.zr i)⟩
theorem Fr.heap {S:List Nat}{a w w':World} (h:Fr S a w) (hh:w'.heap=w.heap) (ho:w'.os=w.os) (ht:w'.tape=w.tape) (hu:w'.output=w.output):Fr S a w':=
 ⟨ho.trans h.os,ht.trans h.tape,hu.trans h.output,by rw[hh];exact h.size,by rw[hh];exact h.block⟩
structure lH (w:World) (r pb:Nat) (t:ByteArray) (wh:Nat→Value) (ob:Nat) (q:Piece) (s:St) (W:World):Prop where
 m:M W r pb t wh s
 out:Out ob q W
 res:Res w.heap.size W
 fr:Fr [r,pb] w W
 lo:w.heap.size<ob
 rl:r<w.heap.size
 pl:pb<w.heap.size
 h6:5<w.heap.size
theorem lH.heap {w:World}{r pb:Nat}{t:ByteArray}{wh:Nat→Value}{ob:Nat}{q:Piece}{s:St}{W W':World} (h:lH w r pb t wh ob q s W) (hh:W'.heap=W.heap) (ho:W'.os=W.os) (ht:W'.tape=W.tape) (hu:W'.output=W.output):lH w r pb t wh ob q s W':=
 ⟨h.m.heap hh,h.out.heap hh,h.res.heap hh,h.fr.heap hh ho ht hu,h.lo,h.rl,h.pl,h.h6⟩
theorem lH.kept {w:World}{r pb:Nat}{t:ByteArray}{wh:Nat→Value}{ob:Nat}{q:Piece}{s:St}{W W':World} (h:lH w r pb t wh ob q s W) (hf:Fr [] W W'):lH w r pb t wh ob q s W':=
 ⟨h.m.fr hf (by simp) (by simp) (by simp),h.out.fr hf (by simp),h.res.fr hf (by simp),h.fr.trans (hf.mono (by simp)),h.lo,h.rl,h.pl,h.h6⟩
theorem lH.call {w:World}{r pb:Nat}{t:ByteArray}{wh:Nat→Value}{ob:Nat}{q:Piece}{s s':St}{W W':World} (h:lH w r pb t wh ob q s W) (hm:M W' r pb t wh s') (hf:Fr [r,pb] W W'):lH w r pb t wh ob q s' W':=
 have h1:=h.lo
 have h2:=h.rl
 have h3:=h.pl
 ⟨hm,h.out.fr hf (by simp;omega),h.res.fr hf (by simp;omega),h.fr.trans hf,h.lo,h.rl,h.pl,h.h6⟩
theorem lH.set {w:World}{r pb:Nat}{t:ByteArray}{wh:Nat→Value}{ob:Nat}{q:Piece}{s:St}{W:World} (h:lH w r pb t wh ob q s W) (p:Piece):lH w r pb t wh ob p s ((((((((((((W.setCell { block:=ob,off:=0 } (.bool (p 0).e)).setCell { block:=ob,off:=1 } (.int .u64 (p 0).f)).setCell { block:=ob,off:=2 } (.int .u64 (p 0).l)).setCell { block:=ob,off:=3 } (.bool (p 1).e)).setCell { block:=ob,off:=4 } (.int .u64 (p 1).f)).setCell { block:=ob,off:=5 } (.int .u64 (p 1).l)).setCell { block:=ob,off:=6 } (.bool (p 2).e)).setCell { block:=ob,off:=7 } (.int .u64 (p 2).f)).setCell { block:=ob,off:=8 } (.int .u64 (p 2).l)).setCell { block:=ob,off:=9 } (.bool (p 3).e)).setCell { block:=ob,off:=10 } (.int .u64 (p 3).f)).setCell { block:=ob,off:=11 } (.int .u64 (p 3).l)):=by
 have h1:=h.lo
 have h2:=h.rl
 have h3:=h.pl
 have h4:=h.h6
 have hf:=fJ W ob (.bool (p 0).e) (.int .u64 (p 0).f) (.int .u64 (p 0).l) (.bool (p 1).e) (.int .u64 (p 1).f) (.int .u64 (p 1).l) (.bool (p 2).e) (.int .u64 (p 2).f) (.int .u64 (p 2).l) (.bool (p 3).e) (.int .u64 (p 3).f) (.int .u64 (p 3).l)
 exact⟨h.m.fr hf (by simp;omega) (by simp;omega) (by simp;omega),h.out.set p,h.res.fr hf (by simp;omega),h.fr.trans' hf (by simp;omega),h.lo,h.rl,h.pl,h.h6⟩
theorem lH.adv {w:World}{r pb:Nat}{t:ByteArray}{wh:Nat→Value}{ob:Nat}{q:Piece}{s:St}{W:World} (h:lH w r pb t wh ob q s W):lH w r pb t wh ob q (aS s) (W.setCell ⟨r,1,none⟩ (.int .i64 ((s.pos:Int)+1))):=
 h.call h.m.adv ((Fr.refl [r,pb] W).setCell (p:=⟨r,1,none⟩) (.inl (by simp)) _)
theorem lH.tie {w:World}{r pb:Nat}{t:ByteArray}{wh:Nat→Value}{ob:Nat}{q:Piece}{s:St}{W W':World}{fo:Nat→Nat→Nat} (h:lH w r pb t wh ob q s W) (hP:dS W' pb wh s.tk fo) (hf:Fr [pb] W W'):lH w r pb t wh ob q { s with fo:=fo } W':=
 h.call ⟨h.m.rd.of_block (hf.block r h.m.rlt (by simpa using h.m.n1)),hP,h.m.tab.fr hf (by simpa using fun e=>h.m.n3 e.symm),h.m.n1,h.m.n2,h.m.n3⟩ (hf.mono (by simp))
structure bGd (w:World) (r pb:Nat) (t:ByteArray) (wh:Nat→Value) (ob:Nat) (X:Piece × St) (m:Nat) (q:Piece) (s1:St) (W:World):Prop where
 wk:lH w r pb t wh ob q s1 W
 eq:Hid (gP t m q s1=X)
 inv:Inv t s1
 pb:PB s1.atoms q
 fuel:6*(t.size-s1.pos)+1≤m
theorem aPr (n:Nat)(hA:X8 n):X7 (n+1):=by
 intro w r pb t wh s h hi hs hp hn
 have t6:=h.tab.lt
 have hm:prog.follows Departure.mixedOrders=true:=by kernel_rfl
 have hrl:=h.rlt
 have hpl:=h.pat.lt
 rw[jK]
 have gv:=(eY t n).atom s hi hp
 have hat:=fun (W:World) (hW:M W r pb t wh s)=>hA W r pb t wh s hW hi hs hp (by omega)
 unfold uW at hat ⊢
 obtain⟨q0,hq0⟩:∃ q,(lG t n s).1=q:=⟨_,rfl⟩
 obtain⟨s0,hs0⟩:∃ q,(lG t n s).2=q:=⟨_,rfl⟩
 have gi:=gv.inv
 have gp:=gv.pb
 have gl:=gv.le
 simp only[hq0,hs0] at hat gi gp gl ⊢
 clear hq0 hs0 gv
 obtain⟨X,hX⟩:=eX (gP t n q0 s0)
 rw[hX]
 have HX:Hid (gP t n q0 s0=X):=hX
 have Hat:=(show Hid _ from hat)
 clear hX hat
 have f0:Fr [] w (w.alloc (Obj.cells #[.bool false,.int .u64 0,.int .u64 0,.bool false,.int .u64 0,.int .u64 0,.bool false,.int .u64 0,.int .u64 0,.bool false,.int .u64 0,.int .u64 0] 217)):=(Fr.refl [] _).alloc _
 have m0:=h.fr f0 (by simp) (by simp) (by simp)
 have R0:=Res.new w
 go_enter func186,ntmps186
 go_wp2_with fail
 refine (Hat.out _ m0).mono ?_
 rintro e w1 ⟨rfl,m1,f1⟩
 have R1:=R0.fr f1 (by simp;omega)
 have F1:Fr [r,pb] w w1:=(f0.mono (by simp)).trans f1
 have f2:Fr [] w1 (w1.alloc (Obj.cells #[.bool (q0 0).e,.int .u64 (q0 0).f,.int .u64 (q0 0).l,.bool (q0 1).e,.int .u64 (q0 1).f,.int .u64 (q0 1).l,.bool (q0 2).e,.int .u64 (q0 2).f,.int .u64 (q0 2).l,.bool (q0 3).e,.int .u64 (q0 3).f,.int .u64 (q0 3).l] 217)):=(Fr.refl [] _).alloc _
 have K0:lH w r pb t wh w1.heap.size q0 s0 (w1.alloc (Obj.cells #[.bool (q0 0).e,.int .u64 (q0 0).f,.int .u64 (q0 0).l,.bool (q0 1).e,.int .u64 (q0 1).f,.int .u64 (q0 1).l,.bool (q0 2).e,.int .u64 (q0 2).f,.int .u64 (q0 2).l,.bool (q0 3).e,.int .u64 (q0 3).f,.int .u64 (q0 3).l] 217)):=
  ⟨m1.fr f2 (by simp) (by simp) (by simp),Out.new w1 q0,R1.fr f2 (by simp),F1.trans (f2.mono (by simp)),R1.lt,hrl,hpl,t6⟩
 clear m0 R0 f0 m1 R1 F1 f1 f2
 unfold pv
 go_wp2
 generalize w1.heap.size=ob at *
 generalize w1.alloc (Obj.cells #[.bool (q0 0).e,.int .u64 (q0 0).f,.int .u64 (q0 0).l,.bool (q0 1).e,.int .u64 (q0 1).f,.int .u64 (q0 1).l,.bool (q0 2).e,.int .u64 (q0 2).f,.int .u64 (q0 2).l,.bool (q0 3).e,.int .u64 (q0 3).f,.int .u64 (q0 3).l] 217)=W2 at *
 go_loopg [6] n (fun m _ wr=>∃ q s1,bGd w r pb t wh ob X m q s1 wr)
 case atStart=>exact⟨q0,s0,K0,HX,gi,gp,by omega⟩
 case round=>
  obtain⟨q,s1,J⟩:=hrel
  clear K0 HX Hat
  have heq:=J.eq.out
  have hfu:=J.fuel
  obtain⟨m',rfl⟩:∃ m',gk=m'+1:=⟨gk-1,by omega⟩
  rw[iE] at heq
  have hpk:=dW J.wk.m hs
  have hpos:=J.inv.pos
  have hat:=J.inv.at_
  by_cases c42:aB t s1=42
  ·rw[if_pos c42] at heq
   have hp1:=(cA (t:=t) (s:=s1) (by rw[c42];decide)).2
   have Heq:Hid _:=heq
   have H42:Hid _:=c42
   have e42:(aB t s1==42)=true:=by simp[c42]
   clear heq c42
   go_wp2_with fail
   refine hpk.mono ?_
   rintro e w5 ⟨rfl,n5,rfl⟩
   have K0:lH w r pb t wh ob q s1 (wr.drewN n5):=J.wk.heap rfl rfl rfl rfl
   generalize wr.drewN n5=Wa at *
   have c4:=K0.m.rd.c4
   obtain⟨x0,x1,x2,x3,x4,x5,x6,x7,x8,x9,x10,x11⟩:=K0.out.al
   go_wp2
   refine aR 5 hm (by kernel_rfl) ?_
   simp only[List.take_succ_cons,List.take_zero,List.drop_succ_cons,List.drop_zero]
   repeat still_step
   refine wpStill_nil ?_
   go_wp2_with fail
   have hrep:=N0 pb q Wa.drew wh s1.tk s1.fo (fun x=>J.pb.l50 (by omega) x) (fun x=>(J.pb.ok (by omega) x).1) (K0.m.pat.of_block rfl) (J.inv.fo64 hs) (K0.m.tab.of_block rfl) K0.m.n3
   unfold pv at hrep
   refine hrep.mono ?_
   rintro e Wb ⟨rfl,Pb,fb⟩
   have fb:Fr [pb] Wa Wb:=⟨fb.os,fb.tape,fb.output,fb.size,fb.block⟩
   have Kb:=K0.tie Pb fb
   clear hrep c4 x0 x1 x2 x3 x4 x5 x6 x7 x8 x9 x10 x11
   go_wp2
   refine aE (fun _=>True) hm ?_
   have hS:(fun _:World=>True) Wb.drew:=trivial
   refine wpAnyH_ready (rs:=[0,1]) (by kernel_rfl) (by simp) ?_
   refine AllReadyH.cons rfl (fun K hK=>?_) ?_
   ·obtain⟨x0,x1,x2,x3,x4,x5,x6,x7,x8,x9,x10,x11⟩:=Kb.out.al
    go_simp
    clear x0 x1 x2 x3 x4 x5 x6 x7 x8 x9 x10 x11
    refine hK _ _ hS ?_
    clear hK K
    intro _
    refine rd1 (r:=1) (by kernel_rfl) rfl fun K hK=>?_
    go_simp
    have hnt:=nD Wb.drew
    unfold pv at hnt
    refine hnt.mono ?_
    rintro e V1 ⟨rfl,fv⟩
    have fv:Fr [] Wb V1:=⟨fv.os,fv.tape,fv.output,fv.size,fv.block⟩
    have K1:=Kb.kept fv
    clear hnt
    clear hS
    have hS:=trivial
    refine hK _ _ hS ?_
    clear hK K
    intro _
    refine rd1 (r:=2) (by kernel_rfl) rfl fun K hK=>?_
    go_simp
    have hei:=mN q aF (J.pb.ok (by omega)) ((PB.nothing 0).ok (by decide)) V1
    unfold pv at hei
    refine hei.mono ?_
    rintro e V2 ⟨rfl,fu⟩
    have K2:=K1.kept fu
    clear hei
    clear hS
    have hS:=trivial
    refine hK _ _ hS ?_
    clear hK K
    intro _
    obtain⟨x0,x1,x2,x3,x4,x5,x6,x7,x8,x9,x10,x11⟩:=K2.out.al
    obtain⟨xz0,xz1,xz2,xz3,xz4,xz5,xz6,xz7,xz8,xz9,xz10,xz11⟩:=K2.out.az
    refine rd1 (r:=3) (by kernel_rfl) rfl fun K hK=>?_
    go_simp
    clear x0 x1 x2 x3 x4 x5 x6 x7 x8 x9 x10 x11 xz0 xz1 xz2 xz3 xz4 xz5 xz6 xz7 xz8 xz9 xz10 xz11
    have K3:=K2.set (aK q aF)
    generalize ((((((((((((V2.setCell { block:=ob,off:=0 } (.bool ((aK q aF) 0).e)).setCell { block:=ob,off:=1 } (.int .u64 ((aK q aF) 0).f)).setCell { block:=ob,off:=2 } (.int .u64 ((aK q aF) 0).l)).setCell { block:=ob,off:=3 } (.bool ((aK q aF) 1).e)).setCell { block:=ob,off:=4 } (.int .u64 ((aK q aF) 1).f)).setCell { block:=ob,off:=5 } (.int .u64 ((aK q aF) 1).l)).setCell { block:=ob,off:=6 } (.bool ((aK q aF) 2).e)).setCell { block:=ob,off:=7 } (.int .u64 ((aK q aF) 2).f)).setCell { block:=ob,off:=8 } (.int .u64 ((aK q aF) 2).l)).setCell { block:=ob,off:=9 } (.bool ((aK q aF) 3).e)).setCell { block:=ob,off:=10 } (.int .u64 ((aK q aF) 3).f)).setCell { block:=ob,off:=11 } (.int .u64 ((aK q aF) 3).l))=V3 at *
    refine hK _ _ trivial ?_
    clear hK K
    intro _
    refine wpAnyH_done (by kernel_rfl) ?_ _
    have heq':Hid _:=Heq.out
    have c42':Hid _:=H42.out
    have c1:=K3.m.rd.c1
    have z1:=K3.m.rd.f1
    go_wp2
    go_roundg m'
    case measure=>omega
    case rel=>
     have hin:=(J.inv.tie (q:=q) J.pb).adv (s:={ s1 with fo:=iJ s1.fo q q }) (by rw[gO,c42'.out];decide)
     exact⟨aK q aF,_,K3.adv,heq'.out,hin,J.pb.either (PB.nothing _),by simp[aS];omega⟩
   ·refine AllReadyH.cons rfl (fun K hK=>?_) AllReadyH.nil
    go_simp
    have hnt:=nD Wb.drew
    unfold pv at hnt
    refine hnt.mono ?_
    rintro e V1 ⟨rfl,fv⟩
    have fv:Fr [] Wb V1:=⟨fv.os,fv.tape,fv.output,fv.size,fv.block⟩
    have K1:=Kb.kept fv
    clear hnt
    clear hS
    have hS:=trivial
    refine hK _ _ hS ?_
    clear hK K
    intro _
    obtain⟨x0,x1,x2,x3,x4,x5,x6,x7,x8,x9,x10,x11⟩:=K1.out.al
    refine rd1 (r:=0) (by kernel_rfl) rfl fun K hK=>?_
    go_simp
    clear x0 x1 x2 x3 x4 x5 x6 x7 x8 x9 x10 x11
    refine hK _ _ hS ?_
    clear hK K
    intro _
    refine rd1 (r:=2) (by kernel_rfl) rfl fun K hK=>?_
    go_simp
    have hei:=mN q aF (J.pb.ok (by omega)) ((PB.nothing 0).ok (by decide)) V1
    unfold pv at hei
    refine hei.mono ?_
    rintro e V2 ⟨rfl,fu⟩
    have K2:=K1.kept fu
    clear hei
    clear hS
    have hS:=trivial
    refine hK _ _ hS ?_
    clear hK K
    intro _
    obtain⟨x0,x1,x2,x3,x4,x5,x6,x7,x8,x9,x10,x11⟩:=K2.out.al
    obtain⟨xz0,xz1,xz2,xz3,xz4,xz5,xz6,xz7,xz8,xz9,xz10,xz11⟩:=K2.out.az
    refine rd1 (r:=3) (by kernel_rfl) rfl fun K hK=>?_
    go_simp
    clear x0 x1 x2 x3 x4 x5 x6 x7 x8 x9 x10 x11 xz0 xz1 xz2 xz3 xz4 xz5 xz6 xz7 xz8 xz9 xz10 xz11
    have K3:=K2.set (aK q aF)
    generalize ((((((((((((V2.setCell { block:=ob,off:=0 } (.bool ((aK q aF) 0).e)).setCell { block:=ob,off:=1 } (.int .u64 ((aK q aF) 0).f)).setCell { block:=ob,off:=2 } (.int .u64 ((aK q aF) 0).l)).setCell { block:=ob,off:=3 } (.bool ((aK q aF) 1).e)).setCell { block:=ob,off:=4 } (.int .u64 ((aK q aF) 1).f)).setCell { block:=ob,off:=5 } (.int .u64 ((aK q aF) 1).l)).setCell { block:=ob,off:=6 } (.bool ((aK q aF) 2).e)).setCell { block:=ob,off:=7 } (.int .u64 ((aK q aF) 2).f)).setCell { block:=ob,off:=8 } (.int .u64 ((aK q aF) 2).l)).setCell { block:=ob,off:=9 } (.bool ((aK q aF) 3).e)).setCell { block:=ob,off:=10 } (.int .u64 ((aK q aF) 3).f)).setCell { block:=ob,off:=11 } (.int .u64 ((aK q aF) 3).l))=V3 at *
    refine hK _ _ trivial ?_
    clear hK K
    intro _
    refine wpAnyH_done (by kernel_rfl) ?_ _
    have heq':Hid _:=Heq.out
    have c42':Hid _:=H42.out
    have c1:=K3.m.rd.c1
    have z1:=K3.m.rd.f1
    go_wp2
    go_roundg m'
    case measure=>omega
    case rel=>
     have hin:=(J.inv.tie (q:=q) J.pb).adv (s:={ s1 with fo:=iJ s1.fo q q }) (by rw[gO,c42'.out];decide)
     exact⟨aK q aF,_,K3.adv,heq'.out,hin,J.pb.either (PB.nothing _),by simp[aS];omega⟩
  ·rw[if_neg c42] at heq
   by_cases c43:aB t s1=43
   ·rw[if_pos c43] at heq
    have hp1:=(cA (t:=t) (s:=s1) (by rw[c43];decide)).2
    have Heq:Hid _:=heq
    have H43:Hid _:=c43
    have e42:(aB t s1==42)=false:=by simp[c43]
    have e43:(aB t s1==43)=true:=by simp[c43]
    clear heq c43 c42
    go_wp2_with fail
    refine hpk.mono ?_
    rintro e w5 ⟨rfl,n5,rfl⟩
    have K0:lH w r pb t wh ob q s1 (wr.drewN n5):=J.wk.heap rfl rfl rfl rfl
    generalize wr.drewN n5=Wa at *
    have c4:=K0.m.rd.c4
    obtain⟨x0,x1,x2,x3,x4,x5,x6,x7,x8,x9,x10,x11⟩:=K0.out.al
    go_wp2
    refine aR 5 hm (by kernel_rfl) ?_
    simp only[List.take_succ_cons,List.take_zero,List.drop_succ_cons,List.drop_zero]
    repeat still_step
    refine wpStill_nil ?_
    go_wp2_with fail
    have hrep:=N0 pb q Wa.drew wh s1.tk s1.fo (fun x=>J.pb.l50 (by omega) x) (fun x=>(J.pb.ok (by omega) x).1) (K0.m.pat.of_block rfl) (J.inv.fo64 hs) (K0.m.tab.of_block rfl) K0.m.n3
    unfold pv at hrep
    refine hrep.mono ?_
    rintro e Wb ⟨rfl,Pb,fb⟩
    have fb:Fr [pb] Wa Wb:=⟨fb.os,fb.tape,fb.output,fb.size,fb.block⟩
    have Kb:=K0.tie Pb fb
    clear hrep c4 x0 x1 x2 x3 x4 x5 x6 x7 x8 x9 x10 x11
    have heq':Hid _:=Heq.out
    have c1:=Kb.m.rd.c1
    have z1:=Kb.m.rd.f1
    have c43':Hid _:=H43.out
    go_wp2
    go_roundg m'
    case measure=>omega
    case rel=>
     have hin:=(J.inv.tie (q:=q) J.pb).adv (s:={ s1 with fo:=iJ s1.fo q q }) (by rw[gO,c43'.out];decide)
     exact⟨q,_,Kb.adv,heq'.out,hin,J.pb,by simp[aS];omega⟩
   ·rw[if_neg c43] at heq
    by_cases c63:aB t s1=63
    ·rw[if_pos c63] at heq
     have hp1:=(cA (t:=t) (s:=s1) (by rw[c63];decide)).2
     have Heq:Hid _:=heq
     have H63:Hid _:=c63
     have e42:(aB t s1==42)=false:=by simp[c63]
     have e43:(aB t s1==43)=false:=by simp[c63]
     have e63:(aB t s1==63)=true:=by simp[c63]
     clear heq c63 c42 c43
     go_wp2_with fail
     refine hpk.mono ?_
     rintro e w5 ⟨rfl,n5,rfl⟩
     have K0:lH w r pb t wh ob q s1 (wr.drewN n5):=J.wk.heap rfl rfl rfl rfl
     generalize wr.drewN n5=Wa at *
     go_wp2
     refine aE (fun _=>True) hm ?_
     have hS:(fun _:World=>True) Wa.drew:=trivial
     refine wpAnyH_ready (rs:=[0,1]) (by kernel_rfl) (by simp) ?_
     refine AllReadyH.cons rfl (fun K hK=>?_) ?_
     ·obtain⟨x0,x1,x2,x3,x4,x5,x6,x7,x8,x9,x10,x11⟩:=K0.out.al
      go_simp
      clear x0 x1 x2 x3 x4 x5 x6 x7 x8 x9 x10 x11
      refine hK _ _ hS ?_
      clear hK K
      intro _
      refine rd1 (r:=1) (by kernel_rfl) rfl fun K hK=>?_
      go_simp
      have hnt:=nD Wa.drew
      unfold pv at hnt
      refine hnt.mono ?_
      rintro e V1 ⟨rfl,fv⟩
      have fv:Fr [] Wa V1:=⟨fv.os,fv.tape,fv.output,fv.size,fv.block⟩
      have K1:=K0.kept fv
      clear hnt
      clear hS
      have hS:=trivial
      refine hK _ _ hS ?_
      clear hK K
      intro _
      refine rd1 (r:=2) (by kernel_rfl) rfl fun K hK=>?_
      go_simp
      have hei:=mN q aF (J.pb.ok (by omega)) ((PB.nothing 0).ok (by decide)) V1
      unfold pv at hei
      refine hei.mono ?_
      rintro e V2 ⟨rfl,fu⟩
      have K2:=K1.kept fu
      clear hei
      clear hS
      have hS:=trivial
      refine hK _ _ hS ?_
      clear hK K
      intro _
      obtain⟨x0,x1,x2,x3,x4,x5,x6,x7,x8,x9,x10,x11⟩:=K2.out.al
      obtain⟨xz0,xz1,xz2,xz3,xz4,xz5,xz6,xz7,xz8,xz9,xz10,xz11⟩:=K2.out.az
      refine rd1 (r:=3) (by kernel_rfl) rfl fun K hK=>?_
      go_simp
      clear x0 x1 x2 x3 x4 x5 x6 x7 x8 x9 x10 x11 xz0 xz1 xz2 xz3 xz4 xz5 xz6 xz7 xz8 xz9 xz10 xz11
      have K3:=K2.set (aK q aF)
      generalize ((((((((((((V2.setCell { block:=ob,off:=0 } (.bool ((aK q aF) 0).e)).setCell { block:=ob,off:=1 } (.int .u64 ((aK q aF) 0).f)).setCell { block:=ob,off:=2 } (.int .u64 ((aK q aF) 0).l)).setCell { block:=ob,off:=3 } (.bool ((aK q aF) 1).e)).setCell { block:=ob,off:=4 } (.int .u64 ((aK q aF) 1).f)).setCell { block:=ob,off:=5 } (.int .u64 ((aK q aF) 1).l)).setCell { block:=ob,off:=6 } (.bool ((aK q aF) 2).e)).setCell { block:=ob,off:=7 } (.int .u64 ((aK q aF) 2).f)).setCell { block:=ob,off:=8 } (.int .u64 ((aK q aF) 2).l)).setCell { block:=ob,off:=9 } (.bool ((aK q aF) 3).e)).setCell { block:=ob,off:=10 } (.int .u64 ((aK q aF) 3).f)).setCell { block:=ob,off:=11 } (.int .u64 ((aK q aF) 3).l))=V3 at *
      refine hK _ _ trivial ?_
      clear hK K
      intro _
      refine wpAnyH_done (by kernel_rfl) ?_ _
      have c1:=K3.m.rd.c1
      have z1:=K3.m.rd.f1
      go_wp2
      go_roundg m'
      case measure=>omega
      case rel=>exact⟨aK q aF,_,K3.adv,Heq.out,J.inv.adv (by rw[H63.out];decide),J.pb.either (PB.nothing _),by simp[aS];omega⟩
     ·refine AllReadyH.cons rfl (fun K hK=>?_) AllReadyH.nil
      go_simp
      have hnt:=nD Wa.drew
      unfold pv at hnt
      refine hnt.mono ?_
      rintro e V1 ⟨rfl,fv⟩
      have fv:Fr [] Wa V1:=⟨fv.os,fv.tape,fv.output,fv.size,fv.block⟩
      have K1:=K0.kept fv
      clear hnt
      clear hS
      have hS:=trivial
      refine hK _ _ hS ?_
      clear hK K
      intro _
      obtain⟨x0,x1,x2,x3,x4,x5,x6,x7,x8,x9,x10,x11⟩:=K1.out.al
      refine rd1 (r:=0) (by kernel_rfl) rfl fun K hK=>?_
      go_simp
      clear x0 x1 x2 x3 x4 x5 x6 x7 x8 x9 x10 x11
      refine hK _ _ hS ?_
      clear hK K
      intro _
      refine rd1 (r:=2) (by kernel_rfl) rfl fun K hK=>?_
      go_simp
      have hei:=mN q aF (J.pb.ok (by omega)) ((PB.nothing 0).ok (by decide)) V1
      unfold pv at hei
      refine hei.mono ?_
      rintro e V2 ⟨rfl,fu⟩
      have K2:=K1.kept fu
      clear hei
      clear hS
      have hS:=trivial
      refine hK _ _ hS ?_
      clear hK K
      intro _
      obtain⟨x0,x1,x2,x3,x4,x5,x6,x7,x8,x9,x10,x11⟩:=K2.out.al
      obtain⟨xz0,xz1,xz2,xz3,xz4,xz5,xz6,xz7,xz8,xz9,xz10,xz11⟩:=K2.out.az
      refine rd1 (r:=3) (by kernel_rfl) rfl fun K hK=>?_
      go_simp
      clear x0 x1 x2 x3 x4 x5 x6 x7 x8 x9 x10 x11 xz0 xz1 xz2 xz3 xz4 xz5 xz6 xz7 xz8 xz9 xz10 xz11
      have K3:=K2.set (aK q aF)
      generalize ((((((((((((V2.setCell { block:=ob,off:=0 } (.bool ((aK q aF) 0).e)).setCell { block:=ob,off:=1 } (.int .u64 ((aK q aF) 0).f)).setCell { block:=ob,off:=2 } (.int .u64 ((aK q aF) 0).l)).setCell { block:=ob,off:=3 } (.bool ((aK q aF) 1).e)).setCell { block:=ob,off:=4 } (.int .u64 ((aK q aF) 1).f)).setCell { block:=ob,off:=5 } (.int .u64 ((aK q aF) 1).l)).setCell { block:=ob,off:=6 } (.bool ((aK q aF) 2).e)).setCell { block:=ob,off:=7 } (.int .u64 ((aK q aF) 2).f)).setCell { block:=ob,off:=8 } (.int .u64 ((aK q aF) 2).l)).setCell { block:=ob,off:=9 } (.bool ((aK q aF) 3).e)).setCell { block:=ob,off:=10 } (.int .u64 ((aK q aF) 3).f)).setCell { block:=ob,off:=11 } (.int .u64 ((aK q aF) 3).l))=V3 at *
      refine hK _ _ trivial ?_
      clear hK K
      intro _
      refine wpAnyH_done (by kernel_rfl) ?_ _
      have c1:=K3.m.rd.c1
      have z1:=K3.m.rd.f1
      go_wp2
      go_roundg m'
      case measure=>omega
      case rel=>exact⟨aK q aF,_,K3.adv,Heq.out,J.inv.adv (by rw[H63.out];decide),J.pb.either (PB.nothing _),by simp[aS];omega⟩
    ·rw[if_neg c63] at heq
     have Heq:Hid _:=heq
     have e42:(aB t s1==42)=false:=by simpa using c42
     have e43:(aB t s1==43)=false:=by simpa using c43
     have e63:(aB t s1==63)=false:=by simpa using c63
     clear heq c63 c42 c43
     go_wp2_with fail
     refine hpk.mono ?_
     rintro e w5 ⟨rfl,n5,rfl⟩
     have K0:lH w r pb t wh ob q s1 (wr.drewN n5):=J.wk.heap rfl rfl rfl rfl
     generalize wr.drewN n5=Wa at *
     obtain⟨x0,x1,x2,x3,x4,x5,x6,x7,x8,x9,x10,x11⟩:=K0.out.al
     obtain⟨y0,y1,y2,y3,y4,y5,y6,y7,y8,y9,y10,y11⟩:=K0.res.al
     obtain⟨z0,z1,z2,z3,z4,z5,z6,z7,z8,z9,z10,z11⟩:=K0.res.az
     go_wp2
     have hlo:=K0.lo
     have hfr:=fJ Wa w.heap.size (.bool (q 0).e) (.int .u64 (q 0).f) (.int .u64 (q 0).l) (.bool (q 1).e) (.int .u64 (q 1).f) (.int .u64 (q 1).l) (.bool (q 2).e) (.int .u64 (q 2).f) (.int .u64 (q 2).l) (.bool (q 3).e) (.int .u64 (q 3).f) (.int .u64 (q 3).l)
     have hX:=Heq.out
     refine bodyPost_ret (v:=pv q) (by simp[results,results186,go_sem,pv,y0,y1,y2,y3,y4,y5,y6,y7,y8,y9,y10,y11]) rfl ⟨by rw[← hX],?_,?_⟩
     ·rw[← hX];exact K0.m.fr hfr (by simp;omega) (by simp;omega) (by simp;omega)
     ·exact K0.fr.trans' hfr (by simp)
structure bHx (w:World) (r pb:Nat) (t:ByteArray) (wh:Nat→Value) (ob:Nat) (X:Piece × St) (m:Nat) (q:Piece) (s1:St) (W:World):Prop where
 wk:lH w r pb t wh ob q s1 W
 eq:Hid (kB t m q s1=X)
 inv:Inv t s1
 pb:PB s1.atoms q
 fuel:s1.fault=true∨6*(t.size-s1.pos)+3≤m
theorem aPh {t:ByteArray}{m:Nat}{q:Piece}{s:St} (h:aB t s = -1∨aB t s=41∨aB t s=124∨aB t s=42∨aB t s=43∨aB t s=63):kB t m q s=(q,s):=by
 cases m with
 | zero=>rw[aXo]
 | succ m=>rw[jJ,if_pos h]
theorem aTo (n:Nat)(hA:∀ m,m≤n→X7 m):aFc (n+1):=by
 intro w r pb t wh s h hi hs hn
 have t6:=h.tab.lt
 have hm:prog.follows Departure.mixedOrders=true:=by kernel_rfl
 have hrl:=h.rlt
 have hpl:=h.pat.lt
 rw[qQ]
 unfold uW
 have gp:PB s.atoms aF:=PB.nothing _
 have hnt:=fun (W:World)=>nD W
 obtain⟨q0,hq0⟩:∃ q,aF=q:=⟨_,rfl⟩
 rw[hq0] at gp hnt ⊢
 clear hq0
 obtain⟨X,hX⟩:=eX (kB t n q0 s)
 rw[hX]
 have HX:Hid (kB t n q0 s=X):=hX
 have Hnt:=(show Hid _ from hnt)
 have HA:=(show Hid _ from hA)
 clear hX hnt hA
 have f0:Fr [] w (w.alloc (Obj.cells #[.bool false,.int .u64 0,.int .u64 0,.bool false,.int .u64 0,.int .u64 0,.bool false,.int .u64 0,.int .u64 0,.bool false,.int .u64 0,.int .u64 0] 217)):=(Fr.refl [] _).alloc _
 have m0:=h.fr f0 (by simp) (by simp) (by simp)
 have R0:=Res.new w
 go_enter func165,ntmps165
 go_wp2_with fail
 refine (Hnt.out _).mono ?_
 rintro e w1 ⟨rfl,f1⟩
 have m1:=m0.fr f1 (by simp) (by simp) (by simp)
 have R1:=R0.fr f1 (by simp)
 have F1:Fr [r,pb] w w1:=(f0.mono (by simp)).trans (f1.mono (by simp))
 have f2:Fr [] w1 (w1.alloc (Obj.cells #[.bool (q0 0).e,.int .u64 (q0 0).f,.int .u64 (q0 0).l,.bool (q0 1).e,.int .u64 (q0 1).f,.int .u64 (q0 1).l,.bool (q0 2).e,.int .u64 (q0 2).f,.int .u64 (q0 2).l,.bool (q0 3).e,.int .u64 (q0 3).f,.int .u64 (q0 3).l] 217)):=(Fr.refl [] _).alloc _
 have K0:lH w r pb t wh w1.heap.size q0 s (w1.alloc (Obj.cells #[.bool (q0 0).e,.int .u64 (q0 0).f,.int .u64 (q0 0).l,.bool (q0 1).e,.int .u64 (q0 1).f,.int .u64 (q0 1).l,.bool (q0 2).e,.int .u64 (q0 2).f,.int .u64 (q0 2).l,.bool (q0 3).e,.int .u64 (q0 3).f,.int .u64 (q0 3).l] 217)):=
  ⟨m1.fr f2 (by simp) (by simp) (by simp),Out.new w1 q0,R1.fr f2 (by simp),F1.trans (f2.mono (by simp)),R1.lt,hrl,hpl,t6⟩
 clear m0 R0 f0 m1 R1 F1 f1 f2
 unfold pv
 go_wp2
 generalize w1.heap.size=ob at *
 generalize w1.alloc (Obj.cells #[.bool (q0 0).e,.int .u64 (q0 0).f,.int .u64 (q0 0).l,.bool (q0 1).e,.int .u64 (q0 1).f,.int .u64 (q0 1).l,.bool (q0 2).e,.int .u64 (q0 2).f,.int .u64 (q0 2).l,.bool (q0 3).e,.int .u64 (q0 3).f,.int .u64 (q0 3).l] 217)=W2 at *
 go_loopg [5] n (fun m _ wr=>m≤n∧∃ q s1,bHx w r pb t wh ob X m q s1 wr)
 case atStart=>exact⟨Nat.le_refl _,q0,s,K0,HX,hi,gp,.inr (by omega)⟩
 case round=>
  obtain⟨hgkn,q,s1,J⟩:=hrel
  clear K0 HX Hnt
  have hpk:=dW J.wk.m hs
  have hpos:=J.inv.pos
  have hat:=J.inv.at_
  by_cases hst:aB t s1 = -1∨aB t s1=41∨aB t s1=124∨aB t s1=42∨aB t s1=43∨aB t s1=63
  ·have Heq:Hid ((q,s1)=X):=(aPh hst).symm.trans J.eq.out
   rcases hst with c | c | c | c | c | c
   all_goals
    first | have em1:(aB t s1==(-1))=true:=by simp[c] | have em1:(aB t s1==(-1))=false:=by simp[c]
    first | have e41:(aB t s1==41)=true:=by simp[c] | have e41:(aB t s1==41)=false:=by simp[c]
    first | have e124:(aB t s1==124)=true:=by simp[c] | have e124:(aB t s1==124)=false:=by simp[c]
    first | have e42:(aB t s1==42)=true:=by simp[c] | have e42:(aB t s1==42)=false:=by simp[c]
    first | have e43:(aB t s1==43)=true:=by simp[c] | have e43:(aB t s1==43)=false:=by simp[c]
    first | have e63:(aB t s1==63)=true:=by simp[c] | have e63:(aB t s1==63)=false:=by simp[c]
    clear c
    go_wp2_with fail
    refine hpk.mono ?_
    rintro e w5 ⟨rfl,n5,rfl⟩
    have K0:lH w r pb t wh ob q s1 (wr.drewN n5):=J.wk.heap rfl rfl rfl rfl
    generalize wr.drewN n5=Wa at *
    obtain⟨x0,x1,x2,x3,x4,x5,x6,x7,x8,x9,x10,x11⟩:=K0.out.al
    obtain⟨y0,y1,y2,y3,y4,y5,y6,y7,y8,y9,y10,y11⟩:=K0.res.al
    obtain⟨z0,z1,z2,z3,z4,z5,z6,z7,z8,z9,z10,z11⟩:=K0.res.az
    go_wp2
    have hlo:=K0.lo
    have hfr:=fJ Wa w.heap.size (.bool (q 0).e) (.int .u64 (q 0).f) (.int .u64 (q 0).l) (.bool (q 1).e) (.int .u64 (q 1).f) (.int .u64 (q 1).l) (.bool (q 2).e) (.int .u64 (q 2).f) (.int .u64 (q 2).l) (.bool (q 3).e) (.int .u64 (q 3).f) (.int .u64 (q 3).l)
    have hX:=Heq.out
    refine bodyPost_ret (v:=pv q) (by simp[results,results165,go_sem,pv,y0,y1,y2,y3,y4,y5,y6,y7,y8,y9,y10,y11]) rfl ⟨by rw[← hX],?_,?_⟩
    ·rw[← hX];exact K0.m.fr hfr (by simp;omega) (by simp;omega) (by simp;omega)
    ·exact K0.fr.trans' hfr (by simp)
  ·have hne:aB t s1≠-1:=fun e=>hst (.inl e)
   obtain⟨hnf,hp1⟩:=cA hne
   have hfu:6*(t.size-s1.pos)+3≤gk:=J.fuel.elim (fun e=>by rw[hnf] at e;cases e) id
   have hlt:=J.fuel
   obtain⟨m',rfl⟩:∃ m',gk=m'+1:=⟨gk-1,by omega⟩
   have heq:=J.eq.out
   rw[jJ,if_neg hst] at heq
   obtain⟨k',hk'⟩:∃ k',m'=k'+2:=⟨m' - 2,by omega⟩
   have gv:=(eY t m').part s1 J.inv hne
   have gpr:s1.pos<(dK t m' s1).2.pos:=by rw[hk'];exact yV J.inv hne
   clear hk' k' hlt
   have hpa:=fun (W:World) (hW:M W r pb t wh s1)=>HA.out m' (by omega) W r pb t wh s1 hW J.inv hs hne (by omega)
   unfold uW at hpa
   have gi:=gv.inv
   have gb:=gv.pb
   have gal:=gv.al
   obtain⟨q1,hq1⟩:∃ q,(dK t m' s1).1=q:=⟨_,rfl⟩
   obtain⟨s2,hs2⟩:∃ q,(dK t m' s1).2=q:=⟨_,rfl⟩
   simp only[hq1,hs2] at hpa gi gb gal gpr heq
   clear hq1 hs2 gv
   have Heq:Hid _:=heq
   have Hpa:Hid _:=hpa
   clear heq hpa
   have gi_at:=gi.at_
   have gi_pos:=gi.pos
   have em1:(aB t s1==(-1))=false:=by simp;exact fun e=>hst (by simp[e])
   have e41:(aB t s1==41)=false:=by simp;exact fun e=>hst (by simp[e])
   have e124:(aB t s1==124)=false:=by simp;exact fun e=>hst (by simp[e])
   have e42:(aB t s1==42)=false:=by simp;exact fun e=>hst (by simp[e])
   have e43:(aB t s1==43)=false:=by simp;exact fun e=>hst (by simp[e])
   have e63:(aB t s1==63)=false:=by simp;exact fun e=>hst (by simp[e])
   clear hst hne
   go_wp2_with fail
   refine hpk.mono ?_
   rintro e w5 ⟨rfl,n5,rfl⟩
   have K0:lH w r pb t wh ob q s1 (wr.drewN n5):=J.wk.heap rfl rfl rfl rfl
   generalize wr.drewN n5=Wa at *
   have c4:=K0.m.rd.c4
   go_wp2
   clear c4
   refine aE (fun w1=>w1.cell? ⟨r,4,none⟩=some (.pointer (some ⟨pb,0,none⟩))) hm ?_
   have hS:(fun w1:World=>w1.cell? ⟨r,4,none⟩=some (.pointer (some ⟨pb,0,none⟩))) Wa.drew:=K0.m.rd.c4
   refine aH (fun _ _ _ _ _ h=>h) hS [0,1,2,3,5] (by kernel_rfl) ?_
   iterate 5
    refine Yls.cons (v:=?_) rfl (.inl ⟨rfl,fun w1 hS1=>?_⟩) ?_
    rotate_left
    ·have s4:w1.cell? ⟨r,4,none⟩=some (.pointer (some ⟨pb,0,none⟩)):=hS1
     go_simp
     rfl
    simp only[Act.put,Z1,Z2,Z3]
   refine Yls.nil ?_
   refine wpAnyH_ready (rs:=[4,6]) (by kernel_rfl) (by simp) ?_
   refine AllReadyH.cons rfl (fun K hK=>?_) ?_
   ·obtain⟨x0,x1,x2,x3,x4,x5,x6,x7,x8,x9,x10,x11⟩:=K0.out.al
    go_simp
    clear x0 x1 x2 x3 x4 x5 x6 x7 x8 x9 x10 x11
    refine hK _ _ hS ?_
    clear hK K
    intro _
    refine rd1 (r:=6) (by kernel_rfl) rfl fun K hK=>?_
    go_simp
    refine (Hpa.out _ (K0.m.heap (w':=Wa.drew) rfl)).mono ?_
    rintro e V1 ⟨rfl,mv,fv⟩
    unfold pv
    have fv:Fr [r,pb] Wa V1:=⟨fv.os,fv.tape,fv.output,fv.size,fv.block⟩
    have K1:=K0.call mv fv
    clear hS
    have hS:=K1.m.rd.c4
    refine hK _ _ hS ?_
    clear hK K
    intro _
    refine rd1 (r:=7) (by kernel_rfl) rfl fun K hK=>?_
    go_simp
    have hjo:=aIg pb q q1 V1 wh s2.tk s2.fo (fun x=>J.pb.l50 (by omega) x) (fun x=>J.pb.ok (by omega) x) (fun x=>gb.ok (by omega) x) K1.m.pat (gi.fo64 hs) K1.m.tab K1.m.n3
    unfold pv at hjo
    refine hjo.mono ?_
    rintro e V2 ⟨rfl,Pv,fu⟩
    have K2:=K1.tie Pv fu
    clear hjo
    clear hS
    have hS:=K2.m.rd.c4
    refine hK _ _ hS ?_
    clear hK K
    intro _
    obtain⟨x0,x1,x2,x3,x4,x5,x6,x7,x8,x9,x10,x11⟩:=K2.out.al
    obtain⟨xz0,xz1,xz2,xz3,xz4,xz5,xz6,xz7,xz8,xz9,xz10,xz11⟩:=K2.out.az
    refine rd1 (r:=8) (by kernel_rfl) rfl fun K hK=>?_
    go_simp
    clear x0 x1 x2 x3 x4 x5 x6 x7 x8 x9 x10 x11 xz0 xz1 xz2 xz3 xz4 xz5 xz6 xz7 xz8 xz9 xz10 xz11
    have K3:=K2.set (joinF q q1)
    generalize ((((((((((((V2.setCell { block:=ob,off:=0 } (.bool ((joinF q q1) 0).e)).setCell { block:=ob,off:=1 } (.int .u64 ((joinF q q1) 0).f)).setCell { block:=ob,off:=2 } (.int .u64 ((joinF q q1) 0).l)).setCell { block:=ob,off:=3 } (.bool ((joinF q q1) 1).e)).setCell { block:=ob,off:=4 } (.int .u64 ((joinF q q1) 1).f)).setCell { block:=ob,off:=5 } (.int .u64 ((joinF q q1) 1).l)).setCell { block:=ob,off:=6 } (.bool ((joinF q q1) 2).e)).setCell { block:=ob,off:=7 } (.int .u64 ((joinF q q1) 2).f)).setCell { block:=ob,off:=8 } (.int .u64 ((joinF q q1) 2).l)).setCell { block:=ob,off:=9 } (.bool ((joinF q q1) 3).e)).setCell { block:=ob,off:=10 } (.int .u64 ((joinF q q1) 3).f)).setCell { block:=ob,off:=11 } (.int .u64 ((joinF q q1) 3).l))=V3 at *
    refine hK _ _ (K3.m.rd.c4) ?_
    clear hK K
    intro _
    refine wpAnyH_done (by kernel_rfl) ?_ _
    go_wp2
    go_roundg m'
    case measure=>omega
    case rel=>exact⟨by omega,joinF q q1,_,K3,Heq.out,gi.tie gb,(J.pb.mono gal).join gb,.inr (by simp only;omega)⟩
   ·refine AllReadyH.cons rfl (fun K hK=>?_) AllReadyH.nil
    go_simp
    refine (Hpa.out _ (K0.m.heap (w':=Wa.drew) rfl)).mono ?_
    rintro e V1 ⟨rfl,mv,fv⟩
    unfold pv
    have fv:Fr [r,pb] Wa V1:=⟨fv.os,fv.tape,fv.output,fv.size,fv.block⟩
    have K1:=K0.call mv fv
    clear hS
    have hS:=K1.m.rd.c4
    refine hK _ _ hS ?_
    clear hK K
    intro _
    obtain⟨x0,x1,x2,x3,x4,x5,x6,x7,x8,x9,x10,x11⟩:=K1.out.al
    refine rd1 (r:=4) (by kernel_rfl) rfl fun K hK=>?_
    go_simp
    clear x0 x1 x2 x3 x4 x5 x6 x7 x8 x9 x10 x11
    refine hK _ _ hS ?_
    clear hK K
    intro _
    refine rd1 (r:=7) (by kernel_rfl) rfl fun K hK=>?_
    go_simp
    have hjo:=aIg pb q q1 V1 wh s2.tk s2.fo (fun x=>J.pb.l50 (by omega) x) (fun x=>J.pb.ok (by omega) x) (fun x=>gb.ok (by omega) x) K1.m.pat (gi.fo64 hs) K1.m.tab K1.m.n3
    unfold pv at hjo
    refine hjo.mono ?_
    rintro e V2 ⟨rfl,Pv,fu⟩
    have K2:=K1.tie Pv fu
    clear hjo
    clear hS
    have hS:=K2.m.rd.c4
    refine hK _ _ hS ?_
    clear hK K
    intro _
    obtain⟨x0,x1,x2,x3,x4,x5,x6,x7,x8,x9,x10,x11⟩:=K2.out.al
    obtain⟨xz0,xz1,xz2,xz3,xz4,xz5,xz6,xz7,xz8,xz9,xz10,xz11⟩:=K2.out.az
    refine rd1 (r:=8) (by kernel_rfl) rfl fun K hK=>?_
    go_simp
    clear x0 x1 x2 x3 x4 x5 x6 x7 x8 x9 x10 x11 xz0 xz1 xz2 xz3 xz4 xz5 xz6 xz7 xz8 xz9 xz10 xz11
    have K3:=K2.set (joinF q q1)
    generalize ((((((((((((V2.setCell { block:=ob,off:=0 } (.bool ((joinF q q1) 0).e)).setCell { block:=ob,off:=1 } (.int .u64 ((joinF q q1) 0).f)).setCell { block:=ob,off:=2 } (.int .u64 ((joinF q q1) 0).l)).setCell { block:=ob,off:=3 } (.bool ((joinF q q1) 1).e)).setCell { block:=ob,off:=4 } (.int .u64 ((joinF q q1) 1).f)).setCell { block:=ob,off:=5 } (.int .u64 ((joinF q q1) 1).l)).setCell { block:=ob,off:=6 } (.bool ((joinF q q1) 2).e)).setCell { block:=ob,off:=7 } (.int .u64 ((joinF q q1) 2).f)).setCell { block:=ob,off:=8 } (.int .u64 ((joinF q q1) 2).l)).setCell { block:=ob,off:=9 } (.bool ((joinF q q1) 3).e)).setCell { block:=ob,off:=10 } (.int .u64 ((joinF q q1) 3).f)).setCell { block:=ob,off:=11 } (.int .u64 ((joinF q q1) 3).l))=V3 at *
    refine hK _ _ (K3.m.rd.c4) ?_
    clear hK K
    intro _
    refine wpAnyH_done (by kernel_rfl) ?_ _
    go_wp2
    go_roundg m'
    case measure=>omega
    case rel=>exact⟨by omega,joinF q q1,_,K3,Heq.out,gi.tie gb,(J.pb.mono gal).join gb,.inr (by simp only;omega)⟩
end Go.Proofs.YtgpamchpeamnfaaGreatDoor
