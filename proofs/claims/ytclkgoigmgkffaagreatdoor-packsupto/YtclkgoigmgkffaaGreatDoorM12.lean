/-
  Texts Wu Wv Mg.
-/
import Derived.Test.YtclkgoigmgkffaaGreatDoorM11
import Derived.Test.YtclkgoigmgkffaaGreatDoorM02
set_option linter.unusedSimpArgs false
set_option linter.unusedVariables false
set_option maxRecDepth 100000
set_option maxHeartbeats 40000000
namespace Go.Proofs.YtclkgoigmgkffaaGreatDoor
open Go.RowKit
structure AltI (w:World) (r pb:Nat) (t:ByteArray) (wh:Nat→Value) (ob:Nat) (X:Piece × St) (m:Nat) (q:Piece) (s1:St) (W:World):Prop where
 wk:Work w r pb t wh ob q s1 W
 eq:Hid (altLF t m q s1=X)
 inv:Inv t s1
 pb:PB s1.atoms q
 fuel:s1.fault=true∨6*(t.size-s1.pos)+5≤m
theorem altL_stop {t:ByteArray}{m:Nat}{q:Piece}{s:St} (h:peekF t s≠124):altLF t m q s=(q,s):=by
 cases m with
 | zero=>rw[altLF_z]
 | succ m=>rw[altLF_s,if_neg h]
theorem alt_said (n:Nat) (hA:∀ m,m≤n→SaidSeq m):SaidAlt (n+1):=by
 intro w r pb t wh s h hi hs hn
 have t6:=h.tab.lt
 have hm:Tryz.prog.follows Departure.mixedOrders=true:=by kernel_rfl
 have hrl:=h.rlt
 have hpl:=h.pat.lt
 rw[altF_s]
 have gv:=(givesAll t n).seq s hi
 have hsq:=fun (W:World) (hW:M W r pb t wh s)=>hA n (Nat.le_refl _) W r pb t wh s hW hi hs (by omega)
 unfold Post at hsq ⊢
 obtain⟨q0,hq0⟩:∃ q,(seqF t n s).1=q:=⟨_,rfl⟩
 obtain⟨s0,hs0⟩:∃ q,(seqF t n s).2=q:=⟨_,rfl⟩
 have gi:=gv.inv
 have gp:=gv.pb
 have gl:=gv.le
 simp only[hq0,hs0] at hsq gi gp gl ⊢
 clear hq0 hs0 gv
 obtain⟨X,hX⟩:∃ X,altLF t n q0 s0=X:=⟨_,rfl⟩
 rw[hX]
 have HX:Hid (altLF t n q0 s0=X):=hX
 have Hsq:=(show Hid _ from hsq)
 have HA:=(show Hid _ from hA)
 clear hX hsq hA
 have f0:Fr [] w (w.alloc (Obj.cells #[.bool false,.int .u64 0,.int .u64 0,.bool false,.int .u64 0,.int .u64 0,.bool false,.int .u64 0,.int .u64 0,.bool false,.int .u64 0,.int .u64 0] 284)):=(Fr.refl [] _).alloc _
 have m0:=h.fr f0 (by simp) (by simp) (by simp)
 have R0:=Res.new w
 go_enter Tryz.func192,Tryz.ntmps192
 go_wp2_with fail
 refine (Hsq.out _ m0).mono ?_
 rintro e w1 ⟨rfl,m1,f1⟩
 have R1:=R0.fr f1 (by simp;omega)
 have F1:Fr [r,pb] w w1:=(f0.mono (by simp)).trans f1
 have f2:Fr [] w1 (w1.alloc (Obj.cells #[.bool (q0 0).e,.int .u64 (q0 0).f,.int .u64 (q0 0).l,.bool (q0 1).e,.int .u64 (q0 1).f,.int .u64 (q0 1).l,.bool (q0 2).e,.int .u64 (q0 2).f,.int .u64 (q0 2).l,.bool (q0 3).e,.int .u64 (q0 3).f,.int .u64 (q0 3).l] 284)):=(Fr.refl [] _).alloc _
 have K0:Work w r pb t wh w1.heap.size q0 s0 (w1.alloc (Obj.cells #[.bool (q0 0).e,.int .u64 (q0 0).f,.int .u64 (q0 0).l,.bool (q0 1).e,.int .u64 (q0 1).f,.int .u64 (q0 1).l,.bool (q0 2).e,.int .u64 (q0 2).f,.int .u64 (q0 2).l,.bool (q0 3).e,.int .u64 (q0 3).f,.int .u64 (q0 3).l] 284)):=
  ⟨m1.fr f2 (by simp) (by simp) (by simp),Out.new w1 q0,R1.fr f2 (by simp),F1.trans (f2.mono (by simp)),R1.lt,hrl,hpl,t6⟩
 clear m0 R0 f0 m1 R1 F1 f1 f2
 unfold pv
 go_wp2
 generalize w1.heap.size=ob at *
 generalize w1.alloc (Obj.cells #[.bool (q0 0).e,.int .u64 (q0 0).f,.int .u64 (q0 0).l,.bool (q0 1).e,.int .u64 (q0 1).f,.int .u64 (q0 1).l,.bool (q0 2).e,.int .u64 (q0 2).f,.int .u64 (q0 2).l,.bool (q0 3).e,.int .u64 (q0 3).f,.int .u64 (q0 3).l] 284)=W2 at *
 go_loopg [6] n (fun m _ wr=>m≤n∧∃ q s1,AltI w r pb t wh ob X m q s1 wr)
 case atStart=>exact⟨Nat.le_refl _,q0,s0,K0,HX,gi,gp,.inr (by omega)⟩
 case round=>
  obtain⟨hgkn,q,s1,J⟩:=hrel
  clear K0 HX Hsq
  have hpos:=J.inv.pos
  have hat:=J.inv.at_
  have hsk:=skip_any 124 J.wk.m hs (by omega)
  unfold skipF at hsk
  by_cases hc:peekF t s1=124
  ·rw[if_pos hc] at hsk
   have hne:peekF t s1≠-1:=by rw[hc];decide
   obtain⟨hnf,hp1⟩:=peek_ne hne
   have hfu:6*(t.size-s1.pos)+5≤gk:=J.fuel.elim (fun e=>by rw[hnf] at e;cases e) id
   obtain⟨m',rfl⟩:∃ m',gk=m'+1:=⟨gk-1,by omega⟩
   have heq:=J.eq.out
   rw[altLF_s,if_pos hc] at heq
   have hin:=J.inv.adv hne
   have gv:=(givesAll t m').seq _ hin
   have hpa:=fun (W:World) (hW:M W r pb t wh (advF s1))=>HA.out m' (by omega) W r pb t wh (advF s1) hW hin hs (by simp[advF];omega)
   unfold Post at hpa
   have gi2:=gv.inv
   have gb:=gv.pb
   have gal:=gv.al
   have gl2:=gv.le
   obtain⟨q1,hq1⟩:∃ q,(seqF t m' (advF s1)).1=q:=⟨_,rfl⟩
   obtain⟨s2,hs2⟩:∃ q,(seqF t m' (advF s1)).2=q:=⟨_,rfl⟩
   simp only[hq1,hs2] at hpa gi2 gb gal gl2 heq
   clear hq1 hs2 gv
   have ga2:s1.atoms≤s2.atoms:=gal
   have gl3:s1.pos+1≤s2.pos:=gl2
   have Heq:Hid _:=heq
   have Hpa:Hid _:=hpa
   clear heq hpa gal gl2 hc hne
   have gi_at:=gi2.at_
   have gi_pos:=gi2.pos
   go_wp2_with fail
   refine hsk.mono ?_
   rintro e Wa ⟨rfl,ma,fa⟩
   have K0:=J.wk.call ma (fa.mono (by simp))
   go_wp2
   refine wp_region_heldD (fun _=>True) hm ?_
   have hS:(fun _:World=>True) Wa.drew:=trivial
   refine wpAnyH_take (i:=1) (v:=?_) rfl (by kernel_rfl) (by kernel_rfl) (by kernel_rfl) (fun _ _ _ h=>h) (.inl ⟨rfl,fun w1 hS1=>?_⟩) hS ?_
   rotate_left
   ·go_simp
    rfl
   simp only[Act.put,List.setIfInBounds_toArray,List.set_cons_zero,List.set_cons_succ]
   refine wpAnyH_ready (rs:=[0,2]) (by kernel_rfl) (by simp) ?_
   refine AllReadyH.cons rfl (fun K hK=>?_) ?_
   ·have x0:Wa.cell? ⟨ob,0,none⟩=some (.bool (q 0).e):=K0.out.rr 0
    have x1:Wa.cell? ⟨ob,1,none⟩=some (.int .u64 (q 0).f):=K0.out.rr 1
    have x2:Wa.cell? ⟨ob,2,none⟩=some (.int .u64 (q 0).l):=K0.out.rr 2
    have x3:Wa.cell? ⟨ob,3,none⟩=some (.bool (q 1).e):=K0.out.rr 3
    have x4:Wa.cell? ⟨ob,4,none⟩=some (.int .u64 (q 1).f):=K0.out.rr 4
    have x5:Wa.cell? ⟨ob,5,none⟩=some (.int .u64 (q 1).l):=K0.out.rr 5
    have x6:Wa.cell? ⟨ob,6,none⟩=some (.bool (q 2).e):=K0.out.rr 6
    have x7:Wa.cell? ⟨ob,7,none⟩=some (.int .u64 (q 2).f):=K0.out.rr 7
    have x8:Wa.cell? ⟨ob,8,none⟩=some (.int .u64 (q 2).l):=K0.out.rr 8
    have x9:Wa.cell? ⟨ob,9,none⟩=some (.bool (q 3).e):=K0.out.rr 9
    have x10:Wa.cell? ⟨ob,10,none⟩=some (.int .u64 (q 3).f):=K0.out.rr 10
    have x11:Wa.cell? ⟨ob,11,none⟩=some (.int .u64 (q 3).l):=K0.out.rr 11
    go_simp
    clear x0 x1 x2 x3 x4 x5 x6 x7 x8 x9 x10 x11
    refine hK _ _ hS ?_
    clear hK K
    intro _
    refine wpAnyH_ready (rs:=[2]) (by kernel_rfl) (by simp) ?_
    refine AllReadyH.cons rfl (fun K hK=>?_) AllReadyH.nil
    go_simp
    refine (Hpa.out _ (K0.m.heap (w':=Wa.drew) rfl)).mono ?_
    rintro e V1 ⟨rfl,mv,fv⟩
    unfold pv
    have fv:Fr [r,pb] Wa V1:=⟨fv.os,fv.tape,fv.output,fv.size,fv.block⟩
    have K1:=K0.call mv fv
    clear hS
    have hS:=trivial
    refine hK _ _ hS ?_
    clear hK K
    intro _
    refine wpAnyH_ready (rs:=[3]) (by kernel_rfl) (by simp) ?_
    refine AllReadyH.cons rfl (fun K hK=>?_) AllReadyH.nil
    go_simp
    have hei:=either_any q q1 (J.pb.ok (by omega)) (gb.ok (by omega)) V1
    unfold pv at hei
    refine hei.mono ?_
    rintro e V2 ⟨rfl,fu⟩
    have K2:=K1.kept fu
    clear hei
    clear hS
    have hS:=trivial
    refine hK _ _ hS ?_
    clear hK K
    intro _
    have x0:V2.cell? ⟨ob,0,none⟩=some (.bool (q 0).e):=K2.out.rr 0
    have xz0:=K2.out.zr 0
    have x1:V2.cell? ⟨ob,1,none⟩=some (.int .u64 (q 0).f):=K2.out.rr 1
    have xz1:=K2.out.zr 1
    have x2:V2.cell? ⟨ob,2,none⟩=some (.int .u64 (q 0).l):=K2.out.rr 2
    have xz2:=K2.out.zr 2
    have x3:V2.cell? ⟨ob,3,none⟩=some (.bool (q 1).e):=K2.out.rr 3
    have xz3:=K2.out.zr 3
    have x4:V2.cell? ⟨ob,4,none⟩=some (.int .u64 (q 1).f):=K2.out.rr 4
    have xz4:=K2.out.zr 4
    have x5:V2.cell? ⟨ob,5,none⟩=some (.int .u64 (q 1).l):=K2.out.rr 5
    have xz5:=K2.out.zr 5
    have x6:V2.cell? ⟨ob,6,none⟩=some (.bool (q 2).e):=K2.out.rr 6
    have xz6:=K2.out.zr 6
    have x7:V2.cell? ⟨ob,7,none⟩=some (.int .u64 (q 2).f):=K2.out.rr 7
    have xz7:=K2.out.zr 7
    have x8:V2.cell? ⟨ob,8,none⟩=some (.int .u64 (q 2).l):=K2.out.rr 8
    have xz8:=K2.out.zr 8
    have x9:V2.cell? ⟨ob,9,none⟩=some (.bool (q 3).e):=K2.out.rr 9
    have xz9:=K2.out.zr 9
    have x10:V2.cell? ⟨ob,10,none⟩=some (.int .u64 (q 3).f):=K2.out.rr 10
    have xz10:=K2.out.zr 10
    have x11:V2.cell? ⟨ob,11,none⟩=some (.int .u64 (q 3).l):=K2.out.rr 11
    have xz11:=K2.out.zr 11
    refine wpAnyH_ready (rs:=[4]) (by kernel_rfl) (by simp) ?_
    refine AllReadyH.cons rfl (fun K hK=>?_) AllReadyH.nil
    go_simp
    clear x0 x1 x2 x3 x4 x5 x6 x7 x8 x9 x10 x11 xz0 xz1 xz2 xz3 xz4 xz5 xz6 xz7 xz8 xz9 xz10 xz11
    have K3:=K2.set (eitherF q q1)
    generalize ((((((((((((V2.setCell { block:=ob,off:=0 } (.bool ((eitherF q q1) 0).e)).setCell { block:=ob,off:=1 } (.int .u64 ((eitherF q q1) 0).f)).setCell { block:=ob,off:=2 } (.int .u64 ((eitherF q q1) 0).l)).setCell { block:=ob,off:=3 } (.bool ((eitherF q q1) 1).e)).setCell { block:=ob,off:=4 } (.int .u64 ((eitherF q q1) 1).f)).setCell { block:=ob,off:=5 } (.int .u64 ((eitherF q q1) 1).l)).setCell { block:=ob,off:=6 } (.bool ((eitherF q q1) 2).e)).setCell { block:=ob,off:=7 } (.int .u64 ((eitherF q q1) 2).f)).setCell { block:=ob,off:=8 } (.int .u64 ((eitherF q q1) 2).l)).setCell { block:=ob,off:=9 } (.bool ((eitherF q q1) 3).e)).setCell { block:=ob,off:=10 } (.int .u64 ((eitherF q q1) 3).f)).setCell { block:=ob,off:=11 } (.int .u64 ((eitherF q q1) 3).l))=V3 at *
    refine hK _ _ (trivial) ?_
    clear hK K
    intro _
    refine wpAnyH_done (by kernel_rfl) ?_ _
    go_wp2
    go_roundg m'
    case measure=>omega
    case rel=>exact⟨by omega,eitherF q q1,_,K3,Heq.out,gi2,(J.pb.mono ga2).either gb,.inr (by omega)⟩
   ·refine AllReadyH.cons rfl (fun K hK=>?_) AllReadyH.nil
    go_simp
    refine (Hpa.out _ (K0.m.heap (w':=Wa.drew) rfl)).mono ?_
    rintro e V1 ⟨rfl,mv,fv⟩
    unfold pv
    have fv:Fr [r,pb] Wa V1:=⟨fv.os,fv.tape,fv.output,fv.size,fv.block⟩
    have K1:=K0.call mv fv
    clear hS
    have hS:=trivial
    refine hK _ _ hS ?_
    clear hK K
    intro _
    have x0:V1.cell? ⟨ob,0,none⟩=some (.bool (q 0).e):=K1.out.rr 0
    have x1:V1.cell? ⟨ob,1,none⟩=some (.int .u64 (q 0).f):=K1.out.rr 1
    have x2:V1.cell? ⟨ob,2,none⟩=some (.int .u64 (q 0).l):=K1.out.rr 2
    have x3:V1.cell? ⟨ob,3,none⟩=some (.bool (q 1).e):=K1.out.rr 3
    have x4:V1.cell? ⟨ob,4,none⟩=some (.int .u64 (q 1).f):=K1.out.rr 4
    have x5:V1.cell? ⟨ob,5,none⟩=some (.int .u64 (q 1).l):=K1.out.rr 5
    have x6:V1.cell? ⟨ob,6,none⟩=some (.bool (q 2).e):=K1.out.rr 6
    have x7:V1.cell? ⟨ob,7,none⟩=some (.int .u64 (q 2).f):=K1.out.rr 7
    have x8:V1.cell? ⟨ob,8,none⟩=some (.int .u64 (q 2).l):=K1.out.rr 8
    have x9:V1.cell? ⟨ob,9,none⟩=some (.bool (q 3).e):=K1.out.rr 9
    have x10:V1.cell? ⟨ob,10,none⟩=some (.int .u64 (q 3).f):=K1.out.rr 10
    have x11:V1.cell? ⟨ob,11,none⟩=some (.int .u64 (q 3).l):=K1.out.rr 11
    refine wpAnyH_ready (rs:=[0]) (by kernel_rfl) (by simp) ?_
    refine AllReadyH.cons rfl (fun K hK=>?_) AllReadyH.nil
    go_simp
    clear x0 x1 x2 x3 x4 x5 x6 x7 x8 x9 x10 x11
    refine hK _ _ hS ?_
    clear hK K
    intro _
    refine wpAnyH_ready (rs:=[3]) (by kernel_rfl) (by simp) ?_
    refine AllReadyH.cons rfl (fun K hK=>?_) AllReadyH.nil
    go_simp
    have hei:=either_any q q1 (J.pb.ok (by omega)) (gb.ok (by omega)) V1
    unfold pv at hei
    refine hei.mono ?_
    rintro e V2 ⟨rfl,fu⟩
    have K2:=K1.kept fu
    clear hei
    clear hS
    have hS:=trivial
    refine hK _ _ hS ?_
    clear hK K
    intro _
    have x0:V2.cell? ⟨ob,0,none⟩=some (.bool (q 0).e):=K2.out.rr 0
    have xz0:=K2.out.zr 0
    have x1:V2.cell? ⟨ob,1,none⟩=some (.int .u64 (q 0).f):=K2.out.rr 1
    have xz1:=K2.out.zr 1
    have x2:V2.cell? ⟨ob,2,none⟩=some (.int .u64 (q 0).l):=K2.out.rr 2
    have xz2:=K2.out.zr 2
    have x3:V2.cell? ⟨ob,3,none⟩=some (.bool (q 1).e):=K2.out.rr 3
    have xz3:=K2.out.zr 3
    have x4:V2.cell? ⟨ob,4,none⟩=some (.int .u64 (q 1).f):=K2.out.rr 4
    have xz4:=K2.out.zr 4
    have x5:V2.cell? ⟨ob,5,none⟩=some (.int .u64 (q 1).l):=K2.out.rr 5
    have xz5:=K2.out.zr 5
    have x6:V2.cell? ⟨ob,6,none⟩=some (.bool (q 2).e):=K2.out.rr 6
    have xz6:=K2.out.zr 6
    have x7:V2.cell? ⟨ob,7,none⟩=some (.int .u64 (q 2).f):=K2.out.rr 7
    have xz7:=K2.out.zr 7
    have x8:V2.cell? ⟨ob,8,none⟩=some (.int .u64 (q 2).l):=K2.out.rr 8
    have xz8:=K2.out.zr 8
    have x9:V2.cell? ⟨ob,9,none⟩=some (.bool (q 3).e):=K2.out.rr 9
    have xz9:=K2.out.zr 9
    have x10:V2.cell? ⟨ob,10,none⟩=some (.int .u64 (q 3).f):=K2.out.rr 10
    have xz10:=K2.out.zr 10
    have x11:V2.cell? ⟨ob,11,none⟩=some (.int .u64 (q 3).l):=K2.out.rr 11
    have xz11:=K2.out.zr 11
    refine wpAnyH_ready (rs:=[4]) (by kernel_rfl) (by simp) ?_
    refine AllReadyH.cons rfl (fun K hK=>?_) AllReadyH.nil
    go_simp
    clear x0 x1 x2 x3 x4 x5 x6 x7 x8 x9 x10 x11 xz0 xz1 xz2 xz3 xz4 xz5 xz6 xz7 xz8 xz9 xz10 xz11
    have K3:=K2.set (eitherF q q1)
    generalize ((((((((((((V2.setCell { block:=ob,off:=0 } (.bool ((eitherF q q1) 0).e)).setCell { block:=ob,off:=1 } (.int .u64 ((eitherF q q1) 0).f)).setCell { block:=ob,off:=2 } (.int .u64 ((eitherF q q1) 0).l)).setCell { block:=ob,off:=3 } (.bool ((eitherF q q1) 1).e)).setCell { block:=ob,off:=4 } (.int .u64 ((eitherF q q1) 1).f)).setCell { block:=ob,off:=5 } (.int .u64 ((eitherF q q1) 1).l)).setCell { block:=ob,off:=6 } (.bool ((eitherF q q1) 2).e)).setCell { block:=ob,off:=7 } (.int .u64 ((eitherF q q1) 2).f)).setCell { block:=ob,off:=8 } (.int .u64 ((eitherF q q1) 2).l)).setCell { block:=ob,off:=9 } (.bool ((eitherF q q1) 3).e)).setCell { block:=ob,off:=10 } (.int .u64 ((eitherF q q1) 3).f)).setCell { block:=ob,off:=11 } (.int .u64 ((eitherF q q1) 3).l))=V3 at *
    refine hK _ _ (trivial) ?_
    clear hK K
    intro _
    refine wpAnyH_done (by kernel_rfl) ?_ _
    go_wp2
    go_roundg m'
    case measure=>omega
    case rel=>exact⟨by omega,eitherF q q1,_,K3,Heq.out,gi2,(J.pb.mono ga2).either gb,.inr (by omega)⟩
  ·rw[if_neg hc] at hsk
   have Heq:Hid ((q,s1)=X):=(altL_stop hc).symm.trans J.eq.out
   clear hc
   go_wp2_with fail
   refine hsk.mono ?_
   rintro e Wa ⟨rfl,ma,fa⟩
   have K0:=J.wk.call ma (fa.mono (by simp))
   have x0:Wa.cell? ⟨ob,0,none⟩=some (.bool (q 0).e):=K0.out.rr 0
   have x1:Wa.cell? ⟨ob,1,none⟩=some (.int .u64 (q 0).f):=K0.out.rr 1
   have x2:Wa.cell? ⟨ob,2,none⟩=some (.int .u64 (q 0).l):=K0.out.rr 2
   have x3:Wa.cell? ⟨ob,3,none⟩=some (.bool (q 1).e):=K0.out.rr 3
   have x4:Wa.cell? ⟨ob,4,none⟩=some (.int .u64 (q 1).f):=K0.out.rr 4
   have x5:Wa.cell? ⟨ob,5,none⟩=some (.int .u64 (q 1).l):=K0.out.rr 5
   have x6:Wa.cell? ⟨ob,6,none⟩=some (.bool (q 2).e):=K0.out.rr 6
   have x7:Wa.cell? ⟨ob,7,none⟩=some (.int .u64 (q 2).f):=K0.out.rr 7
   have x8:Wa.cell? ⟨ob,8,none⟩=some (.int .u64 (q 2).l):=K0.out.rr 8
   have x9:Wa.cell? ⟨ob,9,none⟩=some (.bool (q 3).e):=K0.out.rr 9
   have x10:Wa.cell? ⟨ob,10,none⟩=some (.int .u64 (q 3).f):=K0.out.rr 10
   have x11:Wa.cell? ⟨ob,11,none⟩=some (.int .u64 (q 3).l):=K0.out.rr 11
   have y0:Wa.cell? ⟨w.heap.size,0,none⟩=some (.bool false):=K0.res.rr 0
   have z0:=K0.res.zr 0
   have y1:Wa.cell? ⟨w.heap.size,1,none⟩=some (.int .u64 0):=K0.res.rr 1
   have z1:=K0.res.zr 1
   have y2:Wa.cell? ⟨w.heap.size,2,none⟩=some (.int .u64 0):=K0.res.rr 2
   have z2:=K0.res.zr 2
   have y3:Wa.cell? ⟨w.heap.size,3,none⟩=some (.bool false):=K0.res.rr 3
   have z3:=K0.res.zr 3
   have y4:Wa.cell? ⟨w.heap.size,4,none⟩=some (.int .u64 0):=K0.res.rr 4
   have z4:=K0.res.zr 4
   have y5:Wa.cell? ⟨w.heap.size,5,none⟩=some (.int .u64 0):=K0.res.rr 5
   have z5:=K0.res.zr 5
   have y6:Wa.cell? ⟨w.heap.size,6,none⟩=some (.bool false):=K0.res.rr 6
   have z6:=K0.res.zr 6
   have y7:Wa.cell? ⟨w.heap.size,7,none⟩=some (.int .u64 0):=K0.res.rr 7
   have z7:=K0.res.zr 7
   have y8:Wa.cell? ⟨w.heap.size,8,none⟩=some (.int .u64 0):=K0.res.rr 8
   have z8:=K0.res.zr 8
   have y9:Wa.cell? ⟨w.heap.size,9,none⟩=some (.bool false):=K0.res.rr 9
   have z9:=K0.res.zr 9
   have y10:Wa.cell? ⟨w.heap.size,10,none⟩=some (.int .u64 0):=K0.res.rr 10
   have z10:=K0.res.zr 10
   have y11:Wa.cell? ⟨w.heap.size,11,none⟩=some (.int .u64 0):=K0.res.rr 11
   have z11:=K0.res.zr 11
   go_wp2
   have hlo:=K0.lo
   have hfr:=far_sets Wa w.heap.size (.bool (q 0).e) (.int .u64 (q 0).f) (.int .u64 (q 0).l) (.bool (q 1).e) (.int .u64 (q 1).f) (.int .u64 (q 1).l) (.bool (q 2).e) (.int .u64 (q 2).f) (.int .u64 (q 2).l) (.bool (q 3).e) (.int .u64 (q 3).f) (.int .u64 (q 3).l)
   have hX:=Heq.out
   refine bodyPost_ret (v:=pv q) (by simp[results,Tryz.results192,go_sem,pv,y0,y1,y2,y3,y4,y5,y6,y7,y8,y9,y10,y11]) rfl ⟨by rw[← hX],?_,?_⟩
   ·rw[← hX];exact K0.m.fr hfr (by simp;omega) (by simp;omega) (by simp;omega)
   ·exact K0.fr.trans' hfr (by simp)
theorem said_all:∀ n,SaidAlt n∧SaidSeq n∧SaidPart n∧SaidAtom n:=by
 intro n
 induction n using Nat.strongRecOn with
 | _ n ih=>
  cases n with
  | zero=>
   refine⟨?_,?_,?_,?_⟩
   ·intro w r pb t wh s _ _ _ h;omega
   ·intro w r pb t wh s _ _ _ h;omega
   ·intro w r pb t wh s _ _ _ _ h;omega
   ·intro w r pb t wh s _ _ _ _ h;omega
  | succ n=>
   exact⟨alt_said n (fun m hm=>(ih m (by omega)).2.1),seq_said n (fun m hm=>(ih m (by omega)).2.2.1),part_said n (ih n (by omega)).2.2.2,atom_said n (ih n (by omega)).1⟩
def st0:St:=⟨0,false,0,fun _=>0,fun _ _=>0⟩
def readF (t:ByteArray):Piece × St:=altF t 400 st0
def readOk (t:ByteArray):Bool:=!(readF t).2.fault && decide (t.size≤(readF t).2.pos)
theorem st0_inv (t:ByteArray):Inv t st0:=⟨Nat.zero_le _,Nat.le_refl _,fun _=>Nat.one_pos,fun _ _=>Nat.one_pos⟩
def whF (q:Piece):Nat→Value:=fun i=>([.bool (q 0).e,.int .u64 (q 0).f,.int .u64 (q 0).l,.bool (q 1).e,.int .u64 (q 1).f,.int .u64 (q 1).l,.bool (q 2).e,.int .u64 (q 2).f,.int .u64 (q 2).l,.bool (q 3).e,.int .u64 (q 3).f,.int .u64 (q 3).l]:List Value).getD i (.bool false)
def wh0:Nat→Value:=fun i=>([Value.bool false,Value.int .u64 0,Value.int .u64 0,Value.bool false,Value.int .u64 0,Value.int .u64 0,Value.bool false,Value.int .u64 0,Value.int .u64 0,Value.bool false,Value.int .u64 0,Value.int .u64 0]:List Value).getD i (.bool false)
theorem read_long (t:ByteArray) (w:World) (h:50<t.size) (hs:t.size≤maxLen) :
  Calls Tryz.prog 156 #[.string t] w fun e w'=>e=.returned (.tuple #[.pointer none,.int .i64 0,.int .i64 1])∧w'=w:=by
 unfold maxLen at hs
 have g1:(50:Int)<t.size:=by omega
 go_enter Tryz.func156,Tryz.ntmps156
 go_wp2
 go_ret3
 exact⟨rfl,rfl⟩
theorem zero62:Tryz.zeroCells289=(([Value.bool false,Value.int .u64 0,Value.int .u64 0,Value.bool false,Value.int .u64 0,Value.int .u64 0,Value.bool false,Value.int .u64 0,Value.int .u64 0,Value.bool false,Value.int .u64 0,Value.int .u64 0]:List Value)++List.replicate 456 (Value.int .u64 0)).toArray:=by kernel_rfl
theorem PatAt.new (W:World):PatAt (W.alloc (.cells Tryz.zeroCells289 289)) W.heap.size wh0 (fun _=>0) (fun _ _=>0):=by
 have h:=World.alloc_heap_new W (.cells Tryz.zeroCells289 289)
 rw[zero62] at h ⊢
 have hc:∀ i,(W.alloc (.cells (([Value.bool false,Value.int .u64 0,Value.int .u64 0,Value.bool false,Value.int .u64 0,Value.int .u64 0,Value.bool false,Value.int .u64 0,Value.int .u64 0,Value.bool false,Value.int .u64 0,Value.int .u64 0]:List Value)++List.replicate 456 (Value.int .u64 0)).toArray 289)).cell? ⟨W.heap.size,i,none⟩=(([Value.bool false,Value.int .u64 0,Value.int .u64 0,Value.bool false,Value.int .u64 0,Value.int .u64 0,Value.bool false,Value.int .u64 0,Value.int .u64 0,Value.bool false,Value.int .u64 0,Value.int .u64 0]:List Value)++List.replicate 456 (Value.int .u64 0))[i]?:=fun i=>by
  unfold World.cell?;rw[h];exact List.getElem?_toArray
 have hz:∀ i,12≤i→i<468→(([Value.bool false,Value.int .u64 0,Value.int .u64 0,Value.bool false,Value.int .u64 0,Value.int .u64 0,Value.bool false,Value.int .u64 0,Value.int .u64 0,Value.bool false,Value.int .u64 0,Value.int .u64 0]:List Value)++List.replicate 456 (Value.int .u64 0))[i]?=some (Value.int .u64 0):=fun i h1 h2=>by
  rw[List.getElem?_append_right (by simpa using h1),List.getElem?_replicate,if_pos (by simp;omega)]
 refine⟨fun i hi=>?_,fun b hb=>?_,fun s a hs ha=>?_,fun i hi=>?_⟩
 ·rw[hc,List.getElem?_append_left (by simpa using hi)]
  unfold wh0
  rw[List.getD_eq_getElem?_getD,List.getElem?_eq_getElem (by simpa using hi)]
  rfl
 ·rw[hc,hz _ (by omega) (by omega)];rfl
 ·rw[hc,hz _ (by omega) (by omega)];rfl
 ·unfold World.frozen?;rw[h];simp
theorem PatAt.setWhole {w:World}{pb:Nat}{wh:Nat→Value}{tk:Nat→Nat}{fo:Nat→Nat→Nat} (h:PatAt w pb wh tk fo) (q:Piece):PatAt ((((((((((((w.setCell { block:=pb,off:=0 } (.bool (q 0).e)).setCell { block:=pb,off:=1 } (.int .u64 (q 0).f)).setCell { block:=pb,off:=2 } (.int .u64 (q 0).l)).setCell { block:=pb,off:=3 } (.bool (q 1).e)).setCell { block:=pb,off:=4 } (.int .u64 (q 1).f)).setCell { block:=pb,off:=5 } (.int .u64 (q 1).l)).setCell { block:=pb,off:=6 } (.bool (q 2).e)).setCell { block:=pb,off:=7 } (.int .u64 (q 2).f)).setCell { block:=pb,off:=8 } (.int .u64 (q 2).l)).setCell { block:=pb,off:=9 } (.bool (q 3).e)).setCell { block:=pb,off:=10 } (.int .u64 (q 3).f)).setCell { block:=pb,off:=11 } (.int .u64 (q 3).l)) pb (whF q) tk fo:=by
 have hr:∀ i,12≤i→((((((((((((w.setCell { block:=pb,off:=0 } (.bool (q 0).e)).setCell { block:=pb,off:=1 } (.int .u64 (q 0).f)).setCell { block:=pb,off:=2 } (.int .u64 (q 0).l)).setCell { block:=pb,off:=3 } (.bool (q 1).e)).setCell { block:=pb,off:=4 } (.int .u64 (q 1).f)).setCell { block:=pb,off:=5 } (.int .u64 (q 1).l)).setCell { block:=pb,off:=6 } (.bool (q 2).e)).setCell { block:=pb,off:=7 } (.int .u64 (q 2).f)).setCell { block:=pb,off:=8 } (.int .u64 (q 2).l)).setCell { block:=pb,off:=9 } (.bool (q 3).e)).setCell { block:=pb,off:=10 } (.int .u64 (q 3).f)).setCell { block:=pb,off:=11 } (.int .u64 (q 3).l)).cell? ⟨pb,i,none⟩=w.cell? ⟨pb,i,none⟩:=fun i hi=>by
  rw[setCell_off (by omega)]
  rw[setCell_off (by omega)]
  rw[setCell_off (by omega)]
  rw[setCell_off (by omega)]
  rw[setCell_off (by omega)]
  rw[setCell_off (by omega)]
  rw[setCell_off (by omega)]
  rw[setCell_off (by omega)]
  rw[setCell_off (by omega)]
  rw[setCell_off (by omega)]
  rw[setCell_off (by omega)]
  rw[setCell_off (by omega)]
 refine⟨fun i hi=>?_,fun b hb=>(hr _ (by omega)).trans (h.ht b hb),fun s a hs ha=>(hr _ (by omega)).trans (h.hf s a hs ha),fun i hi=>(frozen_sets w pb (.bool (q 0).e) (.int .u64 (q 0).f) (.int .u64 (q 0).l) (.bool (q 1).e) (.int .u64 (q 1).f) (.int .u64 (q 1).l) (.bool (q 2).e) (.int .u64 (q 2).f) (.int .u64 (q 2).l) (.bool (q 3).e) (.int .u64 (q 3).f) (.int .u64 (q 3).l) _).trans (h.fz i hi)⟩
 have hex:∀ j,j<12→(w.cell? ⟨pb,j,none⟩).isSome=true:=fun j hj=>by rw[h.hw j hj];rfl
 obtain rfl | rfl | rfl | rfl | rfl | rfl | rfl | rfl | rfl | rfl | rfl | rfl:i=0∨i=1∨i=2∨i=3∨i=4∨i=5∨i=6∨i=7∨i=8∨i=9∨i=10∨i=11:=by omega
 all_goals
  repeat rw[setCell_off (by decide)]
  rw[World.cell?_setCell_same' _ _ _ ?_]
  ·rfl
  ·repeat rw[setCell_off (by decide)]
   exact hex _ (by decide)
def ReadPost (w:World) (ok:Bool) (q:Piece) (s:St) (e:Ending) (w':World):Prop:=Fr [] w w' ∧
 if ok=true then ∃ pb,w.heap.size≤pb∧e=.returned (.tuple #[.pointer (some ⟨pb,0,none⟩),.int .i64 0,.int .i64 0])∧PatAt w' pb (whF q) s.tk s.fo
 else e=.returned (.tuple #[.pointer none,.int .i64 s.pos,.int .i64 2])
theorem read_any (t:ByteArray) (w:World) (hs:t.size≤50) (hT:Tab w) :
  Calls Tryz.prog 156 #[.string t] w (ReadPost w (readOk t) (readF t).1 (readF t).2):=by
 have hm:Tryz.prog.follows Departure.mixedOrders=true:=by kernel_rfl
 have g1:¬ ((50:Int)<t.size):=by omega
 have hw0:=hT.lt
 have hal:=fun (W:World) (r pb:Nat) (hW:M W r pb t wh0 st0)=>(said_all 400).1 W r pb t wh0 st0 hW (st0_inv t) hs (by simp[st0];omega)
 unfold Post at hal
 have gv:=(givesAll t 400).alt st0 (st0_inv t)
 have gpos:=gv.inv.pos
 unfold readOk
 change ∀ (W:World) (r pb:Nat),M W r pb t wh0 st0→Calls Tryz.prog 192 _ W fun e w'=>e=Ending.returned (pv (readF t).1)∧M w' r pb t wh0 (readF t).2∧Fr [r,pb] W w' at hal
 change (readF t).2.pos≤t.size at gpos
 obtain⟨q,hq⟩:∃ q,(readF t).1=q:=⟨_,rfl⟩
 obtain⟨s1,hs1⟩:∃ q,(readF t).2=q:=⟨_,rfl⟩
 simp only[hq,hs1] at hal gpos ⊢
 clear hq hs1 gv
 have Hal:Hid _:=hal
 clear hal
 have f0:Fr [] w ((w.alloc (Obj.cells Tryz.zeroCells289 289)).alloc (Obj.cells #[Value.string t,Value.int IntKind.i64 0,Value.bool false,Value.int IntKind.i64 0,Value.pointer (some { block:=w.heap.size,off:=0 })] 291)):=((Fr.refl [] _).alloc _).alloc _
 have m0:M ((w.alloc (Obj.cells Tryz.zeroCells289 289)).alloc (Obj.cells #[Value.string t,Value.int IntKind.i64 0,Value.bool false,Value.int IntKind.i64 0,Value.pointer (some { block:=w.heap.size,off:=0 })] 291)) (w.heap.size+1) w.heap.size t wh0 st0:=by
  have hr:=rowIs_new (w.alloc (Obj.cells Tryz.zeroCells289 289)) [Value.string t,Value.int IntKind.i64 0,Value.bool false,Value.int IntKind.i64 0,Value.pointer (some { block:=w.heap.size,off:=0 })] 291
  have hz:=frozen_all_new (w.alloc (Obj.cells Tryz.zeroCells289 289)) [Value.string t,Value.int IntKind.i64 0,Value.bool false,Value.int IntKind.i64 0,Value.pointer (some { block:=w.heap.size,off:=0 })] 291
  rw[World.size_alloc] at hr hz
  exact⟨⟨hr 0,hr 1,hr 2,hr 3,hr 4,hz 1,hz 2,hz 3⟩,(PatAt.new w).fr ((Fr.refl [] _).alloc _) (by simp),hT.fr f0 (by simp),by omega,by omega,by omega⟩
 go_enter Tryz.func156,Tryz.ntmps156
 go_wp2
 generalize (w.alloc (Obj.cells Tryz.zeroCells289 289)).alloc (Obj.cells #[Value.string t,Value.int IntKind.i64 0,Value.bool false,Value.int IntKind.i64 0,Value.pointer (some { block:=w.heap.size,off:=0 })] 291)=W0 at *
 refine wp_region_heldD (fun w1=>w1.cell? ⟨w.heap.size+1,4,none⟩=some (.pointer (some ⟨w.heap.size,0,none⟩))) hm ?_
 have hS:(fun w1:World=>w1.cell? ⟨w.heap.size+1,4,none⟩=some (.pointer (some ⟨w.heap.size,0,none⟩))) W0.drew:=m0.rd.c4
 refine wpAnyH_take (i:=0) (v:=?_) rfl (by kernel_rfl) (by kernel_rfl) (by kernel_rfl) (fun _ _ _ h=>h) (.inl ⟨rfl,fun w1 hS1=>?_⟩) hS ?_
 rotate_left
 ·have s4:w1.cell? ⟨w.heap.size+1,4,none⟩=some (.pointer (some ⟨w.heap.size,0,none⟩)):=hS1
  go_simp
  rfl
 simp only[Act.put,List.setIfInBounds_toArray,List.set_cons_zero,List.set_cons_succ]
 refine wpAnyH_take (i:=1) (v:=?_) rfl (by kernel_rfl) (by kernel_rfl) (by kernel_rfl) (fun _ _ _ h=>h) (.inl ⟨rfl,fun w1 hS1=>?_⟩) hS ?_
 rotate_left
 ·have s4:w1.cell? ⟨w.heap.size+1,4,none⟩=some (.pointer (some ⟨w.heap.size,0,none⟩)):=hS1
  go_simp
  rfl
 simp only[Act.put,List.setIfInBounds_toArray,List.set_cons_zero,List.set_cons_succ]
 refine wpAnyH_ready (rs:=[2]) (by kernel_rfl) (by simp) ?_
 refine AllReadyH.cons rfl (fun K hK=>?_) AllReadyH.nil
 go_simp
 refine (Hal.out _ _ _ (m0.heap (w':=W0.drew) rfl)).mono ?_
 rintro e Wa ⟨rfl,ma,fa⟩
 have fa:Fr [w.heap.size+1,w.heap.size] W0 Wa:=⟨fa.os,fa.tape,fa.output,fa.size,fa.block⟩
 have Fa:Fr [] w Wa:=f0.trans' fa (by simp)
 unfold pv
 clear hS
 have hS:=ma.rd.c4
 refine hK _ _ hS ?_
 clear hK K
 intro _
 refine wpAnyH_take (i:=3) (v:=?_) rfl (by kernel_rfl) (by kernel_rfl) (by kernel_rfl) (fun _ _ _ h=>h) (.inl ⟨rfl,fun w1 hS1=>?_⟩) hS ?_
 rotate_left
 ·go_simp
  rfl
 simp only[Act.put,List.setIfInBounds_toArray,List.set_cons_zero,List.set_cons_succ]
 refine wpAnyH_take (i:=4) (v:=?_) rfl (by kernel_rfl) (by kernel_rfl) (by kernel_rfl) (fun _ _ _ h=>h) (.inl ⟨rfl,fun w1 hS1=>?_⟩) hS ?_
 rotate_left
 ·go_simp
  rfl
 simp only[Act.put,List.setIfInBounds_toArray,List.set_cons_zero,List.set_cons_succ]
 have y0:Wa.cell? ⟨w.heap.size,0,none⟩=some (.bool false):=ma.pat.hw 0 (by decide)
 have z0:=ma.pat.fz 0 (by decide)
 have y1:Wa.cell? ⟨w.heap.size,1,none⟩=some (.int .u64 0):=ma.pat.hw 1 (by decide)
 have z1:=ma.pat.fz 1 (by decide)
 have y2:Wa.cell? ⟨w.heap.size,2,none⟩=some (.int .u64 0):=ma.pat.hw 2 (by decide)
 have z2:=ma.pat.fz 2 (by decide)
 have y3:Wa.cell? ⟨w.heap.size,3,none⟩=some (.bool false):=ma.pat.hw 3 (by decide)
 have z3:=ma.pat.fz 3 (by decide)
 have y4:Wa.cell? ⟨w.heap.size,4,none⟩=some (.int .u64 0):=ma.pat.hw 4 (by decide)
 have z4:=ma.pat.fz 4 (by decide)
 have y5:Wa.cell? ⟨w.heap.size,5,none⟩=some (.int .u64 0):=ma.pat.hw 5 (by decide)
 have z5:=ma.pat.fz 5 (by decide)
 have y6:Wa.cell? ⟨w.heap.size,6,none⟩=some (.bool false):=ma.pat.hw 6 (by decide)
 have z6:=ma.pat.fz 6 (by decide)
 have y7:Wa.cell? ⟨w.heap.size,7,none⟩=some (.int .u64 0):=ma.pat.hw 7 (by decide)
 have z7:=ma.pat.fz 7 (by decide)
 have y8:Wa.cell? ⟨w.heap.size,8,none⟩=some (.int .u64 0):=ma.pat.hw 8 (by decide)
 have z8:=ma.pat.fz 8 (by decide)
 have y9:Wa.cell? ⟨w.heap.size,9,none⟩=some (.bool false):=ma.pat.hw 9 (by decide)
 have z9:=ma.pat.fz 9 (by decide)
 have y10:Wa.cell? ⟨w.heap.size,10,none⟩=some (.int .u64 0):=ma.pat.hw 10 (by decide)
 have z10:=ma.pat.fz 10 (by decide)
 have y11:Wa.cell? ⟨w.heap.size,11,none⟩=some (.int .u64 0):=ma.pat.hw 11 (by decide)
 have z11:=ma.pat.fz 11 (by decide)
 refine wpAnyH_ready (rs:=[5]) (by kernel_rfl) (by simp) ?_
 refine AllReadyH.cons rfl (fun K hK=>?_) AllReadyH.nil
 go_simp
 clear y0 z0 y1 z1 y2 z2 y3 z3 y4 z4 y5 z5 y6 z6 y7 z7 y8 z8 y9 z9 y10 z10 y11 z11
 have Pb:=ma.pat.setWhole q
 have fb:=far_sets Wa w.heap.size (.bool (q 0).e) (.int .u64 (q 0).f) (.int .u64 (q 0).l) (.bool (q 1).e) (.int .u64 (q 1).f) (.int .u64 (q 1).l) (.bool (q 2).e) (.int .u64 (q 2).f) (.int .u64 (q 2).l) (.bool (q 3).e) (.int .u64 (q 3).f) (.int .u64 (q 3).l)
 have rb:=ma.rd.of_block (fb.block (w.heap.size+1) ma.rlt (by simp))
 have Fb:Fr [] w ((((((((((((Wa.setCell { block:=w.heap.size,off:=0 } (.bool (q 0).e)).setCell { block:=w.heap.size,off:=1 } (.int .u64 (q 0).f)).setCell { block:=w.heap.size,off:=2 } (.int .u64 (q 0).l)).setCell { block:=w.heap.size,off:=3 } (.bool (q 1).e)).setCell { block:=w.heap.size,off:=4 } (.int .u64 (q 1).f)).setCell { block:=w.heap.size,off:=5 } (.int .u64 (q 1).l)).setCell { block:=w.heap.size,off:=6 } (.bool (q 2).e)).setCell { block:=w.heap.size,off:=7 } (.int .u64 (q 2).f)).setCell { block:=w.heap.size,off:=8 } (.int .u64 (q 2).l)).setCell { block:=w.heap.size,off:=9 } (.bool (q 3).e)).setCell { block:=w.heap.size,off:=10 } (.int .u64 (q 3).f)).setCell { block:=w.heap.size,off:=11 } (.int .u64 (q 3).l)):=Fa.trans' fb (by simp)
 generalize ((((((((((((Wa.setCell { block:=w.heap.size,off:=0 } (.bool (q 0).e)).setCell { block:=w.heap.size,off:=1 } (.int .u64 (q 0).f)).setCell { block:=w.heap.size,off:=2 } (.int .u64 (q 0).l)).setCell { block:=w.heap.size,off:=3 } (.bool (q 1).e)).setCell { block:=w.heap.size,off:=4 } (.int .u64 (q 1).f)).setCell { block:=w.heap.size,off:=5 } (.int .u64 (q 1).l)).setCell { block:=w.heap.size,off:=6 } (.bool (q 2).e)).setCell { block:=w.heap.size,off:=7 } (.int .u64 (q 2).f)).setCell { block:=w.heap.size,off:=8 } (.int .u64 (q 2).l)).setCell { block:=w.heap.size,off:=9 } (.bool (q 3).e)).setCell { block:=w.heap.size,off:=10 } (.int .u64 (q 3).f)).setCell { block:=w.heap.size,off:=11 } (.int .u64 (q 3).l))=Wb at *
 refine hK _ _ rb.c4 ?_
 clear hK K hS
 intro _
 refine wpAnyH_done (by kernel_rfl) ?_ _
 have c2:=rb.c2
 have c1:=rb.c1
 have c4:=rb.c4
 have g2:(s1.pos:Int)≤50:=by omega
 cases hf:s1.fault
 ·rw[hf] at c2
  by_cases hlt:s1.pos<t.size
  ·have g3:decide ((s1.pos:Int)<(t.size:Int))=true:=by simp;omega
   go_wp2
   refine wp_region_lex hm (by kernel_rfl) ?_
   repeat still_step
   refine wpStill_nil ?_
   go_wp2
   go_ret3
   refine⟨Fb.drew,?_⟩
   rw[if_neg (by rw[hf];simp;omega)]
   rfl
  ·have g3:decide ((s1.pos:Int)<(t.size:Int))=false:=by simp;omega
   go_wp2
   go_ret3
   refine⟨Fb,?_⟩
   rw[if_pos (by rw[hf];simp;omega)]
   exact⟨w.heap.size,Nat.le_refl _,rfl,Pb⟩
 ·rw[hf] at c2
  go_wp2
  refine wp_region_lex hm (by kernel_rfl) ?_
  repeat still_step
  refine wpStill_nil ?_
  go_wp2
  go_ret3
  refine⟨Fb.drew,?_⟩
  rw[if_neg (by rw[hf];simp)]
  rfl
open Wire
def ipF (t:ByteArray):Bool:=decide (t.size≤50) && readOk t
theorem isPattern_any (t:ByteArray) (w:World) (hm:t.size≤maxLen) (hT:Tab w):Calls Tryz.prog 174 #[.string t] w fun e w'=>e=.returned (.bool (ipF t))∧Fr [] w w':=by
 unfold ipF
 by_cases h:t.size≤50
 ·have hr:=read_any t w h hT
  unfold ReadPost at hr
  cases hok:readOk t with
  | true=>
   simp only[hok] at hr
   have e:(decide (t.size≤50) && true)=true:=by simp[h]
   rw[e]
   clear e hok h
   go_enter Tryz.func174,Tryz.ntmps174
   go_wp2_with fail
   refine hr.mono ?_
   rintro e w1 ⟨hf,hp⟩
   rw[if_pos trivial] at hp
   obtain⟨pb,-,rfl,-⟩:=hp
   clear hr
   go_wp2
   go_ret
   exact⟨rfl,hf⟩
  | false=>
   simp only[hok] at hr
   have e:(decide (t.size≤50) && false)=false:=by simp
   rw[e]
   clear e hok h
   go_enter Tryz.func174,Tryz.ntmps174
   go_wp2_with fail
   refine hr.mono ?_
   rintro e w1 ⟨hf,hp⟩
   rw[if_neg (by simp)] at hp
   subst hp
   clear hr
   go_wp2
   go_ret
   exact⟨rfl,hf⟩
 ·have hr:=read_long t w (by omega) hm
  have e:(decide (t.size≤50) && readOk t)=false:=by simp[h]
  rw[e]
  clear e
  unfold maxLen at hm
  go_enter Tryz.func174,Tryz.ntmps174
  go_wp2_with fail
  refine hr.mono ?_
  rintro e w1 ⟨rfl,rfl⟩
  clear hr
  go_wp2
  go_ret
  exact⟨rfl,Fr.refl _ _⟩
theorem isBetween_any (a b c:Int) (w:World):Calls Tryz.prog 230 #[.int .i64 a,.int .i64 b,.int .i64 c] w fun e w'=>e=.returned (.bool (decide (b≤a) && decide (a≤c)))∧w'=w:=by
 by_cases h1:b≤a
 ·by_cases h2:a≤c
  ·go_enter Tryz.func230,Tryz.ntmps230
   go_wp2
   go_ret
   exact⟨by simp[h1,h2],rfl⟩
  ·go_enter Tryz.func230,Tryz.ntmps230
   go_wp2
   go_ret
   exact⟨by simp[h1,h2],rfl⟩
 ·go_enter Tryz.func230,Tryz.ntmps230
  go_wp2
  go_ret
  exact⟨by simp;omega,rfl⟩
theorem maxParams_any (i:Nat) (w:World):Calls Tryz.prog 208 #[.int .i64 i] w fun e w'=>e=.returned (.int .i64 (if i<3 then 0 else 8))∧w'=w:=by
 by_cases h:i<3
 ·have g:(i:Int)<3:=by omega
  rw[if_pos h]
  go_enter Tryz.func208,Tryz.ntmps208
  go_wp2
  go_ret
  exact⟨rfl,rfl⟩
 ·have g:¬ (i:Int)<3:=by omega
  rw[if_neg h]
  go_enter Tryz.func208,Tryz.ntmps208
  go_wp2
  go_ret
  exact⟨rfl,rfl⟩
theorem all_take {α:Type} (f:α→Bool) (L:List α) (k:Nat) (h:k<L.length) (ha:(L.take k).all f=true):(L.take (k+1)).all f=f L[k]:=by
 rw[List.take_succ_eq_append_getElem h,List.all_append,ha];simp
theorem all_stop {α:Type} (f:α→Bool) (L:List α) (k:Nat) (h:k<L.length) (ha:f L[k]=false):L.all f=false:=by
 rw[List.all_eq_false]
 exact⟨L[k],List.getElem_mem h,by simp[ha]⟩
def okTexts (L:List ByteArray):Bool:=decide (L.length≤1000) && L.all (fun s=>decide (s.size≤100))
def okPats (L:List ByteArray):Bool:=decide (L.length≤1000) && L.all ipF
def okFns (L:List Wire.Fn):Bool:=decide (3≤L.length) && decide (L.length≤1000) && lawfulAll L 0
theorem areTexts_any (tv:Value) (L:List ByteArray) (w:World) (hn:L.length≤maxLen) (hs:∀ s ∈ L,s.size≤maxLen) (hL:StrsIn w tv L) :
  Calls Tryz.prog 228 #[tv] w fun e w'=>e=.returned (.bool (okTexts L))∧w'=w:=by
 obtain⟨a0,cap,g,off,rfl,hcap,ha,hx⟩:=hL
 unfold okTexts
 by_cases h1:L.length≤1000
 ·have g1:¬ (1000:Int)<L.length:=by omega
  have HA:Hid (∀ k (hk:k<L.length),(L.take k).all (fun s=>decide (s.size≤100))=true→(L.take (k+1)).all (fun s=>decide (s.size≤100))=decide (L[k].size≤100)):=fun k hk ha=>all_take _ L k hk ha
  have HB:Hid (∀ k (hk:k<L.length),decide (L[k].size≤100)=false→L.all (fun s=>decide (s.size≤100))=false):=fun k hk ha=>all_stop _ L k hk ha
  rw[decide_eq_true h1,Bool.true_and]
  obtain⟨r,hr⟩:∃ r,L.all (fun s=>decide (s.size≤100))=r:=⟨_,rfl⟩
  rw[hr]
  have Hr:Hid _:=hr
  have Hx:Hid _:=hx
  have Ha:Hid _:=ha
  have Hs:Hid _:=hs
  clear hr hx ha hs
  go_enter Tryz.func228,Tryz.ntmps228
  go_wp2
  go_loop [10] (fun i=>∃ k:Nat,k≤L.length∧i=.int .i64 k∧Hid ((L.take k).all (fun s=>decide (s.size≤100))=true)) (fun i=>L.length-(intOf i).toNat)
  case atStart=>exact⟨0,by omega,rfl,by show _=_;simp⟩
  case round=>
   obtain⟨k,hk,rfl,hall⟩:=hrel
   by_cases hlt:k<L.length
   ·obtain⟨rfl,hg⟩:=Ha.out (by omega)
    have g2:(k:Int)<L.length:=by omega
    have c1:=Hx.out k _ (List.getElem?_eq_getElem hlt)
    have e1:=HA.out k hlt hall.out
    have e2:=HB.out k hlt
    have e3:=Hs.out L[k] (List.getElem_mem hlt)
    obtain⟨s,hsk⟩:∃ s,L[k]=s:=⟨_,rfl⟩
    rw[hsk] at c1 e1 e2 e3
    have E1:Hid _:=e1
    have E2:Hid _:=e2
    unfold maxLen at e3
    clear e1 e2
    by_cases h2:s.size≤100
    ·have g3:¬ (100:Int)<s.size:=by omega
     go_wp2
     refine⟨⟨k+1,by omega,by go_num,?_⟩,by simp[intOf];omega⟩
     show _=_
     rw[E1.out];simp[h2]
    ·have g3:(100:Int)<s.size:=by omega
     have e4:r=false:=by rw[← Hr.out];exact E2.out (by simp;omega)
     subst e4
     go_wp2
     go_ret
     exact⟨rfl,rfl⟩
   ·obtain rfl:k=L.length:=by omega
    have g2:¬ ((L.length:Int)<L.length):=by omega
    have e4:r=true:=by rw[← Hr.out,← hall.out,List.take_length]
    subst e4
    go_wp2
    go_ret
    exact⟨rfl,rfl⟩
 ·have g1:(1000:Int)<L.length:=by omega
  rw[decide_eq_false h1,Bool.false_and]
  unfold maxLen at hn
  go_enter Tryz.func228,Tryz.ntmps228
  go_wp2
  go_ret
  exact⟨rfl,rfl⟩
theorem arePatterns_any (tv:Value) (L:List ByteArray) (w:World) (hn:L.length≤maxLen) (hs:∀ s ∈ L,s.size≤maxLen) (hL:StrsIn w tv L) (hT:Tab w) :
  Calls Tryz.prog 229 #[tv] w fun e w'=>e=.returned (.bool (okPats L))∧Fr [] w w':=by
 obtain⟨a0,cap,g,off,rfl,hcap,ha,hx⟩:=hL
 unfold okPats
 by_cases h1:L.length≤1000
 ·have g1:¬ (1000:Int)<L.length:=by omega
  have HA:Hid (∀ k (hk:k<L.length),(L.take k).all ipF=true→(L.take (k+1)).all ipF=ipF L[k]):=fun k hk ha=>all_take _ L k hk ha
  have HB:Hid (∀ k (hk:k<L.length),ipF L[k]=false→L.all ipF=false):=fun k hk ha=>all_stop _ L k hk ha
  rw[decide_eq_true h1,Bool.true_and]
  obtain⟨r,hr⟩:∃ r,L.all ipF=r:=⟨_,rfl⟩
  rw[hr]
  have Hr:Hid _:=hr
  have Hx:Hid _:=hx
  have Ha:Hid _:=ha
  have Hs:Hid _:=hs
  clear hr hx ha hs
  go_enter Tryz.func229,Tryz.ntmps229
  go_wp2
  go_loopw [10] (fun i wr=>∃ k:Nat,k≤L.length∧i=.int .i64 k∧Hid ((L.take k).all ipF=true)∧Fr [] w wr) (fun i _=>L.length-(intOf i).toNat)
  case atStart=>exact⟨0,by omega,rfl,by show _=_;simp,Fr.refl _ _⟩
  case round=>
   obtain⟨k,hk,rfl,hall,hF⟩:=hrel
   by_cases hlt:k<L.length
   ·obtain⟨rfl,hg⟩:=Ha.out (by omega)
    have g2:(k:Int)<L.length:=by omega
    have c1:=(hF.cell (p:=⟨g,off+k,none⟩) hg (by simp)).trans (Hx.out k _ (List.getElem?_eq_getElem hlt))
    have e1:=HA.out k hlt hall.out
    have e2:=HB.out k hlt
    have e3:=Hs.out L[k] (List.getElem_mem hlt)
    obtain⟨s,hsk⟩:∃ s,L[k]=s:=⟨_,rfl⟩
    rw[hsk] at c1 e1 e2 e3
    have E1:Hid _:=e1
    have E2:Hid _:=e2
    have hip:=isPattern_any s wr e3 (hT.fr hF (by simp))
    clear e1 e2
    cases hs:ipF s with
    | true=>
     rw[hs] at hip
     have E3:Hid _:=hs
     clear hs
     go_wp2_with fail
     refine hip.mono ?_
     rintro e w1 ⟨rfl,hf⟩
     clear hip
     go_wp2
     exact⟨⟨k+1,by omega,by go_num,E1.out.trans E3.out,hF.trans hf⟩,by simp[intOf];omega⟩
    | false=>
     rw[hs] at hip
     have e4:r=false:=by rw[← Hr.out];exact E2.out hs
     subst e4
     clear hs
     go_wp2_with fail
     refine hip.mono ?_
     rintro e w1 ⟨rfl,hf⟩
     clear hip
     go_wp2
     go_ret
     exact⟨rfl,hF.trans hf⟩
   ·obtain rfl:k=L.length:=by omega
    have g2:¬ ((L.length:Int)<L.length):=by omega
    have e4:r=true:=by rw[← Hr.out,← hall.out,List.take_length]
    subst e4
    go_wp2
    go_ret
    exact⟨rfl,hF⟩
 ·have g1:(1000:Int)<L.length:=by omega
  rw[decide_eq_false h1,Bool.false_and]
  unfold maxLen at hn
  go_enter Tryz.func229,Tryz.ntmps229
  go_wp2
  go_ret
  exact⟨rfl,Fr.refl _ _⟩
end Go.Proofs.YtclkgoigmgkffaaGreatDoor
