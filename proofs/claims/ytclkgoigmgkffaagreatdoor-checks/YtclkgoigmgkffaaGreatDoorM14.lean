/-
  Texts Wu Wv Mg Mh Mi Mj Na.
-/
import Derived.Laws.Concat
import Derived.Lib.SlBytesConst
import Derived.Test.YtclkgoigmgkffaaGreatDoorMA
import Derived.Test.YtclkgoigmgkffaaGreatDoorM13
import Derived.Test.YtclkgoigmgkffaaGreatDoorM04
set_option linter.unusedSimpArgs false
set_option linter.unusedVariables false
set_option maxRecDepth 100000
set_option maxHeartbeats 40000000
namespace Go.Proofs.YtclkgoigmgkffaaGreatDoor
open Go.RowKit
structure AltI (w:World) (r pb:Nat) (t:ByteArray) (wh:Nat→Value) (ob:Nat) (X:Piece × St) (m:Nat) (q:Piece) (s1:St) (W:World):Prop where
 wk:Work w r pb t wh ob q s1 W
 eq:Hid (altLF t m q s1=X)
 inv:Inv t s1
 pb:PB s1.atoms q
 fuel:s1.fault=true∨6*(t.size-s1.pos)+5≤m
theorem altL_stop {t:ByteArray}{m:Nat}{q:Piece}{s:St} (h:peekF t s≠124):altLF t m q s=(q,s):=by
 cases m with
 | zero=>rw[altLF_z]
 | succ m=>rw[altLF_s,if_neg h]
theorem alt_said (n:Nat)(hA:∀ m,m≤n→SaidSeq m):SaidAlt (n+1):=by
 intro w r pb t wh s h hi hs hn
 have t6:=h.tab.lt
 have hm:Tryz.prog.follows Departure.mixedOrders=true:=by kernel_rfl
 have hrl:=h.rlt
 have hpl:=h.pat.lt
 rw[altF_s]
 have gv:=(givesAll t n).seq s hi
 have hsq:=fun (W:World) (hW:M W r pb t wh s)=>hA n (Nat.le_refl _) W r pb t wh s hW hi hs (by omega)
 unfold Post at hsq ⊢
 obtain⟨q0,hq0⟩:∃ q,(seqF t n s).1=q:=⟨_,rfl⟩
 obtain⟨s0,hs0⟩:∃ q,(seqF t n s).2=q:=⟨_,rfl⟩
 have gi:=gv.inv
 have gp:=gv.pb
 have gl:=gv.le
 simp only[hq0,hs0] at hsq gi gp gl ⊢
 clear hq0 hs0 gv
 obtain⟨X,hX⟩:∃ X,altLF t n q0 s0=X:=⟨_,rfl⟩
 rw[hX]
 have HX:Hid (altLF t n q0 s0=X):=hX
 have Hsq:=(show Hid _ from hsq)
 have HA:=(show Hid _ from hA)
 clear hX hsq hA
 have f0:Fr [] w (w.alloc (Obj.cells #[.bool false,.int .u64 0,.int .u64 0,.bool false,.int .u64 0,.int .u64 0,.bool false,.int .u64 0,.int .u64 0,.bool false,.int .u64 0,.int .u64 0] 284)):=(Fr.refl [] _).alloc _
 have m0:=h.fr f0 (by simp) (by simp) (by simp)
 have R0:=Res.new w
 go_enter Tryz.func192,Tryz.ntmps192
 go_wp2_with fail
 refine (Hsq.out _ m0).mono ?_
 rintro e w1 ⟨rfl,m1,f1⟩
 have R1:=R0.fr f1 (by simp;omega)
 have F1:Fr [r,pb] w w1:=(f0.mono (by simp)).trans f1
 have f2:Fr [] w1 (w1.alloc (Obj.cells #[.bool (q0 0).e,.int .u64 (q0 0).f,.int .u64 (q0 0).l,.bool (q0 1).e,.int .u64 (q0 1).f,.int .u64 (q0 1).l,.bool (q0 2).e,.int .u64 (q0 2).f,.int .u64 (q0 2).l,.bool (q0 3).e,.int .u64 (q0 3).f,.int .u64 (q0 3).l] 284)):=(Fr.refl [] _).alloc _
 have K0:Work w r pb t wh w1.heap.size q0 s0 (w1.alloc (Obj.cells #[.bool (q0 0).e,.int .u64 (q0 0).f,.int .u64 (q0 0).l,.bool (q0 1).e,.int .u64 (q0 1).f,.int .u64 (q0 1).l,.bool (q0 2).e,.int .u64 (q0 2).f,.int .u64 (q0 2).l,.bool (q0 3).e,.int .u64 (q0 3).f,.int .u64 (q0 3).l] 284)):=
  ⟨m1.fr f2 (by simp) (by simp) (by simp),Out.new w1 q0,R1.fr f2 (by simp),F1.trans (f2.mono (by simp)),R1.lt,hrl,hpl,t6⟩
 clear m0 R0 f0 m1 R1 F1 f1 f2
 unfold pv
 go_wp2
 generalize w1.heap.size=ob at *
 generalize w1.alloc (Obj.cells #[.bool (q0 0).e,.int .u64 (q0 0).f,.int .u64 (q0 0).l,.bool (q0 1).e,.int .u64 (q0 1).f,.int .u64 (q0 1).l,.bool (q0 2).e,.int .u64 (q0 2).f,.int .u64 (q0 2).l,.bool (q0 3).e,.int .u64 (q0 3).f,.int .u64 (q0 3).l] 284)=W2 at *
 go_loopg [6] n (fun m _ wr=>m≤n∧∃ q s1,AltI w r pb t wh ob X m q s1 wr)
 case atStart=>exact⟨Nat.le_refl _,q0,s0,K0,HX,gi,gp,.inr (by omega)⟩
 case round=>
  obtain⟨hgkn,q,s1,J⟩:=hrel
  clear K0 HX Hsq
  have hpos:=J.inv.pos
  have hat:=J.inv.at_
  have hsk:=skip_any 124 J.wk.m hs (by omega)
  unfold skipF at hsk
  by_cases hc:peekF t s1=124
  ·rw[if_pos hc] at hsk
   have hne:peekF t s1≠-1:=by rw[hc];decide
   obtain⟨hnf,hp1⟩:=peek_ne hne
   have hfu:6*(t.size-s1.pos)+5≤gk:=J.fuel.elim (fun e=>by rw[hnf] at e;cases e) id
   obtain⟨m',rfl⟩:∃ m',gk=m'+1:=⟨gk-1,by omega⟩
   have heq:=J.eq.out
   rw[altLF_s,if_pos hc] at heq
   have hin:=J.inv.adv hne
   have gv:=(givesAll t m').seq _ hin
   have hpa:=fun (W:World) (hW:M W r pb t wh (advF s1))=>HA.out m' (by omega) W r pb t wh (advF s1) hW hin hs (by simp[advF];omega)
   unfold Post at hpa
   have gi2:=gv.inv
   have gb:=gv.pb
   have gal:=gv.al
   have gl2:=gv.le
   obtain⟨q1,hq1⟩:∃ q,(seqF t m' (advF s1)).1=q:=⟨_,rfl⟩
   obtain⟨s2,hs2⟩:∃ q,(seqF t m' (advF s1)).2=q:=⟨_,rfl⟩
   simp only[hq1,hs2] at hpa gi2 gb gal gl2 heq
   clear hq1 hs2 gv
   have ga2:s1.atoms≤s2.atoms:=gal
   have gl3:s1.pos+1≤s2.pos:=gl2
   have Heq:Hid _:=heq
   have Hpa:Hid _:=hpa
   clear heq hpa gal gl2 hc hne
   have gi_at:=gi2.at_
   have gi_pos:=gi2.pos
   go_wp2_with fail
   refine hsk.mono ?_
   rintro e Wa ⟨rfl,ma,fa⟩
   have K0:=J.wk.call ma (fa.mono (by simp))
   go_wp2
   refine wp_region_heldD (fun _=>True) hm ?_
   have hS:(fun _:World=>True) Wa.drew:=trivial
   refine tkH (i:=1) (v:=?_) rfl (.inl ⟨rfl,fun w1 hS1=>?_⟩) hS ?_
   rotate_left
   ·go_simp
    rfl
   simp only[Act.put,Z1,Z2,Z3]
   refine wpAnyH_ready (rs:=[0,2]) (by kernel_rfl) (by simp) ?_
   refine AllReadyH.cons rfl (fun K hK=>?_) ?_
   ·obtain⟨x0,x1,x2,x3,x4,x5,x6,x7,x8,x9,x10,x11⟩:=K0.out.al
    go_simp
    clear x0 x1 x2 x3 x4 x5 x6 x7 x8 x9 x10 x11
    refine hK _ _ hS ?_
    clear hK K
    intro _
    refine rdH (r:=2) ?_
    refine AllReadyH.cons rfl (fun K hK=>?_) AllReadyH.nil
    go_simp
    refine (Hpa.out _ (K0.m.heap (w':=Wa.drew) rfl)).mono ?_
    rintro e V1 ⟨rfl,mv,fv⟩
    unfold pv
    have fv:Fr [r,pb] Wa V1:=⟨fv.os,fv.tape,fv.output,fv.size,fv.block⟩
    have K1:=K0.call mv fv
    clear hS
    have hS:=trivial
    refine hK _ _ hS ?_
    clear hK K
    intro _
    refine rdH (r:=3) ?_
    refine AllReadyH.cons rfl (fun K hK=>?_) AllReadyH.nil
    go_simp
    have hei:=either_any q q1 (J.pb.ok (by omega)) (gb.ok (by omega)) V1
    unfold pv at hei
    refine hei.mono ?_
    rintro e V2 ⟨rfl,fu⟩
    have K2:=K1.kept fu
    clear hei
    clear hS
    have hS:=trivial
    refine hK _ _ hS ?_
    clear hK K
    intro _
    obtain⟨x0,x1,x2,x3,x4,x5,x6,x7,x8,x9,x10,x11⟩:=K2.out.al
    obtain⟨xz0,xz1,xz2,xz3,xz4,xz5,xz6,xz7,xz8,xz9,xz10,xz11⟩:=K2.out.az
    refine rdH (r:=4) ?_
    refine AllReadyH.cons rfl (fun K hK=>?_) AllReadyH.nil
    go_simp
    clear x0 x1 x2 x3 x4 x5 x6 x7 x8 x9 x10 x11 xz0 xz1 xz2 xz3 xz4 xz5 xz6 xz7 xz8 xz9 xz10 xz11
    have K3:=K2.set (eitherF q q1)
    generalize ((((((((((((V2.setCell { block:=ob,off:=0 } (.bool ((eitherF q q1) 0).e)).setCell { block:=ob,off:=1 } (.int .u64 ((eitherF q q1) 0).f)).setCell { block:=ob,off:=2 } (.int .u64 ((eitherF q q1) 0).l)).setCell { block:=ob,off:=3 } (.bool ((eitherF q q1) 1).e)).setCell { block:=ob,off:=4 } (.int .u64 ((eitherF q q1) 1).f)).setCell { block:=ob,off:=5 } (.int .u64 ((eitherF q q1) 1).l)).setCell { block:=ob,off:=6 } (.bool ((eitherF q q1) 2).e)).setCell { block:=ob,off:=7 } (.int .u64 ((eitherF q q1) 2).f)).setCell { block:=ob,off:=8 } (.int .u64 ((eitherF q q1) 2).l)).setCell { block:=ob,off:=9 } (.bool ((eitherF q q1) 3).e)).setCell { block:=ob,off:=10 } (.int .u64 ((eitherF q q1) 3).f)).setCell { block:=ob,off:=11 } (.int .u64 ((eitherF q q1) 3).l))=V3 at *
    refine hK _ _ (trivial) ?_
    clear hK K
    intro _
    refine wpAnyH_done (by kernel_rfl) ?_ _
    go_wp2
    go_roundg m'
    case measure=>omega
    case rel=>exact⟨by omega,eitherF q q1,_,K3,Heq.out,gi2,(J.pb.mono ga2).either gb,.inr (by omega)⟩
   ·refine AllReadyH.cons rfl (fun K hK=>?_) AllReadyH.nil
    go_simp
    refine (Hpa.out _ (K0.m.heap (w':=Wa.drew) rfl)).mono ?_
    rintro e V1 ⟨rfl,mv,fv⟩
    unfold pv
    have fv:Fr [r,pb] Wa V1:=⟨fv.os,fv.tape,fv.output,fv.size,fv.block⟩
    have K1:=K0.call mv fv
    clear hS
    have hS:=trivial
    refine hK _ _ hS ?_
    clear hK K
    intro _
    obtain⟨x0,x1,x2,x3,x4,x5,x6,x7,x8,x9,x10,x11⟩:=K1.out.al
    refine rdH (r:=0) ?_
    refine AllReadyH.cons rfl (fun K hK=>?_) AllReadyH.nil
    go_simp
    clear x0 x1 x2 x3 x4 x5 x6 x7 x8 x9 x10 x11
    refine hK _ _ hS ?_
    clear hK K
    intro _
    refine rdH (r:=3) ?_
    refine AllReadyH.cons rfl (fun K hK=>?_) AllReadyH.nil
    go_simp
    have hei:=either_any q q1 (J.pb.ok (by omega)) (gb.ok (by omega)) V1
    unfold pv at hei
    refine hei.mono ?_
    rintro e V2 ⟨rfl,fu⟩
    have K2:=K1.kept fu
    clear hei
    clear hS
    have hS:=trivial
    refine hK _ _ hS ?_
    clear hK K
    intro _
    obtain⟨x0,x1,x2,x3,x4,x5,x6,x7,x8,x9,x10,x11⟩:=K2.out.al
    obtain⟨xz0,xz1,xz2,xz3,xz4,xz5,xz6,xz7,xz8,xz9,xz10,xz11⟩:=K2.out.az
    refine rdH (r:=4) ?_
    refine AllReadyH.cons rfl (fun K hK=>?_) AllReadyH.nil
    go_simp
    clear x0 x1 x2 x3 x4 x5 x6 x7 x8 x9 x10 x11 xz0 xz1 xz2 xz3 xz4 xz5 xz6 xz7 xz8 xz9 xz10 xz11
    have K3:=K2.set (eitherF q q1)
    generalize ((((((((((((V2.setCell { block:=ob,off:=0 } (.bool ((eitherF q q1) 0).e)).setCell { block:=ob,off:=1 } (.int .u64 ((eitherF q q1) 0).f)).setCell { block:=ob,off:=2 } (.int .u64 ((eitherF q q1) 0).l)).setCell { block:=ob,off:=3 } (.bool ((eitherF q q1) 1).e)).setCell { block:=ob,off:=4 } (.int .u64 ((eitherF q q1) 1).f)).setCell { block:=ob,off:=5 } (.int .u64 ((eitherF q q1) 1).l)).setCell { block:=ob,off:=6 } (.bool ((eitherF q q1) 2).e)).setCell { block:=ob,off:=7 } (.int .u64 ((eitherF q q1) 2).f)).setCell { block:=ob,off:=8 } (.int .u64 ((eitherF q q1) 2).l)).setCell { block:=ob,off:=9 } (.bool ((eitherF q q1) 3).e)).setCell { block:=ob,off:=10 } (.int .u64 ((eitherF q q1) 3).f)).setCell { block:=ob,off:=11 } (.int .u64 ((eitherF q q1) 3).l))=V3 at *
    refine hK _ _ (trivial) ?_
    clear hK K
    intro _
    refine wpAnyH_done (by kernel_rfl) ?_ _
    go_wp2
    go_roundg m'
    case measure=>omega
    case rel=>exact⟨by omega,eitherF q q1,_,K3,Heq.out,gi2,(J.pb.mono ga2).either gb,.inr (by omega)⟩
  ·rw[if_neg hc] at hsk
   have Heq:Hid ((q,s1)=X):=(altL_stop hc).symm.trans J.eq.out
   clear hc
   go_wp2_with fail
   refine hsk.mono ?_
   rintro e Wa ⟨rfl,ma,fa⟩
   have K0:=J.wk.call ma (fa.mono (by simp))
   obtain⟨x0,x1,x2,x3,x4,x5,x6,x7,x8,x9,x10,x11⟩:=K0.out.al
   obtain⟨y0,y1,y2,y3,y4,y5,y6,y7,y8,y9,y10,y11⟩:=K0.res.al
   obtain⟨z0,z1,z2,z3,z4,z5,z6,z7,z8,z9,z10,z11⟩:=K0.res.az
   go_wp2
   have hlo:=K0.lo
   have hfr:=far_sets Wa w.heap.size (.bool (q 0).e) (.int .u64 (q 0).f) (.int .u64 (q 0).l) (.bool (q 1).e) (.int .u64 (q 1).f) (.int .u64 (q 1).l) (.bool (q 2).e) (.int .u64 (q 2).f) (.int .u64 (q 2).l) (.bool (q 3).e) (.int .u64 (q 3).f) (.int .u64 (q 3).l)
   have hX:=Heq.out
   refine bodyPost_ret (v:=pv q) (by simp[results,Tryz.results192,go_sem,pv,y0,y1,y2,y3,y4,y5,y6,y7,y8,y9,y10,y11]) rfl ⟨by rw[← hX],?_,?_⟩
   ·rw[← hX];exact K0.m.fr hfr (by simp;omega) (by simp;omega) (by simp;omega)
   ·exact K0.fr.trans' hfr (by simp)
theorem said_all:∀ n,SaidAlt n∧SaidSeq n∧SaidPart n∧SaidAtom n:=by
 intro n
 induction n using Nat.strongRecOn with
 | _ n ih=>
  cases n with
  | zero=>
   refine⟨?_,?_,?_,?_⟩
   ·intro w r pb t wh s _ _ _ h;omega
   ·intro w r pb t wh s _ _ _ h;omega
   ·intro w r pb t wh s _ _ _ _ h;omega
   ·intro w r pb t wh s _ _ _ _ h;omega
  | succ n=>
   exact⟨alt_said n (fun m hm=>(ih m (by omega)).2.1),seq_said n (fun m hm=>(ih m (by omega)).2.2.1),part_said n (ih n (by omega)).2.2.2,atom_said n (ih n (by omega)).1⟩
def st0:St:=⟨0,false,0,fun _=>0,fun _ _=>0⟩
def readF (t:ByteArray):Piece × St:=altF t 400 st0
def readOk (t:ByteArray):Bool:=!(readF t).2.fault && decide (t.size≤(readF t).2.pos)
theorem st0_inv (t:ByteArray):Inv t st0:=⟨Nat.zero_le _,Nat.le_refl _,fun _=>Nat.one_pos,fun _ _=>Nat.one_pos⟩
def whF (q:Piece):Nat→Value:=fun i=>([.bool (q 0).e,.int .u64 (q 0).f,.int .u64 (q 0).l,.bool (q 1).e,.int .u64 (q 1).f,.int .u64 (q 1).l,.bool (q 2).e,.int .u64 (q 2).f,.int .u64 (q 2).l,.bool (q 3).e,.int .u64 (q 3).f,.int .u64 (q 3).l]:List Value).getD i (.bool false)
def wh0:Nat→Value:=fun i=>([Value.bool false,Value.int .u64 0,Value.int .u64 0,Value.bool false,Value.int .u64 0,Value.int .u64 0,Value.bool false,Value.int .u64 0,Value.int .u64 0,Value.bool false,Value.int .u64 0,Value.int .u64 0]:List Value).getD i (.bool false)
theorem read_long (t:ByteArray)(w:World)(h:50<t.size)(hs:t.size≤maxLen) :
  Calls Tryz.prog 156 #[.string t] w fun e w'=>e=.returned (.tuple #[.pointer none,.int .i64 0,.int .i64 1])∧w'=w:=by
 unfold maxLen at hs
 have g1:(50:Int)<t.size:=by omega
 go_enter Tryz.func156,Tryz.ntmps156
 go_wp2
 go_ret3
 exact⟨rfl,rfl⟩
theorem zero62:Tryz.zeroCells289=(([Value.bool false,Value.int .u64 0,Value.int .u64 0,Value.bool false,Value.int .u64 0,Value.int .u64 0,Value.bool false,Value.int .u64 0,Value.int .u64 0,Value.bool false,Value.int .u64 0,Value.int .u64 0]:List Value)++List.replicate 456 (Value.int .u64 0)).toArray:=by kernel_rfl
theorem PatAt.new (W:World):PatAt (W.alloc (.cells Tryz.zeroCells289 289)) W.heap.size wh0 (fun _=>0) (fun _ _=>0):=by
 have h:=wan W (.cells Tryz.zeroCells289 289)
 rw[zero62] at h ⊢
 have hc:∀ i,(W.alloc (.cells (([Value.bool false,Value.int .u64 0,Value.int .u64 0,Value.bool false,Value.int .u64 0,Value.int .u64 0,Value.bool false,Value.int .u64 0,Value.int .u64 0,Value.bool false,Value.int .u64 0,Value.int .u64 0]:List Value)++List.replicate 456 (Value.int .u64 0)).toArray 289)).cell? ⟨W.heap.size,i,none⟩=(([Value.bool false,Value.int .u64 0,Value.int .u64 0,Value.bool false,Value.int .u64 0,Value.int .u64 0,Value.bool false,Value.int .u64 0,Value.int .u64 0,Value.bool false,Value.int .u64 0,Value.int .u64 0]:List Value)++List.replicate 456 (Value.int .u64 0))[i]?:=fun i=>by
  unfold World.cell?;rw[h];exact List.getElem?_toArray
 have hz:∀ i,12≤i→i<468→(([Value.bool false,Value.int .u64 0,Value.int .u64 0,Value.bool false,Value.int .u64 0,Value.int .u64 0,Value.bool false,Value.int .u64 0,Value.int .u64 0,Value.bool false,Value.int .u64 0,Value.int .u64 0]:List Value)++List.replicate 456 (Value.int .u64 0))[i]?=some (Value.int .u64 0):=fun i h1 h2=>by
  rw[List.getElem?_append_right (by simpa using h1),List.getElem?_replicate,if_pos (by simp;omega)]
 refine⟨fun i hi=>?_,fun b hb=>?_,fun s a hs ha=>?_,fun i hi=>?_⟩
 ·rw[hc,List.getElem?_append_left (by simpa using hi)]
  unfold wh0
  rw[List.getD_eq_getElem?_getD,Lge (by simpa using hi)]
  rfl
 ·rw[hc,hz _ (by omega) (by omega)];rfl
 ·rw[hc,hz _ (by omega) (by omega)];rfl
 ·unfold World.frozen?;rw[h];simp
theorem PatAt.setWhole {w:World}{pb:Nat}{wh:Nat→Value}{tk:Nat→Nat}{fo:Nat→Nat→Nat} (h:PatAt w pb wh tk fo) (q:Piece):PatAt ((((((((((((w.setCell { block:=pb,off:=0 } (.bool (q 0).e)).setCell { block:=pb,off:=1 } (.int .u64 (q 0).f)).setCell { block:=pb,off:=2 } (.int .u64 (q 0).l)).setCell { block:=pb,off:=3 } (.bool (q 1).e)).setCell { block:=pb,off:=4 } (.int .u64 (q 1).f)).setCell { block:=pb,off:=5 } (.int .u64 (q 1).l)).setCell { block:=pb,off:=6 } (.bool (q 2).e)).setCell { block:=pb,off:=7 } (.int .u64 (q 2).f)).setCell { block:=pb,off:=8 } (.int .u64 (q 2).l)).setCell { block:=pb,off:=9 } (.bool (q 3).e)).setCell { block:=pb,off:=10 } (.int .u64 (q 3).f)).setCell { block:=pb,off:=11 } (.int .u64 (q 3).l)) pb (whF q) tk fo:=by
 have hr:∀ i,12≤i→((((((((((((w.setCell { block:=pb,off:=0 } (.bool (q 0).e)).setCell { block:=pb,off:=1 } (.int .u64 (q 0).f)).setCell { block:=pb,off:=2 } (.int .u64 (q 0).l)).setCell { block:=pb,off:=3 } (.bool (q 1).e)).setCell { block:=pb,off:=4 } (.int .u64 (q 1).f)).setCell { block:=pb,off:=5 } (.int .u64 (q 1).l)).setCell { block:=pb,off:=6 } (.bool (q 2).e)).setCell { block:=pb,off:=7 } (.int .u64 (q 2).f)).setCell { block:=pb,off:=8 } (.int .u64 (q 2).l)).setCell { block:=pb,off:=9 } (.bool (q 3).e)).setCell { block:=pb,off:=10 } (.int .u64 (q 3).f)).setCell { block:=pb,off:=11 } (.int .u64 (q 3).l)).cell? ⟨pb,i,none⟩=w.cell? ⟨pb,i,none⟩:=fun i hi=>by
  rw[setCell_off (by omega)]
  rw[setCell_off (by omega)]
  rw[setCell_off (by omega)]
  rw[setCell_off (by omega)]
  rw[setCell_off (by omega)]
  rw[setCell_off (by omega)]
  rw[setCell_off (by omega)]
  rw[setCell_off (by omega)]
  rw[setCell_off (by omega)]
  rw[setCell_off (by omega)]
  rw[setCell_off (by omega)]
  rw[setCell_off (by omega)]
 refine⟨fun i hi=>?_,fun b hb=>(hr _ (by omega)).trans (h.ht b hb),fun s a hs ha=>(hr _ (by omega)).trans (h.hf s a hs ha),fun i hi=>(frozen_sets w pb (.bool (q 0).e) (.int .u64 (q 0).f) (.int .u64 (q 0).l) (.bool (q 1).e) (.int .u64 (q 1).f) (.int .u64 (q 1).l) (.bool (q 2).e) (.int .u64 (q 2).f) (.int .u64 (q 2).l) (.bool (q 3).e) (.int .u64 (q 3).f) (.int .u64 (q 3).l) _).trans (h.fz i hi)⟩
 have hex:∀ j,j<12→(w.cell? ⟨pb,j,none⟩).isSome=true:=fun j hj=>by rw[h.hw j hj];rfl
 obtain rfl | rfl | rfl | rfl | rfl | rfl | rfl | rfl | rfl | rfl | rfl | rfl:i=0∨i=1∨i=2∨i=3∨i=4∨i=5∨i=6∨i=7∨i=8∨i=9∨i=10∨i=11:=by omega
 all_goals
  repeat rw[setCell_off (by decide)]
  rw[World.cell?_setCell_same' _ _ _ ?_]
  ·rfl
  ·repeat rw[setCell_off (by decide)]
   exact hex _ (by decide)
def ReadPost (w:World) (ok:Bool) (q:Piece) (s:St) (e:Ending) (w':World):Prop:=Fr [] w w' ∧
 if ok=true then ∃ pb,w.heap.size≤pb∧e=.returned (.tuple #[.pointer (some ⟨pb,0,none⟩),.int .i64 0,.int .i64 0])∧PatAt w' pb (whF q) s.tk s.fo
 else e=.returned (.tuple #[.pointer none,.int .i64 s.pos,.int .i64 2])
theorem read_any (t:ByteArray)(w:World)(hs:t.size≤50)(hT:Tab w) :
  Calls Tryz.prog 156 #[.string t] w (ReadPost w (readOk t) (readF t).1 (readF t).2):=by
 have hm:Tryz.prog.follows Departure.mixedOrders=true:=by kernel_rfl
 have g1:¬ ((50:Int)<t.size):=by omega
 have hw0:=hT.lt
 have hal:=fun (W:World) (r pb:Nat) (hW:M W r pb t wh0 st0)=>(said_all 400).1 W r pb t wh0 st0 hW (st0_inv t) hs (by simp[st0];omega)
 unfold Post at hal
 have gv:=(givesAll t 400).alt st0 (st0_inv t)
 have gpos:=gv.inv.pos
 unfold readOk
 change ∀ (W:World) (r pb:Nat),M W r pb t wh0 st0→Calls Tryz.prog 192 _ W fun e w'=>e=Ending.returned (pv (readF t).1)∧M w' r pb t wh0 (readF t).2∧Fr [r,pb] W w' at hal
 change (readF t).2.pos≤t.size at gpos
 obtain⟨q,hq⟩:∃ q,(readF t).1=q:=⟨_,rfl⟩
 obtain⟨s1,hs1⟩:∃ q,(readF t).2=q:=⟨_,rfl⟩
 simp only[hq,hs1] at hal gpos ⊢
 clear hq hs1 gv
 have Hal:Hid _:=hal
 clear hal
 have f0:Fr [] w ((w.alloc (Obj.cells Tryz.zeroCells289 289)).alloc (Obj.cells #[Value.string t,Value.int IntKind.i64 0,Value.bool false,Value.int IntKind.i64 0,Value.pointer (some { block:=w.heap.size,off:=0 })] 291)):=((Fr.refl [] _).alloc _).alloc _
 have m0:M ((w.alloc (Obj.cells Tryz.zeroCells289 289)).alloc (Obj.cells #[Value.string t,Value.int IntKind.i64 0,Value.bool false,Value.int IntKind.i64 0,Value.pointer (some { block:=w.heap.size,off:=0 })] 291)) (w.heap.size+1) w.heap.size t wh0 st0:=by
  have hr:=rowIs_new (w.alloc (Obj.cells Tryz.zeroCells289 289)) [Value.string t,Value.int IntKind.i64 0,Value.bool false,Value.int IntKind.i64 0,Value.pointer (some { block:=w.heap.size,off:=0 })] 291
  have hz:=frozen_all_new (w.alloc (Obj.cells Tryz.zeroCells289 289)) [Value.string t,Value.int IntKind.i64 0,Value.bool false,Value.int IntKind.i64 0,Value.pointer (some { block:=w.heap.size,off:=0 })] 291
  rw[World.size_alloc] at hr hz
  exact⟨⟨hr 0,hr 1,hr 2,hr 3,hr 4,hz 1,hz 2,hz 3⟩,(PatAt.new w).fr ((Fr.refl [] _).alloc _) (by simp),hT.fr f0 (by simp),by omega,by omega,by omega⟩
 go_enter Tryz.func156,Tryz.ntmps156
 go_wp2
 generalize (w.alloc (Obj.cells Tryz.zeroCells289 289)).alloc (Obj.cells #[Value.string t,Value.int IntKind.i64 0,Value.bool false,Value.int IntKind.i64 0,Value.pointer (some { block:=w.heap.size,off:=0 })] 291)=W0 at *
 refine wp_region_heldD (fun w1=>w1.cell? ⟨w.heap.size+1,4,none⟩=some (.pointer (some ⟨w.heap.size,0,none⟩))) hm ?_
 have hS:(fun w1:World=>w1.cell? ⟨w.heap.size+1,4,none⟩=some (.pointer (some ⟨w.heap.size,0,none⟩))) W0.drew:=m0.rd.c4
 refine tkH (i:=0) (v:=?_) rfl (.inl ⟨rfl,fun w1 hS1=>?_⟩) hS ?_
 rotate_left
 ·have s4:w1.cell? ⟨w.heap.size+1,4,none⟩=some (.pointer (some ⟨w.heap.size,0,none⟩)):=hS1
  go_simp
  rfl
 simp only[Act.put,Z1,Z2,Z3]
 refine tkH (i:=1) (v:=?_) rfl (.inl ⟨rfl,fun w1 hS1=>?_⟩) hS ?_
 rotate_left
 ·have s4:w1.cell? ⟨w.heap.size+1,4,none⟩=some (.pointer (some ⟨w.heap.size,0,none⟩)):=hS1
  go_simp
  rfl
 simp only[Act.put,Z1,Z2,Z3]
 refine rdH (r:=2) ?_
 refine AllReadyH.cons rfl (fun K hK=>?_) AllReadyH.nil
 go_simp
 refine (Hal.out _ _ _ (m0.heap (w':=W0.drew) rfl)).mono ?_
 rintro e Wa ⟨rfl,ma,fa⟩
 have fa:Fr [w.heap.size+1,w.heap.size] W0 Wa:=⟨fa.os,fa.tape,fa.output,fa.size,fa.block⟩
 have Fa:Fr [] w Wa:=f0.trans' fa (by simp)
 unfold pv
 clear hS
 have hS:=ma.rd.c4
 refine hK _ _ hS ?_
 clear hK K
 intro _
 refine tkH (i:=3) (v:=?_) rfl (.inl ⟨rfl,fun w1 hS1=>?_⟩) hS ?_
 rotate_left
 ·go_simp
  rfl
 simp only[Act.put,Z1,Z2,Z3]
 refine tkH (i:=4) (v:=?_) rfl (.inl ⟨rfl,fun w1 hS1=>?_⟩) hS ?_
 rotate_left
 ·go_simp
  rfl
 simp only[Act.put,Z1,Z2,Z3]
 have y0:Wa.cell? ⟨w.heap.size,0,none⟩=some (.bool false):=ma.pat.hw 0 (by decide)
 have z0:=ma.pat.fz 0 (by decide)
 have y1:Wa.cell? ⟨w.heap.size,1,none⟩=some (.int .u64 0):=ma.pat.hw 1 (by decide)
 have z1:=ma.pat.fz 1 (by decide)
 have y2:Wa.cell? ⟨w.heap.size,2,none⟩=some (.int .u64 0):=ma.pat.hw 2 (by decide)
 have z2:=ma.pat.fz 2 (by decide)
 have y3:Wa.cell? ⟨w.heap.size,3,none⟩=some (.bool false):=ma.pat.hw 3 (by decide)
 have z3:=ma.pat.fz 3 (by decide)
 have y4:Wa.cell? ⟨w.heap.size,4,none⟩=some (.int .u64 0):=ma.pat.hw 4 (by decide)
 have z4:=ma.pat.fz 4 (by decide)
 have y5:Wa.cell? ⟨w.heap.size,5,none⟩=some (.int .u64 0):=ma.pat.hw 5 (by decide)
 have z5:=ma.pat.fz 5 (by decide)
 have y6:Wa.cell? ⟨w.heap.size,6,none⟩=some (.bool false):=ma.pat.hw 6 (by decide)
 have z6:=ma.pat.fz 6 (by decide)
 have y7:Wa.cell? ⟨w.heap.size,7,none⟩=some (.int .u64 0):=ma.pat.hw 7 (by decide)
 have z7:=ma.pat.fz 7 (by decide)
 have y8:Wa.cell? ⟨w.heap.size,8,none⟩=some (.int .u64 0):=ma.pat.hw 8 (by decide)
 have z8:=ma.pat.fz 8 (by decide)
 have y9:Wa.cell? ⟨w.heap.size,9,none⟩=some (.bool false):=ma.pat.hw 9 (by decide)
 have z9:=ma.pat.fz 9 (by decide)
 have y10:Wa.cell? ⟨w.heap.size,10,none⟩=some (.int .u64 0):=ma.pat.hw 10 (by decide)
 have z10:=ma.pat.fz 10 (by decide)
 have y11:Wa.cell? ⟨w.heap.size,11,none⟩=some (.int .u64 0):=ma.pat.hw 11 (by decide)
 have z11:=ma.pat.fz 11 (by decide)
 refine rdH (r:=5) ?_
 refine AllReadyH.cons rfl (fun K hK=>?_) AllReadyH.nil
 go_simp
 clear y0 z0 y1 z1 y2 z2 y3 z3 y4 z4 y5 z5 y6 z6 y7 z7 y8 z8 y9 z9 y10 z10 y11 z11
 have Pb:=ma.pat.setWhole q
 have fb:=far_sets Wa w.heap.size (.bool (q 0).e) (.int .u64 (q 0).f) (.int .u64 (q 0).l) (.bool (q 1).e) (.int .u64 (q 1).f) (.int .u64 (q 1).l) (.bool (q 2).e) (.int .u64 (q 2).f) (.int .u64 (q 2).l) (.bool (q 3).e) (.int .u64 (q 3).f) (.int .u64 (q 3).l)
 have rb:=ma.rd.of_block (fb.block (w.heap.size+1) ma.rlt (by simp))
 have Fb:Fr [] w ((((((((((((Wa.setCell { block:=w.heap.size,off:=0 } (.bool (q 0).e)).setCell { block:=w.heap.size,off:=1 } (.int .u64 (q 0).f)).setCell { block:=w.heap.size,off:=2 } (.int .u64 (q 0).l)).setCell { block:=w.heap.size,off:=3 } (.bool (q 1).e)).setCell { block:=w.heap.size,off:=4 } (.int .u64 (q 1).f)).setCell { block:=w.heap.size,off:=5 } (.int .u64 (q 1).l)).setCell { block:=w.heap.size,off:=6 } (.bool (q 2).e)).setCell { block:=w.heap.size,off:=7 } (.int .u64 (q 2).f)).setCell { block:=w.heap.size,off:=8 } (.int .u64 (q 2).l)).setCell { block:=w.heap.size,off:=9 } (.bool (q 3).e)).setCell { block:=w.heap.size,off:=10 } (.int .u64 (q 3).f)).setCell { block:=w.heap.size,off:=11 } (.int .u64 (q 3).l)):=Fa.trans' fb (by simp)
 generalize ((((((((((((Wa.setCell { block:=w.heap.size,off:=0 } (.bool (q 0).e)).setCell { block:=w.heap.size,off:=1 } (.int .u64 (q 0).f)).setCell { block:=w.heap.size,off:=2 } (.int .u64 (q 0).l)).setCell { block:=w.heap.size,off:=3 } (.bool (q 1).e)).setCell { block:=w.heap.size,off:=4 } (.int .u64 (q 1).f)).setCell { block:=w.heap.size,off:=5 } (.int .u64 (q 1).l)).setCell { block:=w.heap.size,off:=6 } (.bool (q 2).e)).setCell { block:=w.heap.size,off:=7 } (.int .u64 (q 2).f)).setCell { block:=w.heap.size,off:=8 } (.int .u64 (q 2).l)).setCell { block:=w.heap.size,off:=9 } (.bool (q 3).e)).setCell { block:=w.heap.size,off:=10 } (.int .u64 (q 3).f)).setCell { block:=w.heap.size,off:=11 } (.int .u64 (q 3).l))=Wb at *
 refine hK _ _ rb.c4 ?_
 clear hK K hS
 intro _
 refine wpAnyH_done (by kernel_rfl) ?_ _
 have c2:=rb.c2
 have c1:=rb.c1
 have c4:=rb.c4
 have g2:(s1.pos:Int)≤50:=by omega
 cases hf:s1.fault
 ·rw[hf] at c2
  by_cases hlt:s1.pos<t.size
  ·have g3:decide ((s1.pos:Int)<(t.size:Int))=true:=by simp;omega
   go_wp2
   refine wp_region_lex hm (by kernel_rfl) ?_
   repeat still_step
   refine wpStill_nil ?_
   go_wp2
   go_ret3
   refine⟨Fb.drew,?_⟩
   rw[if_neg (by rw[hf];simp;omega)]
   rfl
  ·have g3:decide ((s1.pos:Int)<(t.size:Int))=false:=by simp;omega
   go_wp2
   go_ret3
   refine⟨Fb,?_⟩
   rw[if_pos (by rw[hf];simp;omega)]
   exact⟨w.heap.size,Nat.le_refl _,rfl,Pb⟩
 ·rw[hf] at c2
  go_wp2
  refine wp_region_lex hm (by kernel_rfl) ?_
  repeat still_step
  refine wpStill_nil ?_
  go_wp2
  go_ret3
  refine⟨Fb.drew,?_⟩
  rw[if_neg (by rw[hf];simp)]
  rfl
open Wire
def ipF (t:ByteArray):Bool:=decide (t.size≤50) && readOk t
theorem isPattern_any (t:ByteArray)(w:World)(hm:t.size≤maxLen)(hT:Tab w):Calls Tryz.prog 174 #[.string t] w fun e w'=>e=.returned (.bool (ipF t))∧Fr [] w w':=by
 unfold ipF
 by_cases h:t.size≤50
 ·have hr:=read_any t w h hT
  unfold ReadPost at hr
  cases hok:readOk t with
  | true=>
   simp only[hok] at hr
   have e:(decide (t.size≤50) && true)=true:=by simp[h]
   rw[e]
   clear e hok h
   go_enter Tryz.func174,Tryz.ntmps174
   go_wp2_with fail
   refine hr.mono ?_
   rintro e w1 ⟨hf,hp⟩
   rw[if_pos trivial] at hp
   obtain⟨pb,-,rfl,-⟩:=hp
   clear hr
   go_wp2
   go_ret
   exact⟨rfl,hf⟩
  | false=>
   simp only[hok] at hr
   have e:(decide (t.size≤50) && false)=false:=by simp
   rw[e]
   clear e hok h
   go_enter Tryz.func174,Tryz.ntmps174
   go_wp2_with fail
   refine hr.mono ?_
   rintro e w1 ⟨hf,hp⟩
   rw[if_neg (by simp)] at hp
   subst hp
   clear hr
   go_wp2
   go_ret
   exact⟨rfl,hf⟩
 ·have hr:=read_long t w (by omega) hm
  have e:(decide (t.size≤50) && readOk t)=false:=by simp[h]
  rw[e]
  clear e
  unfold maxLen at hm
  go_enter Tryz.func174,Tryz.ntmps174
  go_wp2_with fail
  refine hr.mono ?_
  rintro e w1 ⟨rfl,rfl⟩
  clear hr
  go_wp2
  go_ret
  exact⟨rfl,Fr.refl _ _⟩
theorem maxParams_any (i:Nat)(w:World):Calls Tryz.prog 208 #[.int .i64 i] w fun e w'=>e=.returned (.int .i64 (if i<3 then 0 else 8))∧w'=w:=by
 by_cases h:i<3
 ·have g:(i:Int)<3:=by omega
  rw[if_pos h]
  go_enter Tryz.func208,Tryz.ntmps208
  go_wp2
  go_ret
  exact⟨rfl,rfl⟩
 ·have g:¬ (i:Int)<3:=by omega
  rw[if_neg h]
  go_enter Tryz.func208,Tryz.ntmps208
  go_wp2
  go_ret
  exact⟨rfl,rfl⟩
theorem lawfulAll_app (A:List Wire.Fn)(x:Wire.Fn)(i:Nat):lawfulAll (A++[x]) i=(lawfulAll A i && lawful x (i+A.length)):=by
 induction A generalizing i with
 | nil=>simp[lawfulAll]
 | cons a A ih=>
  simp only[List.cons_append,lawfulAll,ih,Bool.and_assoc,List.length_cons]
  rw[show i+1+A.length=i+(A.length+1) by omega]
theorem lawfulAll_take (L:List Wire.Fn)(k:Nat)(h:k<L.length)(ha:lawfulAll (L.take k) 0=true):lawfulAll (L.take (k+1)) 0=lawful L[k] k:=by
 rw[List.take_succ_eq_append_getElem h,lawfulAll_app,ha,List.length_take,Nat.min_eq_left (by omega)]
 simp
theorem lawfulAll_at (L:List Wire.Fn)(i k:Nat)(h:k<L.length)(ha:lawfulAll L i=true):lawful L[k] (i+k)=true:=by
 induction L generalizing i k with
 | nil=>simp at h
 | cons a L ih=>
  simp only[lawfulAll,Bool.and_eq_true] at ha
  cases k with
  | zero=>simpa using ha.1
  | succ k=>
   have:=ih (i+1) k (by simpa using h) ha.2
   simpa [show i+1+k=i+(k+1) by omega] using this
theorem lawfulAll_stop (L:List Wire.Fn)(k:Nat)(h:k<L.length)(ha:lawful L[k] k=false):lawfulAll L 0=false:=by
 cases hl:lawfulAll L 0 with
 | false=>rfl
 | true=>have:=lawfulAll_at L 0 k h hl;rw[Nat.zero_add,ha] at this;cases this
def mkB (l:List UInt8):ByteArray:=⟨l.toArray⟩
theorem mkB_app (a b:List UInt8):mkB a++mkB b=mkB (a++b):=by
 apply ByteArray.ext
 simp[mkB]
theorem bl_mkB (l:List UInt8):bl (mkB l)=l:=bl_mk l
theorem body_eq (m:Mo):body m=[71,76,1]++sect 1 (listing m.texts)++sect 2 (listing m.pats)++sect 3 (digs m.globs.toNat)++sect 4 (digs m.arrs.toNat)++sect 5 (fnsL m.fns):=by
 simp[body]
theorem body_len_le (m:Mo)(ip:ByteArray→Bool)(h:within ip m=true):(body m).length≤100000000:=by
 obtain⟨q1,q2,q3,q4,q5,q6,q7,q8,q9,q10,q11⟩:=Wire.within_iff.1 h
 have f11:=lawfulAll_mem _ _ q11
 obtain⟨l1,n1⟩:=listing_len m.texts q9 q1
 obtain⟨l2,n2⟩:=listing_len m.pats (fun s hs=>by have:=(q10 s hs).1;omega) q2
 have l3:=digs_len m.globs.toNat
 have l4:=digs_len m.arrs.toNat
 obtain⟨l5,n5⟩:=fnsL_len m.fns (fun s hs=>(f11 s hs).1) q4
 have s1:=sect_len 1 (listing m.texts)
 have s2:=sect_len 2 (listing m.pats)
 have s3:=sect_len 3 (digs m.globs.toNat)
 have s4:=sect_len 4 (digs m.arrs.toNat)
 have s5:=sect_len 5 (fnsL m.fns)
 rw[body_length]
 omega
def packS (m:Mo):ByteArray:=if within ipF m=true∧(Wire.written m).length≤40000 then mkB (Wire.written m) else ⟨#[]⟩
def packE (m:Mo):Int:=if within ipF m=true∧(Wire.written m).length≤40000 then 0 else 4
structure RdC (w:World) (r:Nat) (b:ByteArray) (a e p er:Nat):Prop where
 c0:w.cell? ⟨r,0,none⟩=some (.string b)
 c1:w.cell? ⟨r,1,none⟩=some (.int .i64 a)
 c2:w.cell? ⟨r,2,none⟩=some (.int .i64 e)
 c3:w.cell? ⟨r,3,none⟩=some (.int .i64 p)
 c4:w.cell? ⟨r,4,none⟩=some (.int .i64 er)
 f1:w.frozen? ⟨r,1,none⟩=false
 f2:w.frozen? ⟨r,2,none⟩=false
 f3:w.frozen? ⟨r,3,none⟩=false
 f4:w.frozen? ⟨r,4,none⟩=false
theorem RdC.of_block {w w':World}{r:Nat}{b:ByteArray}{a e p er:Nat} (h:RdC w r b a e p er) (hb:w'.heap[r]?=w.heap[r]?):RdC w' r b a e p er:=
 ⟨(World.cell?_of_block (w:=w) (a:=⟨r,0,none⟩) hb).trans h.c0,(World.cell?_of_block (w:=w) (a:=⟨r,1,none⟩) hb).trans h.c1,(World.cell?_of_block (w:=w) (a:=⟨r,2,none⟩) hb).trans h.c2,
   (World.cell?_of_block (w:=w) (a:=⟨r,3,none⟩) hb).trans h.c3,(World.cell?_of_block (w:=w) (a:=⟨r,4,none⟩) hb).trans h.c4,
   (World.frozen?_of_block (w:=w) (a:=⟨r,1,none⟩) hb).trans h.f1,(World.frozen?_of_block (w:=w) (a:=⟨r,2,none⟩) hb).trans h.f2,
   (World.frozen?_of_block (w:=w) (a:=⟨r,3,none⟩) hb).trans h.f3,(World.frozen?_of_block (w:=w) (a:=⟨r,4,none⟩) hb).trans h.f4⟩
theorem RdC.lt {w:World}{r:Nat}{b:ByteArray}{a e p er:Nat} (h:RdC w r b a e p er):r<w.heap.size:=lt_of_cell (a:=⟨r,0,none⟩) h.c0
theorem RdC.fr {S:List Nat}{w w':World}{r:Nat}{b:ByteArray}{a e p er:Nat} (h:RdC w r b a e p er) (hf:Fr S w w') (hr:r ∉ S):RdC w' r b a e p er:=h.of_block (hf.block r h.lt hr)
theorem cell_set {w:World}{b i:Nat}{u v:Value} (h:w.cell? ⟨b,i,none⟩=some u):(w.setCell ⟨b,i,none⟩ v).cell? ⟨b,i,none⟩=some v:=World.cell?_setCell_same' _ _ _ (by rw[h];rfl)
theorem RdC.set1 {w:World}{r:Nat}{b:ByteArray}{a e p er:Nat} (h:RdC w r b a e p er) (x:Nat):RdC (w.setCell ⟨r,1,none⟩ (.int .i64 x)) r b x e p er:=
 ⟨(setCell_off (by decide)).trans h.c0,cell_set h.c1,(setCell_off (by decide)).trans h.c2,(setCell_off (by decide)).trans h.c3,(setCell_off (by decide)).trans h.c4,
   by rw[wfz];exact h.f1,by rw[wfz];exact h.f2,by rw[wfz];exact h.f3,by rw[wfz];exact h.f4⟩
theorem RdC.set2 {w:World}{r:Nat}{b:ByteArray}{a e p er:Nat} (h:RdC w r b a e p er) (x:Nat):RdC (w.setCell ⟨r,2,none⟩ (.int .i64 x)) r b a x p er:=
 ⟨(setCell_off (by decide)).trans h.c0,(setCell_off (by decide)).trans h.c1,cell_set h.c2,(setCell_off (by decide)).trans h.c3,(setCell_off (by decide)).trans h.c4,
   by rw[wfz];exact h.f1,by rw[wfz];exact h.f2,by rw[wfz];exact h.f3,by rw[wfz];exact h.f4⟩
theorem RdC.set34 {w:World}{r:Nat}{b:ByteArray}{a e p er:Nat} (h:RdC w r b a e p er) (x y:Nat):RdC ((w.setCell ⟨r,3,none⟩ (.int .i64 x)).setCell ⟨r,4,none⟩ (.int .i64 y)) r b a e x y:=
 ⟨(setCell_off (by decide)).trans ((setCell_off (by decide)).trans h.c0),(setCell_off (by decide)).trans ((setCell_off (by decide)).trans h.c1),(setCell_off (by decide)).trans ((setCell_off (by decide)).trans h.c2),
   (setCell_off (by decide)).trans (cell_set h.c3),cell_set ((setCell_off (by decide)).trans h.c4),
   by rw[wfz,wfz];exact h.f1,by rw[wfz,wfz];exact h.f2,by rw[wfz,wfz];exact h.f3,by rw[wfz,wfz];exact h.f4⟩
def stA (n:Nat):Sta→Nat
 | .inl _=>n
 | .inr p=>p.1
def stE (n:Nat):Sta→Nat
 | .inl _=>n
 | .inr p=>p.2
def stP:Sta→Nat
 | .inl f=>f.2
 | .inr _=>0
def stR:Sta→Nat
 | .inl f=>f.1
 | .inr _=>0
structure RdS (w:World) (r:Nat) (b:ByteArray) (s:Sta):Prop where
 c:RdC w r b (stA b.size s) (stE b.size s) (stP s) (stR s)
 ok:okSta (bl b) s
theorem RdS.fr {S:List Nat}{w w':World}{r:Nat}{b:ByteArray}{s:Sta} (h:RdS w r b s) (hf:Fr S w w') (hr:r ∉ S):RdS w' r b s:=⟨h.c.fr hf hr,h.ok⟩
theorem RdS.heap {w w':World}{r:Nat}{b:ByteArray}{s:Sta} (h:RdS w r b s) (hh:w'.heap=w.heap):RdS w' r b s:=⟨h.c.of_block (by rw[hh]),h.ok⟩
theorem RdS.lt {w:World}{r:Nat}{b:ByteArray}{s:Sta} (h:RdS w r b s):r<w.heap.size:=h.c.lt
def failS (er place:Nat):Sta→Sta
 | .inl f=>.inl f
 | .inr _=>.inl (er,place)
theorem failC_any (w:World)(r:Nat)(b:ByteArray)(a e p er place no:Nat)(h:RdC w r b a e p er)(hs:b.size≤40000) :
  Calls Tryz.prog 109 #[.pointer (some ⟨r,0,none⟩),.int .i64 place,.int .i64 no] w fun ee w'=>ee=.returned (.tuple #[])∧RdC w' r b b.size b.size (if er=0 then place else p) (if er=0 then no else er)∧Fr [r] w w':=by
 have hm:Tryz.prog.follows Departure.mixedOrders=true:=by kernel_rfl
 have K1:=h.set34 place no
 have F1:Fr [r] w ((w.setCell ⟨r,3,none⟩ (.int .i64 place)).setCell ⟨r,4,none⟩ (.int .i64 no)):=((Fr.refl [r] w).setCell (p:=⟨r,3,none⟩) (.inl (by simp)) _).setCell (p:=⟨r,4,none⟩) (.inl (by simp)) _
 have K0:=h
 obtain⟨c0,c1,c2,c3,c4,f1,f2,f3,f4⟩:=h
 by_cases he:er=0
 ·subst he
  rw[if_pos rfl,if_pos rfl]
  clear K0
  go_enter Tryz.func109,Tryz.ntmps109
  go_wp2
  have K2:=K1
  obtain⟨c0,c1,c2,c3,c4,f1,f2,f3,f4⟩:=K1
  generalize ((w.setCell ⟨r,3,none⟩ (.int .i64 place)).setCell ⟨r,4,none⟩ (.int .i64 no))=W at *
  go_region
  go_end0
  exact⟨rfl,((K2.set1 b.size).set2 b.size).of_block rfl,((F1.setCell (p:=⟨r,1,none⟩) (.inl (by simp)) _).setCell (p:=⟨r,2,none⟩) (.inl (by simp)) _).drewN 1⟩
 ·have g1:((er:Int)==0)=false:=by simp;omega
  rw[if_neg he,if_neg he]
  clear K1 F1
  go_enter Tryz.func109,Tryz.ntmps109
  go_wp2
  go_region
  go_end0
  exact⟨rfl,((K0.set1 b.size).set2 b.size).of_block rfl,(((Fr.refl [r] w).setCell (p:=⟨r,1,none⟩) (.inl (by simp)) _).setCell (p:=⟨r,2,none⟩) (.inl (by simp)) _).drewN 1⟩
theorem failU_any {w:World}{r:Nat}{b:ByteArray}{s:Sta}{place no:Nat}{nI:Int} (hn:nI=(no:Int)) (h:RdS w r b s) (hs:b.size≤40000) (h0:0<no) (h1:no≤100) (hp:place≤b.size) :
  Calls Tryz.prog 109 #[.pointer (some ⟨r,0,none⟩),.int .i64 place,.int .i64 nI] w fun ee w'=>ee=.returned (.tuple #[])∧RdS w' r b (failS no place s)∧Fr [r] w w':=by
 subst hn
 refine (failC_any w r b _ _ _ _ place no h.c hs).mono ?_
 rintro e w' ⟨rfl,K,F⟩
 refine⟨rfl,?_,F⟩
 have hL:=bl_length b
 rcases s with ⟨x,y⟩ | ⟨x,y⟩
 ·obtain⟨k0,k1,k2⟩:=h.ok
  have k3:¬ x=0:=by simp only at k0;omega
  have e1:(if stR (.inl (x,y))=0 then place else stP (.inl (x,y)))=y:=if_neg k3
  have e2:(if stR (.inl (x,y))=0 then no else stR (.inl (x,y)))=x:=if_neg k3
  rw[e1,e2] at K
  exact⟨K,h.ok⟩
 ·have e1:(if stR (.inr (x,y))=0 then place else stP (.inr (x,y)))=place:=if_pos rfl
  have e2:(if stR (.inr (x,y))=0 then no else stR (.inr (x,y)))=no:=if_pos rfl
  rw[e1,e2] at K
  exact⟨K,h0,h1,by simp only;omega⟩
end Go.Proofs.YtclkgoigmgkffaaGreatDoor
