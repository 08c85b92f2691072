/-
  Texts Wu Wv Mg Mh Mi Mj Na Nb Nc Sh Nd Ne Nf Ng.
-/
import Derived.Laws.Concat
import Derived.Lib.SlBytesConst
import Derived.Shelf.Strings.Builder1
import Derived.Shelf.Strings.BuilderF
import Derived.Shelf.Strings.BuilderK
import Derived.Shelf.LaysM
import Derived.Shelf.Strconv.Clone
import Derived.Test.YtgpamchpeamnfaaGreatDoorProg
import Derived.Handy
import Derived.Test.YtgpamchpeamnfaaGreatDoorMA
import Derived.Test.YtgpamchpeamnfaaGreatDoorM11
import Derived.Test.YtgpamchpeamnfaaGreatDoorM00
import Derived.Test.YtgpamchpeamnfaaGreatDoorM03
set_option linter.unusedSimpArgs false
set_option linter.unusedVariables false
set_option maxRecDepth 100000
set_option maxHeartbeats 40000000
open _root_.Go.Proofs.Tryz
namespace Go.Proofs.YtgpamchpeamnfaaGreatDoor
open Go.RowKit
structure bIs (w:World) (r pb:Nat) (t:ByteArray) (wh:Nat→Value) (ob:Nat) (X:Piece × St) (m:Nat) (q:Piece) (s1:St) (W:World):Prop where
 wk:lH w r pb t wh ob q s1 W
 eq:Hid (lT t m q s1=X)
 inv:Inv t s1
 pb:PB s1.atoms q
 fuel:s1.fault=true∨6*(t.size-s1.pos)+5≤m
theorem aSn {t:ByteArray}{m:Nat}{q:Piece}{s:St} (h:aB t s≠124):lT t m q s=(q,s):=by
 cases m with
 | zero=>rw[aZl]
 | succ m=>rw[lS,if_neg h]
theorem aWr (n:Nat)(hA:∀ m,m≤n→aFc m):D8 (n+1):=by
 intro w r pb t wh s h hi hs hn
 have t6:=h.tab.lt
 have hm:prog.follows Departure.mixedOrders=true:=by kernel_rfl
 have hrl:=h.rlt
 have hpl:=h.pat.lt
 rw[qZ]
 have gv:=(eY t n).seq s hi
 have hsq:=fun (W:World) (hW:M W r pb t wh s)=>hA n (Nat.le_refl _) W r pb t wh s hW hi hs (by omega)
 unfold uW at hsq ⊢
 obtain⟨q0,hq0⟩:∃ q,(nX t n s).1=q:=⟨_,rfl⟩
 obtain⟨s0,hs0⟩:∃ q,(nX t n s).2=q:=⟨_,rfl⟩
 have gi:=gv.inv
 have gp:=gv.pb
 have gl:=gv.le
 simp only[hq0,hs0] at hsq gi gp gl ⊢
 clear hq0 hs0 gv
 obtain⟨X,hX⟩:=eX (lT t n q0 s0)
 rw[hX]
 have HX:Hid (lT t n q0 s0=X):=hX
 have Hsq:=(show Hid _ from hsq)
 have HA:=(show Hid _ from hA)
 clear hX hsq hA
 have f0:Fr [] w (w.alloc (Obj.cells #[.bool false,.int .u64 0,.int .u64 0,.bool false,.int .u64 0,.int .u64 0,.bool false,.int .u64 0,.int .u64 0,.bool false,.int .u64 0,.int .u64 0] 217)):=(Fr.refl [] _).alloc _
 have m0:=h.fr f0 (by simp) (by simp) (by simp)
 have R0:=Res.new w
 go_enter func150,ntmps150
 go_wp2_with fail
 refine (Hsq.out _ m0).mono ?_
 rintro e w1 ⟨rfl,m1,f1⟩
 have R1:=R0.fr f1 (by simp;omega)
 have F1:Fr [r,pb] w w1:=(f0.mono (by simp)).trans f1
 have f2:Fr [] w1 (w1.alloc (Obj.cells #[.bool (q0 0).e,.int .u64 (q0 0).f,.int .u64 (q0 0).l,.bool (q0 1).e,.int .u64 (q0 1).f,.int .u64 (q0 1).l,.bool (q0 2).e,.int .u64 (q0 2).f,.int .u64 (q0 2).l,.bool (q0 3).e,.int .u64 (q0 3).f,.int .u64 (q0 3).l] 217)):=(Fr.refl [] _).alloc _
 have K0:lH w r pb t wh w1.heap.size q0 s0 (w1.alloc (Obj.cells #[.bool (q0 0).e,.int .u64 (q0 0).f,.int .u64 (q0 0).l,.bool (q0 1).e,.int .u64 (q0 1).f,.int .u64 (q0 1).l,.bool (q0 2).e,.int .u64 (q0 2).f,.int .u64 (q0 2).l,.bool (q0 3).e,.int .u64 (q0 3).f,.int .u64 (q0 3).l] 217)):=
  ⟨m1.fr f2 (by simp) (by simp) (by simp),Out.new w1 q0,R1.fr f2 (by simp),F1.trans (f2.mono (by simp)),R1.lt,hrl,hpl,t6⟩
 clear m0 R0 f0 m1 R1 F1 f1 f2
 unfold pv
 go_wp2
 generalize w1.heap.size=ob at *
 generalize w1.alloc (Obj.cells #[.bool (q0 0).e,.int .u64 (q0 0).f,.int .u64 (q0 0).l,.bool (q0 1).e,.int .u64 (q0 1).f,.int .u64 (q0 1).l,.bool (q0 2).e,.int .u64 (q0 2).f,.int .u64 (q0 2).l,.bool (q0 3).e,.int .u64 (q0 3).f,.int .u64 (q0 3).l] 217)=W2 at *
 go_loopg [6] n (fun m _ wr=>m≤n∧∃ q s1,bIs w r pb t wh ob X m q s1 wr)
 case atStart=>exact⟨Nat.le_refl _,q0,s0,K0,HX,gi,gp,.inr (by omega)⟩
 case round=>
  obtain⟨hgkn,q,s1,J⟩:=hrel
  clear K0 HX Hsq
  have hpos:=J.inv.pos
  have hat:=J.inv.at_
  have hsk:=tG 124 J.wk.m hs (by omega)
  unfold aU at hsk
  by_cases hc:aB t s1=124
  ·rw[if_pos hc] at hsk
   have hne:aB t s1≠-1:=by rw[hc];decide
   obtain⟨hnf,hp1⟩:=cA hne
   have hfu:6*(t.size-s1.pos)+5≤gk:=J.fuel.elim (fun e=>by rw[hnf] at e;cases e) id
   obtain⟨m',rfl⟩:∃ m',gk=m'+1:=⟨gk-1,by omega⟩
   have heq:=J.eq.out
   rw[lS,if_pos hc] at heq
   have hin:=J.inv.adv hne
   have gv:=(eY t m').seq _ hin
   have hpa:=fun (W:World) (hW:M W r pb t wh (aS s1))=>HA.out m' (by omega) W r pb t wh (aS s1) hW hin hs (by simp[aS];omega)
   unfold uW at hpa
   have gi2:=gv.inv
   have gb:=gv.pb
   have gal:=gv.al
   have gl2:=gv.le
   obtain⟨q1,hq1⟩:∃ q,(nX t m' (aS s1)).1=q:=⟨_,rfl⟩
   obtain⟨s2,hs2⟩:∃ q,(nX t m' (aS s1)).2=q:=⟨_,rfl⟩
   simp only[hq1,hs2] at hpa gi2 gb gal gl2 heq
   clear hq1 hs2 gv
   have ga2:s1.atoms≤s2.atoms:=gal
   have gl3:s1.pos+1≤s2.pos:=gl2
   have Heq:Hid _:=heq
   have Hpa:Hid _:=hpa
   clear heq hpa gal gl2 hc hne
   have gi_at:=gi2.at_
   have gi_pos:=gi2.pos
   go_wp2_with fail
   refine hsk.mono ?_
   rintro e Wa ⟨rfl,ma,fa⟩
   have K0:=J.wk.call ma (fa.mono (by simp))
   go_wp2
   refine aE (fun _=>True) hm ?_
   have hS:(fun _:World=>True) Wa.drew:=trivial
   refine wpAnyH_take (i:=1) (v:=?_) rfl (by kernel_rfl) (by kernel_rfl) (by kernel_rfl) (fun _ _ _ h=>h) (.inl ⟨rfl,fun w1 hS1=>?_⟩) hS ?_
   rotate_left
   ·go_simp
    rfl
   simp only[Act.put,Z1,Z2,Z3]
   refine wpAnyH_ready (rs:=[0,2]) (by kernel_rfl) (by simp) ?_
   refine AllReadyH.cons rfl (fun K hK=>?_) ?_
   ·obtain⟨x0,x1,x2,x3,x4,x5,x6,x7,x8,x9,x10,x11⟩:=K0.out.al
    go_simp
    clear x0 x1 x2 x3 x4 x5 x6 x7 x8 x9 x10 x11
    refine hK _ _ hS ?_
    clear hK K
    intro _
    refine rd1 (r:=2) (by kernel_rfl) rfl fun K hK=>?_
    go_simp
    refine (Hpa.out _ (K0.m.heap (w':=Wa.drew) rfl)).mono ?_
    rintro e V1 ⟨rfl,mv,fv⟩
    unfold pv
    have fv:Fr [r,pb] Wa V1:=⟨fv.os,fv.tape,fv.output,fv.size,fv.block⟩
    have K1:=K0.call mv fv
    clear hS
    have hS:=trivial
    refine hK _ _ hS ?_
    clear hK K
    intro _
    refine rd1 (r:=3) (by kernel_rfl) rfl fun K hK=>?_
    go_simp
    have hei:=mN q q1 (J.pb.ok (by omega)) (gb.ok (by omega)) V1
    unfold pv at hei
    refine hei.mono ?_
    rintro e V2 ⟨rfl,fu⟩
    have K2:=K1.kept fu
    clear hei
    clear hS
    have hS:=trivial
    refine hK _ _ hS ?_
    clear hK K
    intro _
    obtain⟨x0,x1,x2,x3,x4,x5,x6,x7,x8,x9,x10,x11⟩:=K2.out.al
    obtain⟨xz0,xz1,xz2,xz3,xz4,xz5,xz6,xz7,xz8,xz9,xz10,xz11⟩:=K2.out.az
    refine rd1 (r:=4) (by kernel_rfl) rfl fun K hK=>?_
    go_simp
    clear x0 x1 x2 x3 x4 x5 x6 x7 x8 x9 x10 x11 xz0 xz1 xz2 xz3 xz4 xz5 xz6 xz7 xz8 xz9 xz10 xz11
    have K3:=K2.set (aK q q1)
    generalize ((((((((((((V2.setCell { block:=ob,off:=0 } (.bool ((aK q q1) 0).e)).setCell { block:=ob,off:=1 } (.int .u64 ((aK q q1) 0).f)).setCell { block:=ob,off:=2 } (.int .u64 ((aK q q1) 0).l)).setCell { block:=ob,off:=3 } (.bool ((aK q q1) 1).e)).setCell { block:=ob,off:=4 } (.int .u64 ((aK q q1) 1).f)).setCell { block:=ob,off:=5 } (.int .u64 ((aK q q1) 1).l)).setCell { block:=ob,off:=6 } (.bool ((aK q q1) 2).e)).setCell { block:=ob,off:=7 } (.int .u64 ((aK q q1) 2).f)).setCell { block:=ob,off:=8 } (.int .u64 ((aK q q1) 2).l)).setCell { block:=ob,off:=9 } (.bool ((aK q q1) 3).e)).setCell { block:=ob,off:=10 } (.int .u64 ((aK q q1) 3).f)).setCell { block:=ob,off:=11 } (.int .u64 ((aK q q1) 3).l))=V3 at *
    refine hK _ _ (trivial) ?_
    clear hK K
    intro _
    refine wpAnyH_done (by kernel_rfl) ?_ _
    go_wp2
    go_roundg m'
    case measure=>omega
    case rel=>exact⟨by omega,aK q q1,_,K3,Heq.out,gi2,(J.pb.mono ga2).either gb,.inr (by omega)⟩
   ·refine AllReadyH.cons rfl (fun K hK=>?_) AllReadyH.nil
    go_simp
    refine (Hpa.out _ (K0.m.heap (w':=Wa.drew) rfl)).mono ?_
    rintro e V1 ⟨rfl,mv,fv⟩
    unfold pv
    have fv:Fr [r,pb] Wa V1:=⟨fv.os,fv.tape,fv.output,fv.size,fv.block⟩
    have K1:=K0.call mv fv
    clear hS
    have hS:=trivial
    refine hK _ _ hS ?_
    clear hK K
    intro _
    obtain⟨x0,x1,x2,x3,x4,x5,x6,x7,x8,x9,x10,x11⟩:=K1.out.al
    refine rd1 (r:=0) (by kernel_rfl) rfl fun K hK=>?_
    go_simp
    clear x0 x1 x2 x3 x4 x5 x6 x7 x8 x9 x10 x11
    refine hK _ _ hS ?_
    clear hK K
    intro _
    refine rd1 (r:=3) (by kernel_rfl) rfl fun K hK=>?_
    go_simp
    have hei:=mN q q1 (J.pb.ok (by omega)) (gb.ok (by omega)) V1
    unfold pv at hei
    refine hei.mono ?_
    rintro e V2 ⟨rfl,fu⟩
    have K2:=K1.kept fu
    clear hei
    clear hS
    have hS:=trivial
    refine hK _ _ hS ?_
    clear hK K
    intro _
    obtain⟨x0,x1,x2,x3,x4,x5,x6,x7,x8,x9,x10,x11⟩:=K2.out.al
    obtain⟨xz0,xz1,xz2,xz3,xz4,xz5,xz6,xz7,xz8,xz9,xz10,xz11⟩:=K2.out.az
    refine rd1 (r:=4) (by kernel_rfl) rfl fun K hK=>?_
    go_simp
    clear x0 x1 x2 x3 x4 x5 x6 x7 x8 x9 x10 x11 xz0 xz1 xz2 xz3 xz4 xz5 xz6 xz7 xz8 xz9 xz10 xz11
    have K3:=K2.set (aK q q1)
    generalize ((((((((((((V2.setCell { block:=ob,off:=0 } (.bool ((aK q q1) 0).e)).setCell { block:=ob,off:=1 } (.int .u64 ((aK q q1) 0).f)).setCell { block:=ob,off:=2 } (.int .u64 ((aK q q1) 0).l)).setCell { block:=ob,off:=3 } (.bool ((aK q q1) 1).e)).setCell { block:=ob,off:=4 } (.int .u64 ((aK q q1) 1).f)).setCell { block:=ob,off:=5 } (.int .u64 ((aK q q1) 1).l)).setCell { block:=ob,off:=6 } (.bool ((aK q q1) 2).e)).setCell { block:=ob,off:=7 } (.int .u64 ((aK q q1) 2).f)).setCell { block:=ob,off:=8 } (.int .u64 ((aK q q1) 2).l)).setCell { block:=ob,off:=9 } (.bool ((aK q q1) 3).e)).setCell { block:=ob,off:=10 } (.int .u64 ((aK q q1) 3).f)).setCell { block:=ob,off:=11 } (.int .u64 ((aK q q1) 3).l))=V3 at *
    refine hK _ _ (trivial) ?_
    clear hK K
    intro _
    refine wpAnyH_done (by kernel_rfl) ?_ _
    go_wp2
    go_roundg m'
    case measure=>omega
    case rel=>exact⟨by omega,aK q q1,_,K3,Heq.out,gi2,(J.pb.mono ga2).either gb,.inr (by omega)⟩
  ·rw[if_neg hc] at hsk
   have Heq:Hid ((q,s1)=X):=(aSn hc).symm.trans J.eq.out
   clear hc
   go_wp2_with fail
   refine hsk.mono ?_
   rintro e Wa ⟨rfl,ma,fa⟩
   have K0:=J.wk.call ma (fa.mono (by simp))
   obtain⟨x0,x1,x2,x3,x4,x5,x6,x7,x8,x9,x10,x11⟩:=K0.out.al
   obtain⟨y0,y1,y2,y3,y4,y5,y6,y7,y8,y9,y10,y11⟩:=K0.res.al
   obtain⟨z0,z1,z2,z3,z4,z5,z6,z7,z8,z9,z10,z11⟩:=K0.res.az
   go_wp2
   have hlo:=K0.lo
   have hfr:=fJ Wa w.heap.size (.bool (q 0).e) (.int .u64 (q 0).f) (.int .u64 (q 0).l) (.bool (q 1).e) (.int .u64 (q 1).f) (.int .u64 (q 1).l) (.bool (q 2).e) (.int .u64 (q 2).f) (.int .u64 (q 2).l) (.bool (q 3).e) (.int .u64 (q 3).f) (.int .u64 (q 3).l)
   have hX:=Heq.out
   refine bodyPost_ret (v:=pv q) (by simp[results,results150,go_sem,pv,y0,y1,y2,y3,y4,y5,y6,y7,y8,y9,y10,y11]) rfl ⟨by rw[← hX],?_,?_⟩
   ·rw[← hX];exact K0.m.fr hfr (by simp;omega) (by simp;omega) (by simp;omega)
   ·exact K0.fr.trans' hfr (by simp)
theorem aTq:∀ n,D8 n∧aFc n∧X7 n∧X8 n:=by
 intro n
 induction n using Nat.strongRecOn with
 | _ n ih=>
  cases n with
  | zero=>
   refine⟨?_,?_,?_,?_⟩
   ·intro w r pb t wh s _ _ _ h;omega
   ·intro w r pb t wh s _ _ _ h;omega
   ·intro w r pb t wh s _ _ _ _ h;omega
   ·intro w r pb t wh s _ _ _ _ h;omega
  | succ n=>
   exact⟨aWr n (fun m hm=>(ih m (by omega)).2.1),aTo n (fun m hm=>(ih m (by omega)).2.2.1),aPr n (ih n (by omega)).2.2.2,aSl n (ih n (by omega)).1⟩
def st0:St:=⟨0,false,0,fun _=>0,fun _ _=>0⟩
def eW (t:ByteArray):Piece × St:=jN t 400 st0
def gD (t:ByteArray):Bool:=!(eW t).2.fault && decide (t.size≤(eW t).2.pos)
theorem nW (t:ByteArray):Inv t st0:=⟨Nat.zero_le _,Nat.le_refl _,fun _=>Nat.one_pos,fun _ _=>Nat.one_pos⟩
def whF (q:Piece):Nat→Value:=fun i=>([.bool (q 0).e,.int .u64 (q 0).f,.int .u64 (q 0).l,.bool (q 1).e,.int .u64 (q 1).f,.int .u64 (q 1).l,.bool (q 2).e,.int .u64 (q 2).f,.int .u64 (q 2).l,.bool (q 3).e,.int .u64 (q 3).f,.int .u64 (q 3).l]:List Value).getD i (.bool false)
def wh0:Nat→Value:=fun i=>([Value.bool false,Value.int .u64 0,Value.int .u64 0,Value.bool false,Value.int .u64 0,Value.int .u64 0,Value.bool false,Value.int .u64 0,Value.int .u64 0,Value.bool false,Value.int .u64 0,Value.int .u64 0]:List Value).getD i (.bool false)
theorem aPk (t:ByteArray)(w:World)(h:50<t.size)(hs:t.size≤maxLen) :
  Calls prog 139 #[.string t] w fun e w'=>e=.returned (.tuple #[.pointer none,.int .i64 0,.int .i64 1])∧w'=w:=by
 unfold maxLen at hs
 have g1:(50:Int)<t.size:=by omega
 go_enter func139,ntmps139
 go_wp2
 go_ret3
 exact⟨rfl,rfl⟩
theorem bAs:zeroCells222=(([Value.bool false,Value.int .u64 0,Value.int .u64 0,Value.bool false,Value.int .u64 0,Value.int .u64 0,Value.bool false,Value.int .u64 0,Value.int .u64 0,Value.bool false,Value.int .u64 0,Value.int .u64 0]:List Value)++List.replicate 456 (Value.int .u64 0)).toArray:=by kernel_rfl
theorem dS.new (W:World):dS (W.alloc (.cells zeroCells222 222)) W.heap.size wh0 (fun _=>0) (fun _ _=>0):=by
 have h:=wan W (.cells zeroCells222 222)
 rw[bAs] at h ⊢
 have hc:∀ i,(W.alloc (.cells (([Value.bool false,Value.int .u64 0,Value.int .u64 0,Value.bool false,Value.int .u64 0,Value.int .u64 0,Value.bool false,Value.int .u64 0,Value.int .u64 0,Value.bool false,Value.int .u64 0,Value.int .u64 0]:List Value)++List.replicate 456 (Value.int .u64 0)).toArray 222)).cell? ⟨W.heap.size,i,none⟩=(([Value.bool false,Value.int .u64 0,Value.int .u64 0,Value.bool false,Value.int .u64 0,Value.int .u64 0,Value.bool false,Value.int .u64 0,Value.int .u64 0,Value.bool false,Value.int .u64 0,Value.int .u64 0]:List Value)++List.replicate 456 (Value.int .u64 0))[i]?:=fun i=>by
  unfold World.cell?;rw[h];exact List.getElem?_toArray
 have hz:∀ i,12≤i→i<468→(([Value.bool false,Value.int .u64 0,Value.int .u64 0,Value.bool false,Value.int .u64 0,Value.int .u64 0,Value.bool false,Value.int .u64 0,Value.int .u64 0,Value.bool false,Value.int .u64 0,Value.int .u64 0]:List Value)++List.replicate 456 (Value.int .u64 0))[i]?=some (Value.int .u64 0):=fun i h1 h2=>by
  rw[List.getElem?_append_right (by simpa using h1),List.getElem?_replicate,if_pos (by simp;omega)]
 refine⟨fun i hi=>?_,fun b hb=>?_,fun s a hs ha=>?_,fun i hi=>?_⟩
 ·rw[hc,List.getElem?_append_left (by simpa using hi)]
  unfold wh0
  rw[List.getD_eq_getElem?_getD,Lge (by simpa using hi)]
  rfl
 ·rw[hc,hz _ (by omega) (by omega)];rfl
 ·rw[hc,hz _ (by omega) (by omega)];rfl
 ·unfold World.frozen?;rw[h];simp
theorem dS.setWhole {w:World}{pb:Nat}{wh:Nat→Value}{tk:Nat→Nat}{fo:Nat→Nat→Nat} (h:dS w pb wh tk fo) (q:Piece):dS ((((((((((((w.setCell { block:=pb,off:=0 } (.bool (q 0).e)).setCell { block:=pb,off:=1 } (.int .u64 (q 0).f)).setCell { block:=pb,off:=2 } (.int .u64 (q 0).l)).setCell { block:=pb,off:=3 } (.bool (q 1).e)).setCell { block:=pb,off:=4 } (.int .u64 (q 1).f)).setCell { block:=pb,off:=5 } (.int .u64 (q 1).l)).setCell { block:=pb,off:=6 } (.bool (q 2).e)).setCell { block:=pb,off:=7 } (.int .u64 (q 2).f)).setCell { block:=pb,off:=8 } (.int .u64 (q 2).l)).setCell { block:=pb,off:=9 } (.bool (q 3).e)).setCell { block:=pb,off:=10 } (.int .u64 (q 3).f)).setCell { block:=pb,off:=11 } (.int .u64 (q 3).l)) pb (whF q) tk fo:=by
 have hr:∀ i,12≤i→((((((((((((w.setCell { block:=pb,off:=0 } (.bool (q 0).e)).setCell { block:=pb,off:=1 } (.int .u64 (q 0).f)).setCell { block:=pb,off:=2 } (.int .u64 (q 0).l)).setCell { block:=pb,off:=3 } (.bool (q 1).e)).setCell { block:=pb,off:=4 } (.int .u64 (q 1).f)).setCell { block:=pb,off:=5 } (.int .u64 (q 1).l)).setCell { block:=pb,off:=6 } (.bool (q 2).e)).setCell { block:=pb,off:=7 } (.int .u64 (q 2).f)).setCell { block:=pb,off:=8 } (.int .u64 (q 2).l)).setCell { block:=pb,off:=9 } (.bool (q 3).e)).setCell { block:=pb,off:=10 } (.int .u64 (q 3).f)).setCell { block:=pb,off:=11 } (.int .u64 (q 3).l)).cell? ⟨pb,i,none⟩=w.cell? ⟨pb,i,none⟩:=fun i hi=>by
  rw[aA (by omega)]
  rw[aA (by omega)]
  rw[aA (by omega)]
  rw[aA (by omega)]
  rw[aA (by omega)]
  rw[aA (by omega)]
  rw[aA (by omega)]
  rw[aA (by omega)]
  rw[aA (by omega)]
  rw[aA (by omega)]
  rw[aA (by omega)]
  rw[aA (by omega)]
 refine⟨fun i hi=>?_,fun b hb=>(hr _ (by omega)).trans (h.ht b hb),fun s a hs ha=>(hr _ (by omega)).trans (h.hf s a hs ha),fun i hi=>(i8 w pb (.bool (q 0).e) (.int .u64 (q 0).f) (.int .u64 (q 0).l) (.bool (q 1).e) (.int .u64 (q 1).f) (.int .u64 (q 1).l) (.bool (q 2).e) (.int .u64 (q 2).f) (.int .u64 (q 2).l) (.bool (q 3).e) (.int .u64 (q 3).f) (.int .u64 (q 3).l) _).trans (h.fz i hi)⟩
 have hex:∀ j,j<12→(w.cell? ⟨pb,j,none⟩).isSome=true:=fun j hj=>by rw[h.hw j hj];rfl
 obtain rfl | rfl | rfl | rfl | rfl | rfl | rfl | rfl | rfl | rfl | rfl | rfl:i=0∨i=1∨i=2∨i=3∨i=4∨i=5∨i=6∨i=7∨i=8∨i=9∨i=10∨i=11:=by omega
 all_goals
  repeat rw[aA (by decide)]
  rw[World.cell?_setCell_same' _ _ _ ?_]
  ·rfl
  ·repeat rw[aA (by decide)]
   exact hex _ (by decide)
def aJw (w:World) (ok:Bool) (q:Piece) (s:St) (e:Ending) (w':World):Prop:=Fr [] w w' ∧
 if ok=true then ∃ pb,w.heap.size≤pb∧e=.returned (.tuple #[.pointer (some ⟨pb,0,none⟩),.int .i64 0,.int .i64 0])∧dS w' pb (whF q) s.tk s.fo
 else e=.returned (.tuple #[.pointer none,.int .i64 s.pos,.int .i64 2])
theorem aTv (t:ByteArray)(w:World)(hs:t.size≤50)(hT:Tab w) :
  Calls prog 139 #[.string t] w (aJw w (gD t) (eW t).1 (eW t).2):=by
 have hm:prog.follows Departure.mixedOrders=true:=by kernel_rfl
 have g1:¬ ((50:Int)<t.size):=by omega
 have hw0:=hT.lt
 have hal:=fun (W:World) (r pb:Nat) (hW:M W r pb t wh0 st0)=>(aTq 400).1 W r pb t wh0 st0 hW (nW t) hs (by simp[st0];omega)
 unfold uW at hal
 have gv:=(eY t 400).alt st0 (nW t)
 have gpos:=gv.inv.pos
 unfold gD
 change ∀ (W:World) (r pb:Nat),M W r pb t wh0 st0→Calls prog 150 _ W fun e w'=>e=Ending.returned (pv (eW t).1)∧M w' r pb t wh0 (eW t).2∧Fr [r,pb] W w' at hal
 change (eW t).2.pos≤t.size at gpos
 obtain⟨q,hq⟩:=eX ((eW t).1)
 obtain⟨s1,hs1⟩:∃ q,(eW t).2=q:=⟨_,rfl⟩
 simp only[hq,hs1] at hal gpos ⊢
 clear hq hs1 gv
 have Hal:Hid _:=hal
 clear hal
 have f0:Fr [] w ((w.alloc (Obj.cells zeroCells222 222)).alloc (Obj.cells #[Value.string t,Value.int IntKind.i64 0,Value.bool false,Value.int IntKind.i64 0,Value.pointer (some { block:=w.heap.size,off:=0 })] 224)):=((Fr.refl [] _).alloc _).alloc _
 have m0:M ((w.alloc (Obj.cells zeroCells222 222)).alloc (Obj.cells #[Value.string t,Value.int IntKind.i64 0,Value.bool false,Value.int IntKind.i64 0,Value.pointer (some { block:=w.heap.size,off:=0 })] 224)) (w.heap.size+1) w.heap.size t wh0 st0:=by
  have hr:=eQ (w.alloc (Obj.cells zeroCells222 222)) [Value.string t,Value.int IntKind.i64 0,Value.bool false,Value.int IntKind.i64 0,Value.pointer (some { block:=w.heap.size,off:=0 })] 224
  have hz:=dL (w.alloc (Obj.cells zeroCells222 222)) [Value.string t,Value.int IntKind.i64 0,Value.bool false,Value.int IntKind.i64 0,Value.pointer (some { block:=w.heap.size,off:=0 })] 224
  rw[World.size_alloc] at hr hz
  exact⟨⟨hr 0,hr 1,hr 2,hr 3,hr 4,hz 1,hz 2,hz 3⟩,(dS.new w).fr ((Fr.refl [] _).alloc _) (by simp),hT.fr f0 (by simp),by omega,by omega,by omega⟩
 go_enter func139,ntmps139
 go_wp2
 generalize (w.alloc (Obj.cells zeroCells222 222)).alloc (Obj.cells #[Value.string t,Value.int IntKind.i64 0,Value.bool false,Value.int IntKind.i64 0,Value.pointer (some { block:=w.heap.size,off:=0 })] 224)=W0 at *
 refine aE (fun w1=>w1.cell? ⟨w.heap.size+1,4,none⟩=some (.pointer (some ⟨w.heap.size,0,none⟩))) hm ?_
 have hS:(fun w1:World=>w1.cell? ⟨w.heap.size+1,4,none⟩=some (.pointer (some ⟨w.heap.size,0,none⟩))) W0.drew:=m0.rd.c4
 refine aH (fun _ _ _ _ _ h=>h) hS [0,1] (by kernel_rfl) ?_
 iterate 2
  refine Yls.cons (v:=?_) rfl (.inl ⟨rfl,fun w1 hS1=>?_⟩) ?_
  rotate_left
  ·have s4:w1.cell? ⟨w.heap.size+1,4,none⟩=some (.pointer (some ⟨w.heap.size,0,none⟩)):=hS1
   go_simp
   rfl
  simp only[Act.put,Z1,Z2,Z3]
 refine Yls.nil ?_
 refine rd1 (r:=2) (by kernel_rfl) rfl fun K hK=>?_
 go_simp
 refine (Hal.out _ _ _ (m0.heap (w':=W0.drew) rfl)).mono ?_
 rintro e Wa ⟨rfl,ma,fa⟩
 have fa:Fr [w.heap.size+1,w.heap.size] W0 Wa:=⟨fa.os,fa.tape,fa.output,fa.size,fa.block⟩
 have Fa:Fr [] w Wa:=f0.trans' fa (by simp)
 unfold pv
 clear hS
 have hS:=ma.rd.c4
 refine hK _ _ hS ?_
 clear hK K
 intro _
 refine aH (fun _ _ _ _ _ h=>h) hS [3,4] (by kernel_rfl) ?_
 iterate 2
  refine Yls.cons (v:=?_) rfl (.inl ⟨rfl,fun w1 hS1=>?_⟩) ?_
  rotate_left
  ·go_simp
   rfl
  simp only[Act.put,Z1,Z2,Z3]
 refine Yls.nil ?_
 have y0:Wa.cell? ⟨w.heap.size,0,none⟩=some (.bool false):=ma.pat.hw 0 (by decide)
 have z0:=ma.pat.fz 0 (by decide)
 have y1:Wa.cell? ⟨w.heap.size,1,none⟩=some (.int .u64 0):=ma.pat.hw 1 (by decide)
 have z1:=ma.pat.fz 1 (by decide)
 have y2:Wa.cell? ⟨w.heap.size,2,none⟩=some (.int .u64 0):=ma.pat.hw 2 (by decide)
 have z2:=ma.pat.fz 2 (by decide)
 have y3:Wa.cell? ⟨w.heap.size,3,none⟩=some (.bool false):=ma.pat.hw 3 (by decide)
 have z3:=ma.pat.fz 3 (by decide)
 have y4:Wa.cell? ⟨w.heap.size,4,none⟩=some (.int .u64 0):=ma.pat.hw 4 (by decide)
 have z4:=ma.pat.fz 4 (by decide)
 have y5:Wa.cell? ⟨w.heap.size,5,none⟩=some (.int .u64 0):=ma.pat.hw 5 (by decide)
 have z5:=ma.pat.fz 5 (by decide)
 have y6:Wa.cell? ⟨w.heap.size,6,none⟩=some (.bool false):=ma.pat.hw 6 (by decide)
 have z6:=ma.pat.fz 6 (by decide)
 have y7:Wa.cell? ⟨w.heap.size,7,none⟩=some (.int .u64 0):=ma.pat.hw 7 (by decide)
 have z7:=ma.pat.fz 7 (by decide)
 have y8:Wa.cell? ⟨w.heap.size,8,none⟩=some (.int .u64 0):=ma.pat.hw 8 (by decide)
 have z8:=ma.pat.fz 8 (by decide)
 have y9:Wa.cell? ⟨w.heap.size,9,none⟩=some (.bool false):=ma.pat.hw 9 (by decide)
 have z9:=ma.pat.fz 9 (by decide)
 have y10:Wa.cell? ⟨w.heap.size,10,none⟩=some (.int .u64 0):=ma.pat.hw 10 (by decide)
 have z10:=ma.pat.fz 10 (by decide)
 have y11:Wa.cell? ⟨w.heap.size,11,none⟩=some (.int .u64 0):=ma.pat.hw 11 (by decide)
 have z11:=ma.pat.fz 11 (by decide)
 refine rd1 (r:=5) (by kernel_rfl) rfl fun K hK=>?_
 go_simp
 clear y0 z0 y1 z1 y2 z2 y3 z3 y4 z4 y5 z5 y6 z6 y7 z7 y8 z8 y9 z9 y10 z10 y11 z11
 have Pb:=ma.pat.setWhole q
 have fb:=fJ Wa w.heap.size (.bool (q 0).e) (.int .u64 (q 0).f) (.int .u64 (q 0).l) (.bool (q 1).e) (.int .u64 (q 1).f) (.int .u64 (q 1).l) (.bool (q 2).e) (.int .u64 (q 2).f) (.int .u64 (q 2).l) (.bool (q 3).e) (.int .u64 (q 3).f) (.int .u64 (q 3).l)
 have rb:=ma.rd.of_block (fb.block (w.heap.size+1) ma.rlt (by simp))
 have Fb:Fr [] w ((((((((((((Wa.setCell { block:=w.heap.size,off:=0 } (.bool (q 0).e)).setCell { block:=w.heap.size,off:=1 } (.int .u64 (q 0).f)).setCell { block:=w.heap.size,off:=2 } (.int .u64 (q 0).l)).setCell { block:=w.heap.size,off:=3 } (.bool (q 1).e)).setCell { block:=w.heap.size,off:=4 } (.int .u64 (q 1).f)).setCell { block:=w.heap.size,off:=5 } (.int .u64 (q 1).l)).setCell { block:=w.heap.size,off:=6 } (.bool (q 2).e)).setCell { block:=w.heap.size,off:=7 } (.int .u64 (q 2).f)).setCell { block:=w.heap.size,off:=8 } (.int .u64 (q 2).l)).setCell { block:=w.heap.size,off:=9 } (.bool (q 3).e)).setCell { block:=w.heap.size,off:=10 } (.int .u64 (q 3).f)).setCell { block:=w.heap.size,off:=11 } (.int .u64 (q 3).l)):=Fa.trans' fb (by simp)
 generalize ((((((((((((Wa.setCell { block:=w.heap.size,off:=0 } (.bool (q 0).e)).setCell { block:=w.heap.size,off:=1 } (.int .u64 (q 0).f)).setCell { block:=w.heap.size,off:=2 } (.int .u64 (q 0).l)).setCell { block:=w.heap.size,off:=3 } (.bool (q 1).e)).setCell { block:=w.heap.size,off:=4 } (.int .u64 (q 1).f)).setCell { block:=w.heap.size,off:=5 } (.int .u64 (q 1).l)).setCell { block:=w.heap.size,off:=6 } (.bool (q 2).e)).setCell { block:=w.heap.size,off:=7 } (.int .u64 (q 2).f)).setCell { block:=w.heap.size,off:=8 } (.int .u64 (q 2).l)).setCell { block:=w.heap.size,off:=9 } (.bool (q 3).e)).setCell { block:=w.heap.size,off:=10 } (.int .u64 (q 3).f)).setCell { block:=w.heap.size,off:=11 } (.int .u64 (q 3).l))=Wb at *
 refine hK _ _ rb.c4 ?_
 clear hK K hS
 intro _
 refine wpAnyH_done (by kernel_rfl) ?_ _
 have c2:=rb.c2
 have c1:=rb.c1
 have c4:=rb.c4
 have g2:(s1.pos:Int)≤50:=by omega
 cases hf:s1.fault
 ·rw[hf] at c2
  by_cases hlt:s1.pos<t.size
  ·have g3:decide ((s1.pos:Int)<(t.size:Int))=true:=by simp;omega
   go_wp2
   refine mQ hm (by kernel_rfl) ?_
   repeat still_step
   refine wpStill_nil ?_
   go_wp2
   go_ret3
   refine⟨Fb.drew,?_⟩
   rw[if_neg (by rw[hf];simp;omega)]
   rfl
  ·have g3:decide ((s1.pos:Int)<(t.size:Int))=false:=by simp;omega
   go_wp2
   go_ret3
   refine⟨Fb,?_⟩
   rw[if_pos (by rw[hf];simp;omega)]
   exact⟨w.heap.size,Nat.le_refl _,rfl,Pb⟩
 ·rw[hf] at c2
  go_wp2
  refine mQ hm (by kernel_rfl) ?_
  repeat still_step
  refine wpStill_nil ?_
  go_wp2
  go_ret3
  refine⟨Fb.drew,?_⟩
  rw[if_neg (by rw[hf];simp)]
  rfl
open Wire
def ipF (t:ByteArray):Bool:=decide (t.size≤50) && gD t
theorem qV (t:ByteArray)(w:World)(hm:t.size≤maxLen)(hT:Tab w):Calls prog 121 #[.string t] w fun e w'=>e=.returned (.bool (ipF t))∧Fr [] w w':=by
 unfold ipF
 by_cases h:t.size≤50
 ·have hr:=aTv t w h hT
  unfold aJw at hr
  cases hok:gD t with
  | true=>
   simp only[hok] at hr
   have e:(decide (t.size≤50) && true)=true:=by simp[h]
   rw[e]
   clear e hok h
   go_enter func121,ntmps121
   go_wp2_with fail
   refine hr.mono ?_
   rintro e w1 ⟨hf,hp⟩
   rw[if_pos trivial] at hp
   obtain⟨pb,-,rfl,-⟩:=hp
   clear hr
   go_wp2
   go_ret
   exact⟨rfl,hf⟩
  | false=>
   simp only[hok] at hr
   have e:(decide (t.size≤50) && false)=false:=by simp
   rw[e]
   clear e hok h
   go_enter func121,ntmps121
   go_wp2_with fail
   refine hr.mono ?_
   rintro e w1 ⟨hf,hp⟩
   rw[if_neg (by simp)] at hp
   subst hp
   clear hr
   go_wp2
   go_ret
   exact⟨rfl,hf⟩
 ·have hr:=aPk t w (by omega) hm
  have e:(decide (t.size≤50) && gD t)=false:=by simp[h]
  rw[e]
  clear e
  unfold maxLen at hm
  go_enter func121,ntmps121
  go_wp2_with fail
  refine hr.mono ?_
  rintro e w1 ⟨rfl,rfl⟩
  clear hr
  go_wp2
  go_ret
  exact⟨rfl,Fr.refl _ _⟩
theorem qS (i:Nat)(w:World):Calls prog 140 #[.int .i64 i] w fun e w'=>e=.returned (.int .i64 (if i<3 then 0 else 8))∧w'=w:=by
 by_cases h:i<3
 ·have g:(i:Int)<3:=by omega
  rw[if_pos h]
  go_enter func140,ntmps140
  go_wp2
  go_ret
  exact⟨rfl,rfl⟩
 ·have g:¬ (i:Int)<3:=by omega
  rw[if_neg h]
  go_enter func140,ntmps140
  go_wp2
  go_ret
  exact⟨rfl,rfl⟩
theorem aAi (A:List Wire.Fn)(x:Wire.Fn)(i:Nat):bC (A++[x]) i=(bC A i && fI x (i+A.length)):=by
 induction A generalizing i with
 | nil=>simp[bC]
 | cons a A ih=>
  simp only[List.cons_append,bC,ih,Bool.and_assoc,List.length_cons]
  rw[show i+1+A.length=i+(A.length+1) by omega]
theorem tR (L:List Wire.Fn)(k:Nat)(h:k<L.length)(ha:bC (L.take k) 0=true):bC (L.take (k+1)) 0=fI L[k] k:=by
 rw[List.take_succ_eq_append_getElem h,aAi,ha,List.length_take,Nat.min_eq_left (by omega)]
 simp
theorem aDx (L:List Wire.Fn)(i k:Nat)(h:k<L.length)(ha:bC L i=true):fI L[k] (i+k)=true:=by
 induction L generalizing i k with
 | nil=>simp at h
 | cons a L ih=>
  simp only[bC,Bool.and_eq_true] at ha
  cases k with
  | zero=>simpa using ha.1
  | succ k=>
   have:=ih (i+1) k (by simpa using h) ha.2
   simpa [show i+1+k=i+(k+1) by omega] using this
theorem tS (L:List Wire.Fn)(k:Nat)(h:k<L.length)(ha:fI L[k] k=false):bC L 0=false:=by
 cases hl:bC L 0 with
 | false=>rfl
 | true=>have:=aDx L 0 k h hl;rw[Nat.zero_add,ha] at this;cases this
def mkB (l:List UInt8):ByteArray:=⟨l.toArray⟩
theorem tQ (l:List UInt8):(mkB l).size=l.length:=aDt l
theorem aYe (a b:List UInt8):mkB a++mkB b=mkB (a++b):=by
 apply ByteArray.ext
 simp[mkB]
theorem zK (l:List UInt8):bl (mkB l)=l:=X2 l
theorem aOm (m:Mo):body m=[71,76,1]++bR 1 (aZ m.texts)++bR 2 (aZ m.pats)++bR 3 (aY m.globs.toNat)++bR 4 (aY m.arrs.toNat)++bR 5 (gZ m.fns):=by
 simp[body]
theorem qJ (m:Mo)(ip:ByteArray→Bool)(h:cE ip m=true):(body m).length≤100000000:=by
 obtain⟨q1,q2,q3,q4,q5,q6,q7,q8,q9,q10,q11⟩:=Wire.within_iff.1 h
 have f11:=qU _ _ q11
 obtain⟨l1,n1⟩:=kZ m.texts q9 q1
 obtain⟨l2,n2⟩:=kZ m.pats (fun s hs=>by have:=(q10 s hs).1;omega) q2
 have l3:=cQ m.globs.toNat
 have l4:=cQ m.arrs.toNat
 obtain⟨l5,n5⟩:=T5 m.fns (fun s hs=>(f11 s hs).1) q4
 have s1:=fU 1 (aZ m.texts)
 have s2:=fU 2 (aZ m.pats)
 have s3:=fU 3 (aY m.globs.toNat)
 have s4:=fU 4 (aY m.arrs.toNat)
 have s5:=fU 5 (gZ m.fns)
 rw[p9]
 omega
def jQ (m:Mo):ByteArray:=if cE ipF m=true∧(Wire.written m).length≤40000 then mkB (Wire.written m) else ⟨#[]⟩
def pA (m:Mo):Int:=if cE ipF m=true∧(Wire.written m).length≤40000 then 0 else 4
structure RdC (w:World) (r:Nat) (b:ByteArray) (a e p er:Nat):Prop where
 c0:w.cell? ⟨r,0,none⟩=some (.string b)
 c1:w.cell? ⟨r,1,none⟩=some (.int .i64 a)
 c2:w.cell? ⟨r,2,none⟩=some (.int .i64 e)
 c3:w.cell? ⟨r,3,none⟩=some (.int .i64 p)
 c4:w.cell? ⟨r,4,none⟩=some (.int .i64 er)
 f1:w.frozen? ⟨r,1,none⟩=false
 f2:w.frozen? ⟨r,2,none⟩=false
 f3:w.frozen? ⟨r,3,none⟩=false
 f4:w.frozen? ⟨r,4,none⟩=false
theorem RdC.of_block {w w':World}{r:Nat}{b:ByteArray}{a e p er:Nat} (h:RdC w r b a e p er) (hb:w'.heap[r]?=w.heap[r]?):RdC w' r b a e p er:=
 ⟨(World.cell?_of_block (w:=w) (a:=⟨r,0,none⟩) hb).trans h.c0,(World.cell?_of_block (w:=w) (a:=⟨r,1,none⟩) hb).trans h.c1,(World.cell?_of_block (w:=w) (a:=⟨r,2,none⟩) hb).trans h.c2,
   (World.cell?_of_block (w:=w) (a:=⟨r,3,none⟩) hb).trans h.c3,(World.cell?_of_block (w:=w) (a:=⟨r,4,none⟩) hb).trans h.c4,
   (World.frozen?_of_block (w:=w) (a:=⟨r,1,none⟩) hb).trans h.f1,(World.frozen?_of_block (w:=w) (a:=⟨r,2,none⟩) hb).trans h.f2,
   (World.frozen?_of_block (w:=w) (a:=⟨r,3,none⟩) hb).trans h.f3,(World.frozen?_of_block (w:=w) (a:=⟨r,4,none⟩) hb).trans h.f4⟩
theorem RdC.lt {w:World}{r:Nat}{b:ByteArray}{a e p er:Nat} (h:RdC w r b a e p er):r<w.heap.size:=aC (a:=⟨r,0,none⟩) h.c0
theorem RdC.fr {S:List Nat}{w w':World}{r:Nat}{b:ByteArray}{a e p er:Nat} (h:RdC w r b a e p er) (hf:Fr S w w') (hr:r ∉ S):RdC w' r b a e p er:=h.of_block (hf.block r h.lt hr)
theorem aP {w:World}{b i:Nat}{u v:Value} (h:w.cell? ⟨b,i,none⟩=some u):(w.setCell ⟨b,i,none⟩ v).cell? ⟨b,i,none⟩=some v:=World.cell?_setCell_same' _ _ _ (by rw[h];rfl)
theorem RdC.set1 {w:World}{r:Nat}{b:ByteArray}{a e p er:Nat} (h:RdC w r b a e p er) (x:Nat):RdC (w.setCell ⟨r,1,none⟩ (.int .i64 x)) r b x e p er:=
 ⟨(aA (by decide)).trans h.c0,aP h.c1,(aA (by decide)).trans h.c2,(aA (by decide)).trans h.c3,(aA (by decide)).trans h.c4,
   by rw[wfz];exact h.f1,by rw[wfz];exact h.f2,by rw[wfz];exact h.f3,by rw[wfz];exact h.f4⟩
theorem RdC.set2 {w:World}{r:Nat}{b:ByteArray}{a e p er:Nat} (h:RdC w r b a e p er) (x:Nat):RdC (w.setCell ⟨r,2,none⟩ (.int .i64 x)) r b a x p er:=
 ⟨(aA (by decide)).trans h.c0,(aA (by decide)).trans h.c1,aP h.c2,(aA (by decide)).trans h.c3,(aA (by decide)).trans h.c4,
   by rw[wfz];exact h.f1,by rw[wfz];exact h.f2,by rw[wfz];exact h.f3,by rw[wfz];exact h.f4⟩
theorem mU {b:ByteArray}{a e:Nat} (h:a<e) (he:e≤b.size):seg (bl b) a e=b[a] :: seg (bl b) (a+1) e:=by
 have hL:=aD b
 unfold seg
 have hlt:a<((bl b).take e).length:=by rw[List.length_take];omega
 rw[List.drop_eq_getElem_cons hlt,List.getElem_take]
 congr 1
theorem bZ (b:ByteArray)(a e:Nat):bl (b.extract a e)=seg (bl b) a e:=by
 unfold bl seg
 rw[ByteArray.data_extract,Array.toList_extract,List.drop_take]
end Go.Proofs.YtgpamchpeamnfaaGreatDoor
namespace Go.Proofs
open Go.Shelf
def lays169_ren:Go.Shelf.Ren:=⟨fun | 169=>173 | n=>n,fun | 70=>245 | 9=>9 | 0=>0 | 72=>247 | 37=>105 | 127=>238 | 3=>3 | 5=>5 | n=>n,fun | n=>n⟩
theorem lays169:Go.Proofs.Lays.n169 prog lays169_ren:={
 mixed:=by kernel_rfl
 f169:=func173.trans (congrArg some (by kernel_rfl))
 t0:=underlying0
 a0:=isAgg0
 z0:=sizeOf0
 v0:=zeroValue0
 t3:=underlying3
 a3:=isAgg3
 z3:=sizeOf3
 v3:=zeroValue3
 t9:=underlying9
 a9:=isAgg9
 z9:=sizeOf9
 v9:=zeroValue9
 t37:=underlying105
 a37:=isAgg105
 z37:=sizeOf105
 v37:=zeroValue105
 t70:=underlying245
 a70:=isAgg245
 z70:=sizeOf245
 v70:=zeroValue245
 t72:=underlying247
 a72:=isAgg247
 z72:=sizeOf247
 v72:=zeroValue247
 t127:=underlying238
 a127:=isAgg238
 z127:=sizeOf238
 v127:=zeroValue238 }
theorem Builder_Extra_169:Builder.Extra prog lays169_ren:={
 sizeBuilder:=by kernel_rfl
 liesBuilder:=by kernel_rfl
 t5:=underlying5
 a5:=isAgg5
 z5:=sizeOf5
 v5:=zeroValue5
 infoByte:=by kernel_rfl
 cellsByte:=by kernel_rfl
 sizeByte:=by kernel_rfl
 neB5:=by decide }
open Go.RowKit in
open Go.RowKit in
open Go.RowKit in
open Go.RowKit in
open Go.RowKit in
open Go.RowKit in
open Go.RowKit in
open Go.RowKit in
open Go.RowKit in
theorem Builder_String_any_k (B b:Nat)(l:List UInt8)(w:World)(h:Lib.IsBuilderF 247 5 B b (Lib.byteCells l) w)(hBw:B≤w.heap.size) :
  Calls prog 173 #[.pointer (some ⟨b,0,none⟩)] w fun e w'=>e=.returned (.string ⟨l.toArray⟩)∧(Lib.IsBuilderF 247 5 B b (Lib.byteCells l) w'∧Below B w w'∧Lib.OthersKept 5 (some b) w w'):=Any.Builder_String_any_k lays169 Builder_Extra_169 B b l w h hBw
def laysM316_ren:Go.Shelf.Ren:=⟨fun | 316=>149 | n=>n,fun | 9=>9 | 3=>3 | 4=>4 | 37=>105 | 0=>0 | 127=>238 | 5=>5 | n=>n,fun | n=>n⟩
theorem laysM316:Go.Proofs.LaysM.n316 prog laysM316_ren:={
 mixed:=by kernel_rfl
 f316:=func149.trans (congrArg some (by kernel_rfl))
 t0:=underlying0
 a0:=isAgg0
 z0:=sizeOf0
 v0:=zeroValue0
 t3:=underlying3
 a3:=isAgg3
 z3:=sizeOf3
 v3:=zeroValue3
 t4:=underlying4
 a4:=isAgg4
 z4:=sizeOf4
 v4:=zeroValue4
 t9:=underlying9
 a9:=isAgg9
 z9:=sizeOf9
 v9:=zeroValue9
 t37:=underlying105
 a37:=isAgg105
 z37:=sizeOf105
 v37:=zeroValue105
 t127:=underlying238
 a127:=isAgg238
 z127:=sizeOf238
 v127:=zeroValue238
 t5:=underlying5
 a5:=isAgg5
 z5:=sizeOf5
 v5:=zeroValue5
 i0:=by kernel_rfl
 i3:=by kernel_rfl
 i4:=by kernel_rfl
 i5:=by kernel_rfl
 i9:=by kernel_rfl
 i37:=by kernel_rfl
 i127:=by kernel_rfl }
open Go.RowKit in
theorem stringslite_Clone (s:ByteArray)(w:World)(hlim:s.size≤281474976710656) :
  Calls prog 149 #[.string s] w fun e w'=>e=.returned (.string s)∧Below w.heap.size w w':=Any.stringslite_Clone laysM316 s w hlim
end Go.Proofs
namespace Go.Proofs.YtgpamchpeamnfaaGreatDoor
open Go.RowKit
open Wire
theorem T8 (s:ByteArray)(w:World)(hs:s.size≤100000):Calls prog 138 #[.string s] w fun e w'=>e=.returned (.string s)∧Fr [] w w':=by
 have hc:=stringslite_Clone s w (by omega)
 go_enter func138,ntmps138
 go_wp2_with fail
 refine hc.mono ?_
 rintro e w1 ⟨rfl,lo⟩
 go_wp2
 go_ret
 exact⟨rfl,Fr.of_below lo⟩
theorem rF (l:List UInt8)(a e x:Nat)(h:a+x≤e):(seg l a e).take x=seg l a (a+x):=by
 unfold seg
 rw[List.drop_take,List.drop_take,List.take_take]
 congr 1
 omega
theorem Q8:(prog.info? 9).map (fun i=>(i.zero,i.size,i.bytes))=some (some (.string ⟨#[]⟩),1,16):=by kernel_rfl
def aIv {α:Type} (acc:List α) (e:Nat):((Nat × Nat) ⊕ (List α × List UInt8))→Sta × List α
 | .inl f=>(.inl f,[])
 | .inr p=>(.inr (e-p.2.length,e),acc++p.1)
structure oG (r:Nat) (w0:World) (L:List ByteArray) (v:Value) (W:World):Prop where
 own:W.ownsRow w0.heap.size 9 1 v L.length (L.map Value.string)
 fr:Fr [r] w0 W
theorem oG.start {r:Nat}{w0 w1:World} (hf:Fr [r] w0 w1):oG r w0 [] (.slice none 0 0) w1:=⟨World.ownsRow_nil _ _ _ _,hf⟩
theorem aHa {r:Nat}{w0 W W':World}{e:TypeId}{size n:Nat}{xs:List Value}{v:Value} (h:W.ownsRow w0.heap.size e size v n xs) (hr:r<w0.heap.size) (hf:Fr [r] W W'):W'.ownsRow w0.heap.size e size v n xs:=by
 refine h.kept (row:=some r) ⟨hf.os,hf.tape,hf.output,hf.size,fun k hk hn=>hf.block k hk (by simpa using fun e=>hn (by rw[e]))⟩ ?_
 cases hv:v.ownBlock with
 | none=>exact .inl rfl
 | some k=>
  refine .inr fun e=>?_
  have:=(h.lt k hv).1
  simp only[Option.some.injEq] at e
  omega
theorem oG.kept {r:Nat}{w0:World}{L:List ByteArray}{v:Value}{W W':World} (h:oG r w0 L v W) (hr:r<w0.heap.size) (hf:Fr [r] W W'):oG r w0 L v W':=⟨aHa h.own hr hf,h.fr.trans hf⟩
theorem aIq {r:Nat}{w0 W W':World}{e:TypeId}{size n:Nat}{xs:List Value}{v:Value} (h:W.ownsRow w0.heap.size e size v n xs) (hf:Fr [r] w0 W) (hg:W.grownBy W' v.ownBlock):Fr [r] w0 W':=by
 refine⟨hg.os.trans hf.os,hg.tape.trans hf.tape,hg.output.trans hf.output,Nat.le_trans hf.size hg.size,fun k hk hn=>?_⟩
 have h1:=hf.size
 rw[hg.block k (by omega) (fun e=>by have:=(h.lt k e.symm).1;omega),hf.block k hk hn]
theorem oG.grown {r:Nat}{w0:World}{L:List ByteArray}{v v':Value}{W W':World}{s:ByteArray} (h:oG r w0 L v W) (hown:W'.ownsRow w0.heap.size 9 1 v' (L.length+1) (L.map Value.string++[.string s])) (hg:W.grownBy W' v.ownBlock):oG r w0 (L++[s]) v' W':=
 ⟨by rw[Lla,List.map_append];exact hown,aIq h.own h.fr hg⟩
theorem vK {B:Nat}{S:List Nat}{W W':World}{e:TypeId}{size n:Nat}{xs:List Value}{v:Value} (h:W.ownsRow B e size v n xs) (hf:Fr S W W') (hS:∀ x,x ∈ S→x<B):W'.ownsRow B e size v n xs:=by
 refine⟨h.1,?_⟩
 rcases h.2 with h' | ⟨g,cap,cur,hv,hg,hh,r⟩
 ·exact .inl h'
 ·exact .inr ⟨g,cap,cur,hv,hg,by rw[hf.block g (Age.1 hh).1 (fun hm=>by have:=hS g hm;omega)];exact hh,r⟩
theorem D1 {W:World}{B B':Nat}{e:TypeId}{k:Nat}{v:Value}{n:Nat}{xs:List Value} (h:W.ownsRow B e k v n xs) (hb:B'≤B):W.ownsRow B' e k v n xs:=by
 refine⟨h.1,?_⟩
 rcases h.2 with h' | ⟨g,cap,cur,hv,hg,r⟩
 ·exact .inl h'
 ·exact .inr ⟨g,cap,cur,hv,Nat.le_trans hb hg,r⟩
def bW (B:Nat) (W:World) (v:Value) (L:List ByteArray):Prop:=
 ∃ (a0:Option Addr) (cap g off:Nat),v=.slice a0 L.length cap∧L.length≤cap∧(0<L.length→a0=some ⟨g,off,none⟩∧g<W.heap.size∧B≤g) ∧
  (∀ (i:Nat) (x:ByteArray),L[i]?=some x→W.cell? ⟨g,off+i,none⟩=some (.string x))∧W.ownsRow B 9 1 v L.length (L.map Value.string)
theorem bW.own {B:Nat}{W:World}{v:Value}{L:List ByteArray} (h:bW B W v L):W.ownsRow B 9 1 v L.length (L.map Value.string):=by
 obtain⟨a0,cap,g,off,h1,h2,h3,h4,h5⟩:=h
 exact h5
theorem bW.strs {B:Nat}{W:World}{v:Value}{L:List ByteArray} (h:bW B W v L):nO W v L:=by
 obtain⟨a0,cap,g,off,h1,h2,h3,h4,h5⟩:=h
 exact⟨a0,cap,g,off,h1,h2,fun h=>⟨(h3 h).1,(h3 h).2.1⟩,h4⟩
theorem bW.fr {B:Nat}{S:List Nat}{W W':World}{v:Value}{L:List ByteArray} (h:bW B W v L) (hf:Fr S W W') (hS:∀ x,x ∈ S→x<B):bW B W' v L:=by
 obtain⟨a0,cap,g,off,h1,h2,h3,h4,h5⟩:=h
 refine⟨a0,cap,g,off,h1,h2,fun h=>⟨(h3 h).1,Nll (h3 h).2.1 hf.size,(h3 h).2.2⟩,fun i x hi=>?_,vK h5 hf hS⟩
 have h0:0<L.length:=by have:=(Lgs.1 hi).1;omega
 exact (hf.cell (p:=⟨g,off+i,none⟩) (h3 h0).2.1 (fun hm=>by have:=hS g hm;have:=(h3 h0).2.2;omega)).trans (h4 i x hi)
theorem oG.far {r:Nat}{w0:World}{L:List ByteArray}{v:Value}{W:World} (h:oG r w0 L v W):bW w0.heap.size W v L:=by
 rcases h.own.2 with ⟨hv,h0⟩ | ⟨g,cap,cur,hv,hb,hg,hn,_⟩
 ·have hL:=List.eq_nil_of_length_eq_zero h0
  subst hL
  exact⟨none,0,0,0,hv,Nat.le_refl _,fun h=>absurd h (Nat.lt_irrefl _),(fun i x hx=>by cases hx),h.own⟩
 ·refine⟨some ⟨g,0,none⟩,cap,g,0,hv,hn,fun _=>⟨rfl,(Age.1 hg).1,hb⟩,fun i x hx=>?_,h.own⟩
  have:=h.own.cells (g:=g) (by rw[hv];rfl) i (.string x) (by rw[List.getElem?_map,hx];rfl)
  rcases i with _ | i
  ·simpa [Addr.add] using this
  ·simpa [Addr.add] using this
def uY:Value→Nat
 | .slice _ n _=>n
 | _=>0
theorem oG.form {r:Nat}{w0:World}{L:List ByteArray}{v:Value}{W:World} (h:oG r w0 L v W):∃ a0 cap,v=.slice a0 L.length cap:=by
 rcases h.own.2 with ⟨hv,h0⟩ | ⟨g,cap,cur,hv,_⟩
 ·exact⟨none,0,by rw[hv,h0]⟩
 ·exact⟨_,cap,hv⟩
theorem mZ (s:ByteArray):∀ u ∈ [Value.string s],u.oneCell'=true:=by intro u hu;simp at hu;subst hu;rfl
end Go.Proofs.YtgpamchpeamnfaaGreatDoor
