/-
  Texts Im In Ja Jb Jc Jd Je Ip Ij Ig Ik Iq Jf Jg Jh Ji Jj Jk Hc Sr Hd He Hf Jl Jm Jn Gf Gg Gh.
-/
import Derived.Deep.CutRange
import Derived.Deep.RegionHeld
import Derived.Laws.OwnMore
import Derived.Deep.LoopGhost
import Derived.Deep.WholeRow
import Derived.BigQuiet
import Derived.Lib.ReflectliteSwap
import Derived.Test.YtclkgoigmgkffaaGreatDoorProg
import Derived.Test.YtclkgoigmgkffaaGreatDoorM03
import Derived.Test.YtclkgoigmgkffaaGreatDoorM18
import Derived.Test.YtclkgoigmgkffaaGreatDoorM02
import Derived.Test.YtclkgoigmgkffaaGreatDoorM01
import Derived.Test.YtclkgoigmgkffaaGreatDoorM15
import Derived.Test.YtclkgoigmgkffaaGreatDoorM14
set_option linter.unusedSimpArgs false
set_option linter.unusedVariables false
set_option maxRecDepth 100000
set_option maxHeartbeats 40000000
namespace Go.Proofs.YtclkgoigmgkffaaGreatDoor
open Go.RowKit
open Wire Flow Mach
theorem setCell_block {W:World}{x z i:Nat}{v:Value} (h:x≠z):(W.setCell ⟨z,i,none⟩ v).heap[x]?=W.heap[x]?:=by
 unfold World.setCell
 simp only[Array.getElem?_modify]
 rw[if_neg (fun e=>h e.symm)]
theorem isNaN_any (n:Int) (w:World):Calls Tryz.prog 248 #[.int .i64 n] w fun e w'=>e=.returned (.bool false)∧w'=w:=by
 go_enter Tryz.func248,Tryz.ntmps248
 go_wp2
 go_ret
 exact⟨rfl,rfl⟩
def cmpI (a b:Nat):Int:=if a<b then -1 else if b<a then 1 else 0
structure FrB (B:Nat) (W W':World):Prop where
 os:W'.os=W.os
 tape:W'.tape=W.tape
 output:W'.output=W.output
 size:W.heap.size≤W'.heap.size
 block:∀ k,k<B→W'.heap[k]?=W.heap[k]?
theorem FrB.trans {B:Nat}{a b c:World} (h:FrB B a b) (k:FrB B b c):FrB B a c:=
 ⟨k.os.trans h.os,k.tape.trans h.tape,k.output.trans h.output,Nat.le_trans h.size k.size,fun i hi=>(k.block i hi).trans (h.block i hi)⟩
theorem FrB.of {B:Nat}{S:List Nat}{W W':World} (h:Fr S W W') (hB:B≤W.heap.size) (hS:∀ x,x ∈ S→B≤x):FrB B W W':=
 ⟨h.os,h.tape,h.output,h.size,fun k hk=>h.block k (by omega) (fun hx=>by have:=hS k hx;omega)⟩
structure FloC (W:World) (B fb kb qb n:Nat) (av mf:Value) (G:List (Option (List Nat))) (Q:List Bool) (more wrong:Bool) (P:Nat→Nat):Prop where
 c4:W.cell? ⟨fb,4,none⟩=some mf
 c5:W.cell? ⟨fb,5,none⟩=some av
 c6:W.cell? ⟨fb,6,none⟩=some (.slice (some ⟨kb,0,none⟩) n n)
 c7:W.cell? ⟨fb,7,none⟩=some (.slice (some ⟨qb,0,none⟩) n n)
 c8:W.cell? ⟨fb,8,none⟩=some (.bool more)
 c9:W.cell? ⟨fb,9,none⟩=some (.bool wrong)
 gl:G.length=n
 ql:Q.length=n
 ks:∀ i,G[i]?=some none→W.cell? ⟨kb,i,none⟩=some (.pointer none)
 kp:∀ i s,G[i]?=some (some s)→W.cell? ⟨kb,i,none⟩=some (.pointer (some ⟨P i,0,none⟩))∧StkC W (P i) s false∧B≤P i∧P i≠fb∧P i≠kb∧P i≠qb
 inj:∀ i j s t,G[i]?=some (some s)→G[j]?=some (some t)→P i=P j→i=j
 qs:∀ i b,Q[i]?=some b→W.cell? ⟨qb,i,none⟩=some (.bool b)
 zf:∀ i,W.frozen? ⟨fb,i,none⟩=false
 zk:∀ i,W.frozen? ⟨kb,i,none⟩=false
 zq:∀ i,W.frozen? ⟨qb,i,none⟩=false
 n1:fb≠kb
 n2:fb≠qb
 n3:kb≠qb
 bf:B≤fb
 bk:B≤kb
 bq:B≤qb
 lk:kb<W.heap.size
 lq:qb<W.heap.size
 hb:BitsG G
theorem FloC.lt {W:World}{B fb kb qb n:Nat}{av mf:Value}{G:List (Option (List Nat))}{Q:List Bool}{more wrong:Bool}{P:Nat→Nat} (h:FloC W B fb kb qb n av mf G Q more wrong P):fb<W.heap.size:=lt_of_cell h.c4
theorem FloC.fr {W W':World}{B fb kb qb n:Nat}{av mf:Value}{G:List (Option (List Nat))}{Q:List Bool}{more wrong:Bool}{P:Nat→Nat} (h:FloC W B fb kb qb n av mf G Q more wrong P)
  {S:List Nat} (hf:Fr S W W') (h1:fb ∉ S) (h2:kb ∉ S) (h3:qb ∉ S) (h4:∀ i s,G[i]?=some (some s)→P i ∉ S):FloC W' B fb kb qb n av mf G Q more wrong P:=by
 have e1:∀ j,W'.cell? ⟨fb,j,none⟩=W.cell? ⟨fb,j,none⟩:=fun j=>hf.cell (p:=⟨fb,j,none⟩) h.lt h1
 have e2:∀ j,W'.cell? ⟨kb,j,none⟩=W.cell? ⟨kb,j,none⟩:=fun j=>hf.cell (p:=⟨kb,j,none⟩) h.lk h2
 have e3:∀ j,W'.cell? ⟨qb,j,none⟩=W.cell? ⟨qb,j,none⟩:=fun j=>hf.cell (p:=⟨qb,j,none⟩) h.lq h3
 refine⟨(e1 _).trans h.c4,(e1 _).trans h.c5,(e1 _).trans h.c6,(e1 _).trans h.c7,(e1 _).trans h.c8,(e1 _).trans h.c9,h.gl,h.ql,fun i hi=>(e2 i).trans (h.ks i hi),fun i s hi=>?_,h.inj,fun i b hi=>(e3 i).trans (h.qs i b hi),
  fun i=>(hf.frozen (p:=⟨fb,i,none⟩) h.lt h1).trans (h.zf i),fun i=>(hf.frozen (p:=⟨kb,i,none⟩) h.lk h2).trans (h.zk i),fun i=>(hf.frozen (p:=⟨qb,i,none⟩) h.lq h3).trans (h.zq i),h.n1,h.n2,h.n3,h.bf,h.bk,h.bq,Nat.lt_of_lt_of_le h.lk hf.size,Nat.lt_of_lt_of_le h.lq hf.size,h.hb⟩
 obtain⟨k1,k2,k3⟩:=h.kp i s hi
 exact⟨(e2 i).trans k1,k2.fr hf (h4 i s hi),k3⟩
theorem far_cell {W:World}{b c i j:Nat}{v:Value} (h:b≠c):(W.setCell ⟨b,i,none⟩ v).cell? ⟨c,j,none⟩=W.cell? ⟨c,j,none⟩:=World.cell?_setCell_other _ _ _ _ (by simp[h])
theorem FloC.setMore {W:World}{B fb kb qb n:Nat}{av mf:Value}{G:List (Option (List Nat))}{Q:List Bool}{more wrong:Bool}{P:Nat→Nat} (h:FloC W B fb kb qb n av mf G Q more wrong P) (b:Bool):FloC (W.setCell ⟨fb,8,none⟩ (.bool b)) B fb kb qb n av mf G Q b wrong P:=by
 refine⟨(setCell_off (by decide)).trans h.c4,(setCell_off (by decide)).trans h.c5,(setCell_off (by decide)).trans h.c6,(setCell_off (by decide)).trans h.c7,cell_set h.c8,(setCell_off (by decide)).trans h.c9,h.gl,h.ql,fun i hi=>(far_cell h.n1).trans (h.ks i hi),fun i s hi=>?_,h.inj,fun i b hi=>(far_cell h.n2).trans (h.qs i b hi),
  fun i=>by rw[World.frozen?_setCell];exact h.zf i,fun i=>by rw[World.frozen?_setCell];exact h.zk i,fun i=>by rw[World.frozen?_setCell];exact h.zq i,h.n1,h.n2,h.n3,h.bf,h.bk,h.bq,by simpa using h.lk,by simpa using h.lq,h.hb⟩
 obtain⟨k1,k2,k3,k4,k5⟩:=h.kp i s hi
 exact⟨(far_cell h.n1).trans k1,k2.of_block (setCell_block k4),k3,k4,k5⟩
theorem FloC.setWait {W:World}{B fb kb qb n:Nat}{av mf:Value}{G:List (Option (List Nat))}{Q:List Bool}{more wrong:Bool}{P:Nat→Nat} (h:FloC W B fb kb qb n av mf G Q more wrong P) {k:Nat} (hk:k<n) (b:Bool):FloC (W.setCell ⟨qb,k,none⟩ (.bool b)) B fb kb qb n av mf G (Q.set k b) more wrong P:=by
 have n2:qb≠fb:=fun e=>h.n2 e.symm
 have n3:qb≠kb:=fun e=>h.n3 e.symm
 refine⟨(far_cell n2).trans h.c4,(far_cell n2).trans h.c5,(far_cell n2).trans h.c6,(far_cell n2).trans h.c7,(far_cell n2).trans h.c8,(far_cell n2).trans h.c9,h.gl,by rw[List.length_set];exact h.ql,fun i hi=>(far_cell n3).trans (h.ks i hi),fun i s hi=>?_,h.inj,fun i b' hi=>?_,
  fun i=>by rw[World.frozen?_setCell];exact h.zf i,fun i=>by rw[World.frozen?_setCell];exact h.zk i,fun i=>by rw[World.frozen?_setCell];exact h.zq i,h.n1,h.n2,h.n3,h.bf,h.bk,h.bq,by simpa using h.lk,by simpa using h.lq,h.hb⟩
 ·obtain⟨k1,k2,k3,k4,k5,k6⟩:=h.kp i s hi
  exact⟨(far_cell n3).trans k1,k2.of_block (setCell_block k6),k3,k4,k5,k6⟩
 ·by_cases e:i=k
  ·subst e
   rw[List.getElem?_set_self (by rw[h.ql];exact hk)] at hi
   cases hi
   obtain⟨b0,hb0⟩:∃ b0,Q[i]?=some b0:=⟨_,List.getElem?_eq_getElem (by rw[h.ql];exact hk)⟩
   exact cell_set (h.qs i b0 hb0)
  ·rw[List.getElem?_set_ne (fun e2=>e e2.symm)] at hi
   exact (setCell_off (fun e2=>e e2.symm)).trans (h.qs i b' hi)
theorem FloC.meet {W W':World}{B fb kb qb n:Nat}{av mf:Value}{G:List (Option (List Nat))}{Q:List Bool}{more wrong:Bool}{P:Nat→Nat} (h:FloC W B fb kb qb n av mf G Q more wrong P)
  {k:Nat}{t u:List Nat} (hk:G[k]?=some (some t)) (hf:Fr [P k] W W') (hs:StkC W' (P k) u false) (hu:BitsL u):FloC W' B fb kb qb n av mf (G.set k (some u)) Q more wrong P:=by
 obtain⟨q1,q2,q3,q4,q5,q6⟩:=h.kp k t hk
 have hkl:=(List.getElem?_eq_some_iff.1 hk).1
 have e1:∀ j,W'.cell? ⟨fb,j,none⟩=W.cell? ⟨fb,j,none⟩:=fun j=>hf.cell (p:=⟨fb,j,none⟩) h.lt (by simp;exact fun e=>q4 e.symm)
 have e2:∀ j,W'.cell? ⟨kb,j,none⟩=W.cell? ⟨kb,j,none⟩:=fun j=>hf.cell (p:=⟨kb,j,none⟩) h.lk (by simp;exact fun e=>q5 e.symm)
 have e3:∀ j,W'.cell? ⟨qb,j,none⟩=W.cell? ⟨qb,j,none⟩:=fun j=>hf.cell (p:=⟨qb,j,none⟩) h.lq (by simp;exact fun e=>q6 e.symm)
 refine⟨(e1 _).trans h.c4,(e1 _).trans h.c5,(e1 _).trans h.c6,(e1 _).trans h.c7,(e1 _).trans h.c8,(e1 _).trans h.c9,by rw[List.length_set];exact h.gl,h.ql,fun i hi=>?_,fun i s hi=>?_,fun i j s s' hi hj e=>?_,fun i b hi=>(e3 i).trans (h.qs i b hi),
  fun i=>(hf.frozen (p:=⟨fb,i,none⟩) h.lt (by simp;exact fun e=>q4 e.symm)).trans (h.zf i),fun i=>(hf.frozen (p:=⟨kb,i,none⟩) h.lk (by simp;exact fun e=>q5 e.symm)).trans (h.zk i),fun i=>(hf.frozen (p:=⟨qb,i,none⟩) h.lq (by simp;exact fun e=>q6 e.symm)).trans (h.zq i),h.n1,h.n2,h.n3,h.bf,h.bk,h.bq,Nat.lt_of_lt_of_le h.lk hf.size,Nat.lt_of_lt_of_le h.lq hf.size,h.hb.set hu⟩
 ·by_cases e:i=k
  ·subst e
   rw[List.getElem?_set_self hkl] at hi
   cases hi
  ·rw[List.getElem?_set_ne (fun e2=>e e2.symm)] at hi
   exact (e2 i).trans (h.ks i hi)
 ·by_cases e:i=k
  ·subst e
   rw[List.getElem?_set_self hkl] at hi
   cases hi
   exact⟨(e2 i).trans q1,hs,q3,q4,q5,q6⟩
  ·rw[List.getElem?_set_ne (fun e2=>e e2.symm)] at hi
   obtain⟨k1,k2,k3⟩:=h.kp i s hi
   exact⟨(e2 i).trans k1,k2.fr hf (by simp;exact fun e3=>e (h.inj i k s t hi hk e3)),k3⟩
 ·have old:∀ (j:Nat) s,(G.set k (some u))[j]?=some (some s)→∃ s',G[j]?=some (some s'):=fun j s hj=>by
   by_cases e:j=k
   ·subst e;exact⟨t,hk⟩
   ·rw[List.getElem?_set_ne (fun e2=>e e2.symm)] at hj
    exact⟨s,hj⟩
  obtain⟨s1,h1⟩:=old i s hi
  obtain⟨s2,h2⟩:=old j s' hj
  exact h.inj i j s1 s2 h1 h2 e
def GoR (n i:Nat) (o:Option (List Nat)) (G:List (Option (List Nat))) (Q:List Bool) (more wrong:Bool) (G':List (Option (List Nat))) (Q':List Bool) (more' wrong':Bool):Prop:=
 (wrong'=true∧G'=G∧Q'=Q∧more'=more∧(i=n∨o=none∨∃ s t,o=some s∧G[i]?=some (some t)∧t.length≠s.length)) ∨
 (wrong'=wrong∧∃ s,o=some s∧i<n∧((G[i]?=some none∧G'=G.set i (some s)∧Q'=Q.set i true∧more'=true) ∨
  ∃ t,G[i]?=some (some t)∧t.length=s.length∧((orL t s=t∧G'=G∧Q'=Q∧more'=more)∨(orL t s≠t∧G'=G.set i (some (orL t s))∧Q'=Q.set i true∧more'=true))))
def GoP (B fb kb qb n:Nat) (av mf:Value) (W:World) (sb:Nat) (o:Option (List Nat)) (G:List (Option (List Nat))) (Q:List Bool) (more wrong:Bool) (i:Nat) (e:Ending) (W':World):Prop:=
 e=.returned (.tuple #[])∧FrB B W W'∧W'.heap[sb]?=W.heap[sb]? ∧
 ∃ G' Q' more' wrong' P',FloC W' B fb kb qb n av mf G' Q' more' wrong' P'∧(∀ j s,G'[j]?=some (some s)→P' j≠sb)∧GoR n i o G Q more wrong G' Q' more' wrong'
theorem frB_set {B fb:Nat}{W:World}{j:Nat}{v:Value} (h:B≤fb):FrB B W (W.setCell ⟨fb,j,none⟩ v):=
 ⟨rfl,rfl,rfl,by simp,fun k hk=>setCell_block (by omega)⟩
theorem go_meet (W:World) (B fb kb qb n:Nat) (aa:Option Addr) (acap:Nat) (mf:Value) (G:List (Option (List Nat))) (Q:List Bool) (more wrong:Bool) (P:Nat→Nat) (h:FloC W B fb kb qb n (.slice aa n acap) mf G Q more wrong P) (hn:n≤100000)
  (sb:Nat) (s t:List Nat) (hs:StkO W sb (some s)) (h1:sb≠fb) (h2:sb≠qb) (hP:∀ j s,G[j]?=some (some s)→P j≠sb) (i:Nat) (hi:i<n) (hG:G[i]?=some (some t)) (he:t.length=s.length) (hbs:BitsL s) :
  Calls Tryz.prog 112 #[.pointer (some ⟨fb,0,none⟩),.int .i64 i,.pointer (some ⟨sb,0,none⟩)] W (GoP B fb kb qb n (.slice aa n acap) mf W sb (some s) G Q more wrong i):=by
 have hst:StkC W sb s false:=hs
 have s0:=hst.c0
 have s1:=hst.c1
 have c5:=h.c5
 have c6:=h.c6
 have q1:((i:Int)==(n:Int))=false:=by simp;omega
 have g1:(i:Int)<(n:Int):=by omega
 obtain⟨k1,k2,-⟩:=h.kp i t hG
 have t0:=k2.c0
 have hpn:=hP i t hG
 have hlt2:=k2.lt
 have hsl:=hst.lt
 have HM:Hid _:=fun (nq:Nat)=>meet_any (W.drewN nq) (P i) sb t s false false (k2.of_block rfl) (hst.of_block rfl) he hpn
 have HF:Hid _:=And.intro h (And.intro hG (And.intro he (And.intro hlt2 hsl)))
 rw[he] at t0
 have q2:((s.length:Int)!=(s.length:Int))=false:=by simp
 clear h hst k2 hs hG he hlt2 hsl
 obtain⟨pb,hpb⟩:∃ pb,P i=pb:=⟨_,rfl⟩
 rw[hpb] at k1 t0 HM hpn
 have HPB:Hid _:=hpb
 clear hpb
 go_enter Tryz.func112,Tryz.ntmps112
 go_wp2
 go_quiet (fail)
 go_wp2_with fail
 refine (HM.out nq).mono ?_
 rintro e w2 ⟨rfl,K2,F2⟩
 obtain⟨hF,hG,he,hlt2,hsl⟩:=HF.out
 have hpb:=HPB.out
 have Fq:Fr [] W (W.drewN nq):=(Fr.refl [] W).drewN nq
 have hD:=hF.fr Fq (by simp) (by simp) (by simp) (fun _ _ _=>by simp)
 have hbt:=hF.hb i t hG
 have hB1:B≤W.heap.size:=Nat.le_trans hF.bf (Nat.le_of_lt hF.lt)
 have hBp:B≤pb:=by rw[← hpb];exact (hF.kp i t hG).2.2.1
 have hR2:=FrB.of (B:=B) F2 hB1 (by simpa using hBp)
 have hRq:=FrB.of (B:=B) (S:=[]) Fq hB1 (by simp)
 have hsb2:w2.heap[sb]?=W.heap[sb]?:=F2.block sb hsl (by simp;exact fun e=>hpn e.symm)
 by_cases hu:orL t s=t
 ·rw[decide_eq_false (by simpa using hu)]
  rw[hu] at K2
  have hM2:FloC w2 B fb kb qb n (.slice aa n acap) mf G Q more wrong P:=by
   have hx:=hD.meet hG (by rw[hpb];exact F2) (by rw[hpb];exact K2) hbt
   rw[show G.set i (some t)=G from by
    apply List.ext_getElem?
    intro j
    by_cases e:j=i
    ·subst e;rw[List.getElem?_set_self (List.getElem?_eq_some_iff.1 hG).1,hG]
    ·rw[List.getElem?_set_ne (fun e2=>e e2.symm)]] at hx
   exact hx
  have HX:Hid _:=And.intro hM2 (And.intro (hRq.trans hR2) (And.intro hsb2 (And.intro hG (And.intro he hu))))
  clear hM2 hR2 hRq hsb2 hG he hu K2 F2 hD hF hbt hB1 hBp HF HM s0 s1 c5 c6 k1 t0 q2 hpb
  go_wp2
  go_end0
  obtain⟨x1,x2,x3,x4,x5,x6⟩:=HX.out
  exact⟨rfl,x2,x3,G,Q,more,wrong,P,x1,hP,.inr ⟨rfl,s,rfl,hi,.inr ⟨t,x4,x5,.inl ⟨x6,rfl,rfl,rfl⟩⟩⟩⟩
 ·rw[decide_eq_true (by simpa using hu)]
  have hM2:=hD.meet hG (by rw[hpb];exact F2) (by rw[hpb];exact K2) (orL_bits hbt hbs)
  have d7:=hM2.c7
  have d8:=hM2.c8
  have z8:=hM2.zf 8
  have zi:=hM2.zq i
  obtain⟨b0,hb0⟩:∃ b0,Q[i]?=some b0:=⟨_,List.getElem?_eq_getElem (by rw[hM2.ql];exact hi)⟩
  have di:=hM2.qs i b0 hb0
  have d8':(w2.setCell ⟨qb,i,none⟩ (.bool true)).cell? ⟨fb,8,none⟩=some (.bool more):=(hM2.setWait hi true).c8
  have z8':(w2.setCell ⟨qb,i,none⟩ (.bool true)).frozen? ⟨fb,8,none⟩=false:=(hM2.setWait hi true).zf 8
  have HX:Hid _:=And.intro hM2 (And.intro (hRq.trans hR2) (And.intro hsb2 (And.intro hG (And.intro he (And.intro hu hF)))))
  clear hM2 hR2 hRq hsb2 hG he hu K2 F2 hD hF hbt hB1 hBp HF HM s0 s1 c5 c6 k1 t0 q2 hpb
  go_wp2
  go_end0
  obtain⟨x1,x2,x3,x4,x5,x6,x7⟩:=HX.out
  refine⟨rfl,(x2.trans (frB_set x7.bq)).trans (frB_set x7.bf),?_,_,_,true,wrong,P,(x1.setWait hi true).setMore true,fun j s' hj=>?_,.inr ⟨rfl,s,rfl,hi,.inr ⟨t,x4,x5,.inr ⟨x6,rfl,rfl,rfl⟩⟩⟩⟩
  ·rw[setCell_block h1,setCell_block h2,x3]
  ·by_cases e:j=i
   ·subst e;exact hP j t x4
   ·rw[List.getElem?_set_ne (fun e2=>e e2.symm)] at hj
    exact hP j s' hj
end Go.Proofs.YtclkgoigmgkffaaGreatDoor
namespace Go.Proofs.YtclkgoigmgkffaaGreatDoor
open Go.RowKit
open Wire
structure RfI (w:World) (r:Nat) (b:ByteArray) (s:Sta) (a e:Nat):Prop where
 c:RdC w r b a e (stR s) (stP s)
 ok:okSta (bl b) s
 at_:∀ x,s=.inr x→a=x.1∧e=x.2
 la:a≤b.size
 le:e≤b.size
theorem RfI.fr {S:List Nat}{w w':World}{r:Nat}{b:ByteArray}{s:Sta}{a e:Nat} (h:RfI w r b s a e) (hf:Fr S w w') (hr:r ∉ S):RfI w' r b s a e:=⟨h.c.fr hf hr,h.ok,h.at_,h.la,h.le⟩
theorem RfI.heap {w w':World}{r:Nat}{b:ByteArray}{s:Sta}{a e:Nat} (h:RfI w r b s a e) (hh:w'.heap=w.heap):RfI w' r b s a e:=⟨h.c.of_block (by rw[hh]),h.ok,h.at_,h.la,h.le⟩
theorem RfI.lt {w:World}{r:Nat}{b:ByteArray}{s:Sta}{a e:Nat} (h:RfI w r b s a e):r<w.heap.size:=h.c.lt
structure RfO (w:World) (r:Nat) (b:ByteArray) (s:Sta) (a e:Nat):Prop where
 c:RdC w r b a e (stR s) (stP s)
 ok:okSta (bl b) s
 at_:∀ x,s=.inr x→a=x.1∧x.2=b.size
 la:a≤b.size
 le:e≤b.size
theorem RfO.fr {S:List Nat}{w w':World}{r:Nat}{b:ByteArray}{s:Sta}{a e:Nat} (h:RfO w r b s a e) (hf:Fr S w w') (hr:r ∉ S):RfO w' r b s a e:=⟨h.c.fr hf hr,h.ok,h.at_,h.la,h.le⟩
theorem RfO.lt {w:World}{r:Nat}{b:ByteArray}{s:Sta}{a e:Nat} (h:RfO w r b s a e):r<w.heap.size:=h.c.lt
theorem faultC_any (w:World) (r:Nat) (b:ByteArray) (a e er sp place no:Nat) (h:RdC w r b a e er sp) :
  Calls Tryz.prog 54 #[.pointer (some ⟨r,0,none⟩),.int .i64 no,.int .i64 place] w fun ee w'=>ee=.returned (.tuple #[])∧RdC w' r b a e (if er=0 then no else er) (if er=0 then place else sp)∧Fr [r] w w':=by
 have K1:=h.set34 no place
 have F1:Fr [r] w ((w.setCell ⟨r,3,none⟩ (.int .i64 no)).setCell ⟨r,4,none⟩ (.int .i64 place)):=((Fr.refl [r] w).setCell (p:=⟨r,3,none⟩) (.inl (by simp)) _).setCell (p:=⟨r,4,none⟩) (.inl (by simp)) _
 have K0:=h
 obtain⟨c0,c1,c2,c3,c4,f1,f2,f3,f4⟩:=h
 by_cases he:er=0
 ·subst he
  rw[if_pos rfl,if_pos rfl]
  clear K0
  go_enter Tryz.func54,Tryz.ntmps54
  go_wp2
  go_end0
  exact⟨rfl,K1,F1⟩
 ·have g1:((er:Int)==0)=false:=by simp;omega
  rw[if_neg he,if_neg he]
  clear K1 F1
  go_enter Tryz.func54,Tryz.ntmps54
  go_wp2
  go_end0
  exact⟨rfl,K0,Fr.refl [r] w⟩
theorem faultRf_any {w:World}{r:Nat}{b:ByteArray}{s:Sta}{a e place no:Nat}{nI:Int} (hn:nI=(no:Int)) (h:RfI w r b s a e) (h0:0<no) (h1:no≤100) (hp:place≤b.size) :
  Calls Tryz.prog 54 #[.pointer (some ⟨r,0,none⟩),.int .i64 nI,.int .i64 place] w fun ee w'=>ee=.returned (.tuple #[])∧RfI w' r b (failS no place s) a e∧Fr [r] w w':=by
 subst hn
 refine (faultC_any w r b _ _ _ _ place no h.c).mono ?_
 rintro e' w' ⟨rfl,K,F⟩
 refine⟨rfl,?_,F⟩
 have hL:=bl_length b
 rcases s with ⟨x,y⟩ | ⟨x,y⟩
 ·obtain⟨k0,k1,k2⟩:=h.ok
  have k3:¬ x=0:=by simp only at k0;omega
  have e1:(if stR (.inl (x,y))=0 then place else stP (.inl (x,y)))=y:=if_neg k3
  have e2:(if stR (.inl (x,y))=0 then no else stR (.inl (x,y)))=x:=if_neg k3
  rw[e1,e2] at K
  exact⟨K,h.ok,fun x hx=>(by cases hx),h.la,h.le⟩
 ·have e1:(if stR (.inr (x,y))=0 then place else stP (.inr (x,y)))=place:=if_pos rfl
  have e2:(if stR (.inr (x,y))=0 then no else stR (.inr (x,y)))=no:=if_pos rfl
  rw[e1,e2] at K
  exact⟨K,⟨h0,h1,by simp only;omega⟩,fun x hx=>(by cases hx),h.la,h.le⟩
theorem out_bad {α:Type}{f:Rd α}{l:List UInt8}{d:α}{s:Sta}{g:Nat × Nat} (h:nextR f l s=.inl g):outR f l d s=d:=by
 rcases s with x | ⟨a,e⟩
 ·rfl
 ·cases hf:f e (seg l a e) with
  | inl x=>rw[outR_inl hf]
  | inr p=>rw[nextR_inr hf] at h;cases h
theorem numRf_any {w:World}{r:Nat}{b:ByteArray}{s:Sta}{a e lo hi:Nat}{lI hI:Int} (hl:lI=(lo:Int)) (hh:hI=(hi:Int)) (h:RfI w r b s a e) (hs:b.size≤40000) :
  Calls Tryz.prog 52 #[.pointer (some ⟨r,0,none⟩),.int .i64 lI,.int .i64 hI] w fun ee w'=>ee=.returned (.int .i64 (outR (numberR lo hi) (bl b) 0 s:Nat))∧(∃ a',RfI w' r b (nextR (numberR lo hi) (bl b) s) a' e)∧Fr [r] w w':=by
 have hm:Tryz.prog.follows Departure.mixedOrders=true:=by kernel_rfl
 have hL:=bl_length b
 subst hl hh
 have K:=h
 have hfail:=fun (no:Nat) (h0:0<no) (h1:no≤100) (W:World) (hW:RfI W r b s a e)=>faultRf_any (place:=a) (no:=no) rfl hW h0 h1 h.la
 obtain⟨⟨c0,c1,c2,c3,c4,f1,f2,f3,f4⟩,hok,hat,hla,hle⟩:=h
 rcases s with ⟨x,y⟩ | ⟨a0,e0⟩
 ·obtain⟨k0,-,-⟩:=hok
  have g1:((x:Int)!=0)=true:=by simp;simp only at k0;omega
  simp only[stR] at c3
  clear hfail
  go_enter Tryz.func52,Tryz.ntmps52
  go_wp2
  go_ret
  exact⟨rfl,⟨a,K⟩,Fr.refl [r] w⟩
 ·obtain⟨rfl,rfl⟩:=hat _ rfl
  obtain⟨o1,o2⟩:=hok
  have hread:=fun (W:World)=>NumberR_any b a e o1 hle (by omega) W
  have hsl:=seg_length (l:=bl b) (a:=a) (e:=e) o2
  cases hn:num (seg (bl b) a e) with
  | none=>
   have hx:numXi b a e = -1:=by simp only[numXi,hn]
   have hy:numYi b a e=a:=by simp only[numYi,hn]
   have hN:numberR lo hi e (seg (bl b) a e)=.inl (6,a):=by simp only[numberR,hn,hsl];congr 2;omega
   rw[nextR_inl hN,outR_inl hN]
   simp only[hx,hy] at hread
   have HF:Hid _:=hfail 6 (by omega) (by omega)
   have HR:Hid _:=hread
   clear hfail hread hx hy hN hn hsl o1 o2 hat
   go_enter Tryz.func52,Tryz.ntmps52
   go_wp2
   go_quiet (first | (go_at_call 115;refine Calls.quiet_of_same (HR.out _)))
   go_wp2_with fail
   refine (HF.out _ ?hk).mono ?_
   case hk=>exact K.heap rfl
   rintro ee w1 ⟨rfl,K1,F1⟩
   go_wp2
   go_ret
   exact⟨rfl,⟨a,K1⟩,⟨F1.os,F1.tape,F1.output,F1.size,F1.block⟩⟩
  | some p=>
   obtain⟨n,q⟩:=p
   obtain⟨e1,hlt⟩:=num_some hn
   have hlen:=congrArg List.length e1
   rw[hsl,List.length_append] at hlen
   have hx:numXi b a e=(n:Int):=by simp only[numXi,hn]
   have hy:numYi b a e=e-q.length:=by simp only[numYi,hn]
   simp only[hx,hy] at hread
   have g0:¬ ((n:Int)<0):=by omega
   by_cases hc:n<lo∨hi<n
   ·have hN:numberR lo hi e (seg (bl b) a e)=.inl (4,a):=by simp only[numberR,hn,hsl,if_pos hc];congr 2;omega
    rw[nextR_inl hN,outR_inl hN]
    have HF:Hid _:=hfail 4 (by omega) (by omega)
    have HR:Hid _:=hread
    clear hfail hread hx hy hN hn hsl o1 o2 hat e1 hlen
    by_cases hc1:n<lo
    ·have g1:(n:Int)<lo:=by omega
     go_enter Tryz.func52,Tryz.ntmps52
     go_wp2
     go_quiet (first | (go_at_call 115;refine Calls.quiet_of_same (HR.out _)))
     go_wp2_with fail
     refine (HF.out _ ?hk).mono ?_
     case hk=>exact K.heap rfl
     rintro ee w1 ⟨rfl,K1,F1⟩
     go_wp2
     go_ret
     exact⟨rfl,⟨a,K1⟩,⟨F1.os,F1.tape,F1.output,F1.size,F1.block⟩⟩
    ·have g1:¬ (n:Int)<lo:=by omega
     have g2:(n:Int)>hi:=by omega
     go_enter Tryz.func52,Tryz.ntmps52
     go_wp2
     go_quiet (first | (go_at_call 115;refine Calls.quiet_of_same (HR.out _)))
     go_wp2_with fail
     refine (HF.out _ ?hk).mono ?_
     case hk=>exact K.heap rfl
     rintro ee w1 ⟨rfl,K1,F1⟩
     go_wp2
     go_ret
     exact⟨rfl,⟨a,K1⟩,⟨F1.os,F1.tape,F1.output,F1.size,F1.block⟩⟩
   ·have hN:numberR lo hi e (seg (bl b) a e)=.inr (n,q):=by simp only[numberR,hn,if_neg hc]
    rw[nextR_inr hN,outR_inr hN]
    have g1:¬ (n:Int)<lo:=by omega
    have g2:¬ (n:Int)>hi:=by omega
    have K1:RfI (w.setCell ⟨r,1,none⟩ (.int .i64 ((e-q.length:Nat):Int))) r b (.inr (e-q.length,e)) (e-q.length) e:=
     ⟨K.c.set1 (e-q.length),by show e-q.length≤e∧_;exact⟨by omega,o2⟩,fun x hx=>(by cases hx;exact⟨rfl,rfl⟩),by omega,hle⟩
    obtain⟨y,hy'⟩:∃ y:Nat,e-q.length=y:=⟨_,rfl⟩
    rw[hy'] at hread K1 ⊢
    have HR:Hid _:=hread
    clear hfail hread hx hy hN hn hsl o1 o2 hat e1 hlen hy' hc
    go_enter Tryz.func52,Tryz.ntmps52
    go_wp2
    go_quiet (first | (go_at_call 115;refine Calls.quiet_of_same (HR.out _)))
    go_wp2
    go_ret
    exact⟨rfl,⟨y,K1.heap rfl⟩,((Fr.refl [r] w).setCell (p:=⟨r,1,none⟩) (.inl (by simp)) _).drewN _⟩
theorem bytesRf_any {w:World}{r:Nat}{b:ByteArray}{s:Sta}{a e lim:Nat}{lI:Int} (hlim:lI=(lim:Int)) (h:RfI w r b s a e) (hs:b.size≤40000) (h2:lim≤20000) :
  Calls Tryz.prog 116 #[.pointer (some ⟨r,0,none⟩),.int .i64 lI] w fun ee w'=>ee=.returned (.string (outR (bytesR lim) (bl b) ⟨#[]⟩ s))∧(∃ a',RfI w' r b (nextR (bytesR lim) (bl b) s) a' e)∧Fr [r] w w':=by
 subst hlim
 have hm:Tryz.prog.follows Departure.mixedOrders=true:=by kernel_rfl
 have hL:=bl_length b
 have hlm:=numRf_any (lo:=0) (hi:=lim) rfl rfl h hs
 have hok':=(numberR_tidy 0 lim).next h.ok
 have hle:=outN_le lim b s
 have hout:=fun g=>out_bad (f:=numberR 0 lim) (l:=bl b) (d:=0) (s:=s) (g:=g)
 have hat:=h.at_
 obtain⟨x,hx⟩:∃ x,outR (numberR 0 lim) (bl b) 0 s=x:=⟨_,rfl⟩
 obtain⟨s',hs'⟩:∃ s',nextR (numberR 0 lim) (bl b) s=s':=⟨_,rfl⟩
 obtain⟨e1,e2⟩:=bytesR_next lim b s h.ok x s' hx hs'
 rw[e1,e2]
 rw[hx] at hlm hle
 rw[hs'] at hlm hok'
 simp only[hx,hs'] at hout
 obtain⟨m1,m2⟩:=stA_le hok'
 change Calls Tryz.prog 52 #[.pointer (some ⟨r,0,none⟩),.int .i64 0,.int .i64 lim] w _ at hlm
 have c1:=h.c.c1
 rcases s' with ⟨f,y⟩ | ⟨a1,e0⟩
 ·have hx0:x=0:=hout _ rfl
  subst hx0
  have c0:¬ (stE b.size (.inl (f,y))-stA b.size (.inl (f,y))<0):=by omega
  rw[if_neg c0,if_neg c0]
  have hemp:b.extract (stA b.size (.inl (f,y))) (stA b.size (.inl (f,y))+0)=⟨#[]⟩:=by
   apply bl_inj
   rw[bl_extract]
   show seg (bl b) b.size (b.size+0)=_
   rw[Nat.add_zero,seg_nil]
   rfl
  rw[hemp]
  obtain⟨k0,-,-⟩:=hok'
  have g1:((f:Int)!=0)=true:=by simp;simp only at k0;omega
  clear hemp c0 e1 e2 hout hx hs' h hle m1 m2 hat
  go_enter Tryz.func116,Tryz.ntmps116
  go_wp2_with fail
  refine hlm.mono ?_
  rintro ee w1 ⟨rfl,⟨a',K1⟩,F1⟩
  have d3:=K1.c.c3
  simp only[stR] at d3
  clear hlm
  go_wp2
  go_ret
  exact⟨rfl,⟨a',K1⟩,F1⟩
 ·have hs2:∃ a0,s=.inr (a0,e0)∧e=e0:=by
   rcases s with g | ⟨a0,e9⟩
   ·cases hs'
   ·obtain⟨-,rfl⟩:=hat _ rfl
    cases hq:numberR 0 lim e (seg (bl b) a0 e) with
    | inl g=>rw[nextR_inl hq] at hs';cases hs'
    | inr p=>
     rw[nextR_inr hq] at hs'
     simp only[Sum.inr.injEq,Prod.mk.injEq] at hs'
     exact⟨a0,by rw[hs'.2],hs'.2⟩
  obtain⟨a0,rfl,rfl⟩:=hs2
  obtain⟨rfl,-⟩:=hat _ rfl
  have hla:=h.la
  have hle2:=h.le
  have hfail:=fun (W:World) (a':Nat) (hW:RfI W r b (.inr (a1,e)) a' e)=>faultRf_any (place:=a) (no:=7) rfl hW (by omega) (by omega) hla
  simp only[stA,stE] at m1 m2
  by_cases q1:stE b.size (.inr (a1,e))-stA b.size (.inr (a1,e))<x
  ·rw[if_pos q1,if_pos q1]
   change e-a1<x at q1
   have g1:(x:Int)>(e:Int)-(a1:Int):=by omega
   have HF:Hid _:=hfail
   clear hfail e1 e2 hout hx hs' h hat hok'
   go_enter Tryz.func116,Tryz.ntmps116
   go_wp2_with fail
   refine hlm.mono ?_
   rintro ee w1 ⟨rfl,⟨a',K1⟩,F1⟩
   obtain⟨d0,d1,d2,d3,d4,f1,f2,f3,f4⟩:=K1.c
   obtain⟨rfl,-⟩:=K1.at_ _ rfl
   simp only[stR] at d3
   clear hlm
   go_wp2
   go_quiet (fail)
   go_wp2_with fail
   refine (HF.out _ a' ?hk).mono ?_
   case hk=>exact K1.heap rfl
   rintro ee w2 ⟨rfl,K2,F2⟩
   have F2:Fr [r] w1 w2:=⟨F2.os,F2.tape,F2.output,F2.size,F2.block⟩
   go_wp2
   go_ret
   exact⟨rfl,⟨_,K2⟩,F1.trans F2⟩
  ·rw[if_neg q1,if_neg q1]
   change ¬ e-a1<x at q1
   change Calls Tryz.prog 116 #[.pointer (some ⟨r,0,none⟩),.int .i64 lim] w fun ee w'=>ee=.returned (.string (b.extract a1 (a1+x)))∧(∃ a',RfI w' r b (.inr (a1+x,e)) a' e)∧Fr [r] w w'
   have g1:¬ (x:Int)>(e:Int)-(a1:Int):=by omega
   have hK:∀ W:World,RfI W r b (.inr (a1,e)) a1 e→RfI (W.setCell ⟨r,1,none⟩ (.int .i64 ((a1+x:Nat):Int))) r b (.inr (a1+x,e)) (a1+x) e:=fun W hW=>
    ⟨hW.c.set1 (a1+x),by show a1+x≤e∧_;exact⟨by omega,hok'.2⟩,fun x hx=>(by cases hx;exact⟨rfl,rfl⟩),by omega,hle2⟩
   obtain⟨j,hj⟩:∃ j:Nat,a1+x=j:=⟨_,rfl⟩
   have hjI:(a1:Int)+(x:Int)=(j:Int):=by omega
   have g2:(0:Int)≤(a1:Int):=by omega
   have g3:(a1:Int)≤(j:Int):=by omega
   have g4:(j:Int)≤(b.size:Int):=by omega
   rw[hj] at hK ⊢
   have HK:Hid _:=hK
   clear hfail e1 e2 hout hx hs' h hat hok' hK hj
   go_enter Tryz.func116,Tryz.ntmps116
   go_wp2_with fail
   refine hlm.mono ?_
   rintro ee w1 ⟨rfl,⟨a',K1⟩,F1⟩
   obtain⟨d0,d1,d2,d3,d4,f1,f2,f3,f4⟩:=K1.c
   obtain⟨rfl,-⟩:=K1.at_ _ rfl
   simp only[stR] at d3
   clear hlm
   go_wp2
   go_quiet (fail)
   go_wp2
   go_quiet (fail)
   go_wp2
   go_ret
   exact⟨rfl,⟨j,(HK.out _ (K1.heap rfl))⟩,(F1.drewN _).setCell (p:=⟨r,1,none⟩) (.inl (by simp)) _⟩
theorem shutRf_any {w:World}{r:Nat}{b:ByteArray}{s:Sta}{a e:Nat} (h:RfI w r b s a e) (hs:b.size≤40000) :
  Calls Tryz.prog 51 #[.pointer (some ⟨r,0,none⟩)] w fun ee w'=>ee=.returned (.tuple #[])∧RfO w' r b (endS b.size (shutS b.size s)) a e∧Fr [r] w w':=by
 have hm:Tryz.prog.follows Departure.mixedOrders=true:=by kernel_rfl
 have hL:=bl_length b
 have hfail:=fun (W:World) (hW:RfI W r b s a e)=>faultRf_any (place:=a) (no:=7) rfl hW (by omega) (by omega) h.la
 have c1:=h.c.c1
 have c2:=h.c.c2
 have hla:=h.la
 have hle:=h.le
 by_cases hae:a=e
 ·subst hae
  have hO:RfO w r b (endS b.size (shutS b.size s)) a a:=by
   rcases s with f | ⟨a0,e0⟩
   ·rw[shutS_bad]
    exact⟨h.c,h.ok,fun x hx=>(by cases hx),h.la,h.le⟩
   ·obtain⟨rfl,rfl⟩:=h.at_ _ rfl
    have e1:shutS b.size (.inr (a,a))=.inr (a,a):=by unfold shutS;rw[if_neg (by simp[stA,stE])]
    rw[e1]
    exact⟨h.c,⟨h.la,by show b.size≤(bl b).length;omega⟩,fun x hx=>(by cases hx;exact⟨rfl,rfl⟩),h.la,h.le⟩
  clear hfail
  go_enter Tryz.func51,Tryz.ntmps51
  go_wp2
  go_quiet (fail)
  go_wp2
  go_end0
  exact⟨rfl,⟨hO.c.of_block rfl,hO.ok,hO.at_,hO.la,hO.le⟩,(Fr.refl [r] w).drewN _⟩
 ·have g1:((a:Int)!=(e:Int))=true:=by simp;omega
  have hO:∀ W:World,RfI W r b (failS 7 a s) a e→RfO W r b (endS b.size (shutS b.size s)) a e:=by
   intro W hW
   rcases s with f | ⟨a0,e0⟩
   ·rw[shutS_bad]
    exact⟨hW.c,hW.ok,fun x hx=>(by cases hx),hW.la,hW.le⟩
   ·obtain⟨rfl,rfl⟩:=h.at_ _ rfl
    obtain⟨o1,o2⟩:=h.ok
    have e1:shutS b.size (.inr (a,e))=failS 7 a (.inr (a,e)):=by unfold shutS;rw[if_pos (by simp only[stA,stE];omega)];rfl
    rw[e1]
    exact⟨hW.c,hW.ok,fun x hx=>(by cases hx),hW.la,hW.le⟩
  have HF:Hid _:=hfail
  have HO:Hid _:=hO
  clear hfail hO
  go_enter Tryz.func51,Tryz.ntmps51
  go_wp2
  go_quiet (fail)
  go_wp2_with fail
  refine (HF.out _ ?hk).mono ?_
  case hk=>exact h.heap rfl
  rintro ee w1 ⟨rfl,K1,F1⟩
  go_wp2
  go_end0
  exact⟨rfl,HO.out _ K1,⟨F1.os,F1.tape,F1.output,F1.size,F1.block⟩⟩
theorem need_yes {b:ByteArray}{a no:Nat}{c:UInt8} (ha:a<b.size) (hc:b[a]=c):nextR (needR c no) (bl b) (.inr (a,b.size))=.inr (a+1,b.size):=by
 have hcons:=seg_cons ha (Nat.le_refl b.size)
 have hL:=bl_length b
 simp only[nextR,hcons,needR,if_pos hc]
 rw[seg_length (by omega)]
 congr 2
 omega
theorem need_no {b:ByteArray}{a no:Nat}{c:UInt8} (ha:a≤b.size) (hc:∀ h:a<b.size,b[a]≠c):nextR (needR c no) (bl b) (.inr (a,b.size))=.inl (no,a):=by
 have hL:=bl_length b
 by_cases h:a<b.size
 ·have hcons:=seg_cons h (Nat.le_refl b.size)
  simp only[nextR,hcons,needR,if_neg (hc h)]
  rw[← hcons,seg_length (by omega)]
  congr 2
  omega
 ·obtain rfl:a=b.size:=by omega
  simp only[nextR,seg_nil,needR]
def beginS (n x:Nat) (s1 s2:Sta):Sta:=if stE n s2-stA n s2<x then failS 7 (stA n s1) s2 else openS x s2
theorem openRf_any {w:World}{r:Nat}{b:ByteArray}{s:Sta}{a e k:Nat}{kI:Int} (hkI:kI=(k:Int)) (hk:k<256) (h:RfO w r b s a e) (hs:b.size≤40000) {s1 s2:Sta}{x:Nat}
  (k1:nextR (needR (UInt8.ofNat k) 7) (bl b) s=s1) (h2:outR numU (bl b) 0 s1=x) (k2:nextR numU (bl b) s1=s2) :
  Calls Tryz.prog 49 #[.pointer (some ⟨r,0,none⟩),.int .i64 kI] w fun ee w'=>ee=.returned (.tuple #[])∧(∃ a' e',RfI w' r b (beginS b.size x s1 s2) a' e')∧Fr [r] w w':=by
 subst hkI
 have hm:Tryz.prog.follows Departure.mixedOrders=true:=by kernel_rfl
 have hL:=bl_length b
 rcases s with ⟨f,y⟩ | ⟨a0,e0⟩
 ·have e1:s1=.inl (f,y):=k1.symm
  subst e1
  have e2:s2=.inl (f,y):=k2.symm
  have ex:x=0:=h2.symm
  subst e2 ex
  have eB:beginS b.size 0 (.inl (f,y)) (.inl (f,y))=.inl (f,y):=by unfold beginS;rw[if_neg (by omega)];rfl
  rw[eB]
  have KI:RfI w r b (.inl (f,y)) a e:=⟨h.c,h.ok,fun x hx=>(by cases hx),h.la,h.le⟩
  obtain⟨⟨c0,c1,c2,c3,c4,f1,f2,f3,f4⟩,hok,hat,hla,hle⟩:=h
  obtain⟨k0,-,-⟩:=hok
  have g1:((f:Int)!=0)=true:=by simp;simp only at k0;omega
  simp only[stR] at c3
  clear eB k1 k2 h2
  go_enter Tryz.func49,Tryz.ntmps49
  go_wp2
  refine bodyPost_ret (results_none rfl _ _ _) rfl ?_
  exact⟨rfl,⟨a,e,KI⟩,Fr.refl [r] w⟩
 ·obtain⟨rfl,he0⟩:=h.at_ _ rfl
  simp only at he0
  subst he0
  obtain⟨o1,o2⟩:=h.ok
  try simp only at o1 o2
  have KI:∀ W:World,W.heap=w.heap→RfI W r b (.inr (a,e)) a e→True:=fun _ _ _=>trivial
  clear KI
  -- behind a fault
  have hfault:=fun (W:World) (place no:Nat) (h0:0<no) (h1:no≤100) (hp:place≤b.size) (hW:RdC W r b a e 0 0)=>faultC_any W r b a e 0 0 place no hW
  have hbad:∀ (W:World) (place no:Nat),0<no→no≤100→place≤b.size→RdC W r b a e no place→RfI W r b (.inl (no,place)) a e:=fun W place no h0 h1 hp hc=>⟨hc,⟨h0,h1,by simp only;omega⟩,fun x hx=>(by cases hx),h.la,h.le⟩
  have KC:=h.c
  obtain⟨⟨c0,c1,c2,c3,c4,f1,f2,f3,f4⟩,-,-,hla,hle⟩:=h
  simp only[stR,stP] at c3 c4 KC
  by_cases hz:a<b.size
  ·have z1:¬ ((a:Int) ≥ (b.size:Int)):=by omega
   have z2:decide (b.size≤a)=false:=by simp;omega
   have hwr:IntKind.i64.wrap (b[a].toNat:Int)=(b[a].toNat:Int):=by rw[IntKind.wrap_i64];have:=b[a].toNat_lt;omega
   have hx8:=b[a].toNat_lt
   by_cases hc:b[a]=UInt8.ofNat k
   ·have hck:b[a].toNat=k:=by rw[hc];simp[UInt8.toNat_ofNat];omega
    have z3:((b[a].toNat:Int)!=(k:Int))=false:=by simp;omega
    have z4:(decide (b.size≤a) || IntKind.i64.wrap (b[a].toNat:Int)!=(k:Int))=false:=by rw[hwr,z2,z3];rfl
    rw[need_yes hz hc] at k1
    subst k1
    have hread:=fun (W:World)=>NumberR_any b (a+1) b.size (by omega) (Nat.le_refl _) (by omega) W
    have hsl:=seg_length (l:=bl b) (a:=a+1) (e:=b.size) (by omega)
    have ea:((a+1:Nat):Int)=(a:Int)+1:=by omega
    cases hn:num (seg (bl b) (a+1) b.size) with
    | none=>
     have hx:numXi b (a+1) b.size = -1:=by simp only[numXi,hn]
     have hy:numYi b (a+1) b.size=a+1:=by simp only[numYi,hn]
     have hU:numU b.size (seg (bl b) (a+1) b.size)=.inl (6,a+1):=by simp only[numU,hn,hsl];congr 2;omega
     rw[nextR_inl hU] at k2
     rw[outR_inl hU] at h2
     subst k2 h2
     have eB:beginS b.size 0 (.inr (a+1,b.size)) (.inl (6,a+1))=.inl (6,a+1):=by unfold beginS;rw[if_neg (by omega)];rfl
     rw[eB]
     simp only[hx,hy] at hread
     rw[ea] at hread
     have HR:Hid _:=hread
     have HF:Hid _:=fun W=>hfault W (a+1) 6 (by omega) (by omega) (by omega)
     have HB:Hid _:=fun W=>hbad W (a+1) 6 (by omega) (by omega) (by omega)
     rw[ea] at HF
     clear hfault hbad hread hx hy hU hn hsl eB ea hc hck
     go_enter Tryz.func49,Tryz.ntmps49
     go_wp2
     go_quiet (fail)
     go_wp2
     have c0':(w.drewN nq).cell? ⟨r,0,none⟩=some (.string b):=c0
     have KC':RdC (w.drewN nq) r b a e 0 0:=KC.of_block rfl
     have F0:Fr [r] w (w.drewN nq):=(Fr.refl [r] w).drewN nq
     have f1':=KC'.f1
     have f2':=KC'.f2
     have c1':=KC'.c1
     have c2':=KC'.c2
     clear c0 c1 c2 c3 c4 f1 f2 f3 f4 KC
     generalize w.drewN nq=W at *
     go_quiet (first | (go_at_call 115;refine Calls.quiet_of_same (HR.out _)))
     go_wp2_with fail
     refine (HF.out _ ?hk).mono ?_
     case hk=>exact KC'.of_block rfl
     rintro ee w1 ⟨rfl,K1,F1⟩
     go_wp2
     refine bodyPost_ret (results_none rfl _ _ _) rfl ?_
     have F2:Fr [r] W w1:=⟨F1.os,F1.tape,F1.output,F1.size,F1.block⟩
     exact⟨rfl,⟨a,e,HB.out _ K1⟩,F0.trans F2⟩
    | some p=>
     obtain⟨n,q⟩:=p
     obtain⟨e1,hlt⟩:=num_some hn
     have hlen:=congrArg List.length e1
     rw[hsl,List.length_append] at hlen
     have hx:numXi b (a+1) b.size=(n:Int):=by simp only[numXi,hn]
     have hy:numYi b (a+1) b.size=b.size-q.length:=by simp only[numYi,hn]
     have hU:numU b.size (seg (bl b) (a+1) b.size)=.inr (n,q):=by simp only[numU,hn]
     rw[nextR_inr hU] at k2
     rw[outR_inr hU] at h2
     subst k2 h2
     obtain⟨y,hy'⟩:∃ y:Nat,b.size-q.length=y:=⟨_,rfl⟩
     simp only[hx,hy] at hread
     rw[ea,hy'] at hread
     rw[hy']
     have hyb:y≤b.size:=by omega
     have g0:¬ ((n:Int)<0):=by omega
     have HR:Hid _:=hread
     by_cases q1:b.size-y<n
     ·have g1:(n:Int)>(b.size:Int)-(y:Int):=by omega
      have eB:beginS b.size n (.inr (a+1,b.size)) (.inr (y,b.size))=.inl (7,a+1):=by unfold beginS;exact if_pos q1
      rw[eB]
      have HF:Hid _:=fun W=>hfault W (a+1) 7 (by omega) (by omega) (by omega)
      have HB:Hid _:=fun W=>hbad W (a+1) 7 (by omega) (by omega) (by omega)
      rw[ea] at HF
      clear hfault hbad hread hx hy hU hn hsl eB ea hc hck e1 hlen hy'
      go_enter Tryz.func49,Tryz.ntmps49
      go_wp2
      go_quiet (fail)
      go_wp2
      have c0':(w.drewN nq).cell? ⟨r,0,none⟩=some (.string b):=c0
      have KC':RdC (w.drewN nq) r b a e 0 0:=KC.of_block rfl
      have F0:Fr [r] w (w.drewN nq):=(Fr.refl [r] w).drewN nq
      have f1':=KC'.f1
      have f2':=KC'.f2
      have c1':=KC'.c1
      have c2':=KC'.c2
      clear c0 c1 c2 c3 c4 f1 f2 f3 f4 KC
      generalize w.drewN nq=W at *
      go_quiet (first | (go_at_call 115;refine Calls.quiet_of_same (HR.out _)))
      go_wp2_with fail
      refine (HF.out _ ?hk).mono ?_
      case hk=>exact KC'.of_block rfl
      rintro ee w1 ⟨rfl,K1,F1⟩
      go_wp2
      refine bodyPost_ret (results_none rfl _ _ _) rfl ?_
      have F2:Fr [r] W w1:=⟨F1.os,F1.tape,F1.output,F1.size,F1.block⟩
      exact⟨rfl,⟨a,e,HB.out _ K1⟩,F0.trans F2⟩
     ·have g1:¬ (n:Int)>(b.size:Int)-(y:Int):=by omega
      have eB:beginS b.size n (.inr (a+1,b.size)) (.inr (y,b.size))=.inr (y,y+n):=by unfold beginS;exact if_neg q1
      rw[eB]
      have HK:∀ w:World,RdC w r b a e 0 0→RfI ((w.setCell ⟨r,1,none⟩ (.int .i64 y)).setCell ⟨r,2,none⟩ (.int .i64 ((y:Int)+(n:Int)))) r b (.inr (y,y+n)) y (y+n):=fun w KC=>by
        have K2:RdC ((w.setCell ⟨r,1,none⟩ (.int .i64 y)).setCell ⟨r,2,none⟩ (.int .i64 ((y+n:Nat):Int))) r b y (y+n) 0 0:=(KC.set1 y).set2 (y+n)
        have K3:RfI ((w.setCell ⟨r,1,none⟩ (.int .i64 y)).setCell ⟨r,2,none⟩ (.int .i64 ((y+n:Nat):Int))) r b (.inr (y,y+n)) y (y+n):=⟨K2,⟨by show y≤y+n;omega,by show y+n≤(bl b).length;omega⟩,fun x hx=>(by cases hx;exact⟨rfl,rfl⟩),by omega,by omega⟩
        rw[Int.natCast_add] at K3
        exact K3
      have HK:Hid _:=HK
      clear hfault hbad hread hx hy hU hn hsl eB ea hc hck e1 hlen hy'
      go_enter Tryz.func49,Tryz.ntmps49
      go_wp2
      go_quiet (fail)
      go_wp2
      have c0':(w.drewN nq).cell? ⟨r,0,none⟩=some (.string b):=c0
      have KC':RdC (w.drewN nq) r b a e 0 0:=KC.of_block rfl
      have F0:Fr [r] w (w.drewN nq):=(Fr.refl [r] w).drewN nq
      have f1':=KC'.f1
      have f2':=KC'.f2
      have c1':=KC'.c1
      have c2':=KC'.c2
      clear c0 c1 c2 c3 c4 f1 f2 f3 f4 KC
      generalize w.drewN nq=W at *
      go_quiet (first | (go_at_call 115;refine Calls.quiet_of_same (HR.out _)))
      go_wp2
      go_end0
      exact⟨rfl,⟨y,y+n,(HK.out W KC').heap rfl⟩,F0.trans ((((Fr.refl [r] W).setCell (p:=⟨r,1,none⟩) (.inl (by simp)) _).setCell (p:=⟨r,2,none⟩) (.inl (by simp)) _).drewN _)⟩
   ·have z3:((b[a].toNat:Int)!=(k:Int))=true:=by
     simp only[bne_iff_ne,ne_eq]
     intro e'
     exact hc (UInt8.toNat_inj.1 (by simp[UInt8.toNat_ofNat];omega))
    have z4:(decide (b.size≤a) || IntKind.i64.wrap (b[a].toNat:Int)!=(k:Int))=true:=by rw[hwr,z2,z3];rfl
    rw[need_no o1 (fun _=>hc)] at k1
    subst k1
    have e2:s2=.inl (7,a):=k2.symm
    have ex:x=0:=h2.symm
    subst e2 ex
    have eB:beginS b.size 0 (.inl (7,a)) (.inl (7,a))=.inl (7,a):=by unfold beginS;rw[if_neg (by omega)];rfl
    rw[eB]
    have HF:Hid _:=fun W=>hfault W a 7 (by omega) (by omega) (by omega)
    have HB:Hid _:=fun W=>hbad W a 7 (by omega) (by omega) (by omega)
    clear hfault hbad eB hc
    go_enter Tryz.func49,Tryz.ntmps49
    go_wp2
    go_quiet (fail)
    go_wp2_with fail
    refine (HF.out _ ?hk).mono ?_
    case hk=>exact KC.of_block rfl
    rintro ee w1 ⟨rfl,K1,F1⟩
    go_wp2
    refine bodyPost_ret (results_none rfl _ _ _) rfl ?_
    exact⟨rfl,⟨a,e,HB.out _ K1⟩,⟨F1.os,F1.tape,F1.output,F1.size,F1.block⟩⟩
  ·have z1:(a:Int) ≥ (b.size:Int):=by omega
   have z2:decide (b.size≤a)=true:=by simp;omega
   rw[need_no o1 (fun h=>absurd h hz)] at k1
   subst k1
   have e2:s2=.inl (7,a):=k2.symm
   have ex:x=0:=h2.symm
   subst e2 ex
   have eB:beginS b.size 0 (.inl (7,a)) (.inl (7,a))=.inl (7,a):=by unfold beginS;rw[if_neg (by omega)];rfl
   rw[eB]
   have HF:Hid _:=fun W=>hfault W a 7 (by omega) (by omega) (by omega)
   have HB:Hid _:=fun W=>hbad W a 7 (by omega) (by omega) (by omega)
   clear hfault hbad eB
   go_enter Tryz.func49,Tryz.ntmps49
   go_wp2
   go_quiet (fail)
   go_wp2_with fail
   refine (HF.out _ ?hk).mono ?_
   case hk=>exact KC.of_block rfl
   rintro ee w1 ⟨rfl,K1,F1⟩
   go_wp2
   refine bodyPost_ret (results_none rfl _ _ _) rfl ?_
   exact⟨rfl,⟨a,e,HB.out _ K1⟩,⟨F1.os,F1.tape,F1.output,F1.size,F1.block⟩⟩
end Go.Proofs.YtclkgoigmgkffaaGreatDoor
