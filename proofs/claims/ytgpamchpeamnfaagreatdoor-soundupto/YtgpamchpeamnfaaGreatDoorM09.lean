/-
  Texts Wm Wn Pc Pd Wo.
-/
import Derived.Deep.LoopGhost
import Derived.Test.YtgpamchpeamnfaaGreatDoorMA
import Derived.Test.YtgpamchpeamnfaaGreatDoorM08
import Derived.Test.YtgpamchpeamnfaaGreatDoorM06
set_option linter.unusedSimpArgs false
set_option linter.unusedVariables false
set_option maxRecDepth 100000
set_option maxHeartbeats 40000000
open _root_.Go.Proofs.Tryz
namespace Go.Proofs.YtgpamchpeamnfaaGreatDoor
open Go.RowKit
theorem fE.set {w:World}{ab:Nat}{P:Nat→Bool} (h:fE w ab P) (k:Nat) (hk:k<256):fE (w.setCell ⟨ab,k,none⟩ (.bool true)) ab (fun b=>P b || decide (b=k)):=by
 refine⟨fun b hb=>?_,fun b hb=>(wfz _ _ _ _).trans (h.z b hb)⟩
 by_cases e:b=k
 ·subst e;simp;exact World.cell?_setCell_same' _ _ _ (by rw[h.c b hk];rfl)
 ·simp[e];exact (aA (fun e'=>e e'.symm)).trans (h.c b hb)
theorem fE.congr {w:World}{ab:Nat}{P P':Nat→Bool} (h:fE w ab P) (hp:∀ b,b<256→P b=P' b):fE w ab P':=⟨fun b hb=>by rw[← hp b hb];exact h.c b hb,h.z⟩
theorem aXd:zeroCells273=Array.replicate 256 (Value.bool false):=by kernel_rfl
theorem fE.new (W:World):fE (W.alloc (.cells zeroCells273 273)) W.heap.size (fun _=>false):=by
 have h:=wan W (.cells zeroCells273 273)
 rw[aXd] at h ⊢
 refine⟨fun b hb=>?_,fun b hb=>?_⟩
 ·unfold World.cell?;rw[h];simp[hb]
 ·unfold World.frozen?;rw[h];simp
structure TkI (w:World) (r pb:Nat) (t:ByteArray) (wh:Nat→Value) (s:St) (P:Nat→Bool) (W:World):Prop where
 m:M W r pb t wh s
 by_:fE W (w.heap.size+1) P
 rr:kJ W w.heap.size [.bool false,.int .u64 0,.int .u64 0,.bool false,.int .u64 0,.int .u64 0,.bool false,.int .u64 0,.int .u64 0,.bool false,.int .u64 0,.int .u64 0]
 zr:∀ i,W.frozen? ⟨w.heap.size,i,none⟩=false
 fr:Fr [] w W
theorem aFx {w:World}{r pb:Nat}{t:ByteArray}{wh:Nat→Value}{s:St} (lo hi:Nat) (hlo:lo≤hi) (hhi:hi<256) (h:M w r pb t wh s) (ha:s.atoms<50) (htk:∀ b,s.tk b<18446744073709551616) :
  Calls prog 206 #[.pointer (some ⟨r,0,none⟩),.int .i64 lo,.int .i64 hi] w fun e w'=>e=.returned (pv (fT s lo hi).1)∧M w' r pb t wh (fT s lo hi).2∧Fr [r,pb] w w':=by
 have hrl:=h.rlt
 have hpl:=h.pat.lt
 have t6:=h.tab.lt
 have J0:TkI w r pb t wh s (fun _=>false) ((w.alloc (Obj.cells #[.bool false,.int .u64 0,.int .u64 0,.bool false,.int .u64 0,.int .u64 0,.bool false,.int .u64 0,.int .u64 0,.bool false,.int .u64 0,.int .u64 0] 217)).alloc (Obj.cells zeroCells273 273)):=by
  have f0:Fr [] w ((w.alloc (Obj.cells #[.bool false,.int .u64 0,.int .u64 0,.bool false,.int .u64 0,.int .u64 0,.bool false,.int .u64 0,.int .u64 0,.bool false,.int .u64 0,.int .u64 0] 217)).alloc (Obj.cells zeroCells273 273)):=((Fr.refl [] _).alloc _).alloc _
  have b0:=fE.new (w.alloc (Obj.cells #[.bool false,.int .u64 0,.int .u64 0,.bool false,.int .u64 0,.int .u64 0,.bool false,.int .u64 0,.int .u64 0,.bool false,.int .u64 0,.int .u64 0] 217))
  rw[World.size_alloc] at b0
  refine⟨h.fr f0 (by simp) (by simp) (by simp),b0,(eQ w [.bool false,.int .u64 0,.int .u64 0,.bool false,.int .u64 0,.int .u64 0,.bool false,.int .u64 0,.int .u64 0,.bool false,.int .u64 0,.int .u64 0] 217).fr ((Fr.refl [] _).alloc _) (by simp) (by simp),fun i=>?_,f0⟩
  exact (World.frozen?_alloc_past _ _ _ (by simp)).trans (dL w [.bool false,.int .u64 0,.int .u64 0,.bool false,.int .u64 0,.int .u64 0,.bool false,.int .u64 0,.int .u64 0,.bool false,.int .u64 0,.int .u64 0] 217 i)
 go_enter func206,ntmps206
 go_wp2
 go_loopw [8] (fun i wr=>∃ k:Nat,lo≤k∧k≤hi+1∧i=.int .i64 k∧TkI w r pb t wh s (fun b=>decide (lo≤b) && decide (b<k)) wr) (fun i _=>256-(intOf i).toNat)
 case atStart=>exact⟨lo,Nat.le_refl _,by omega,rfl,⟨J0.m,J0.by_.congr (fun b _=>by simp),J0.rr,J0.zr,J0.fr⟩⟩
 case round=>
  obtain⟨k,hk1,hk2,rfl,J⟩:=hrel
  by_cases hlt:k≤hi
  ·have g1:(k:Int)≤hi:=by omega
   have g2:(k:Int)<256:=by omega
   have c1:=J.by_.c k (by omega)
   have z1:=J.by_.z k (by omega)
   go_wp2
   have hf:Fr [w.heap.size+1] wr (wr.setCell ⟨w.heap.size+1,k,none⟩ (.bool true)):=(Fr.refl _ wr).setCell (p:=⟨w.heap.size+1,k,none⟩) (.inl (by simp)) _
   refine⟨⟨k+1,by omega,by omega,by go_num,⟨J.m.fr hf (by simp;omega) (by simp;omega) (by simp;omega),(J.by_.set k (by omega)).congr (fun b _=>?_),fun i=>(aQ (by omega)).trans (J.rr i),fun i=>(wfz _ _ _ _).trans (J.zr i),J.fr.trans' hf (by simp)⟩⟩,by simp[intOf];omega⟩
   by_cases e:b=k
   ·subst e;simp;omega
   ·have e2:b<k+1↔b<k:=by omega
    simp[e,e2]
  ·have g1:¬ ((k:Int)≤hi):=by omega
   obtain rfl:k=hi+1:=by omega
   have hto:=vE (w.heap.size+1) (fun b=>decide (lo≤b) && decide (b<hi+1)) true J.m J.by_ (by omega) (by omega) ha htk
   have hsame:cL s (fun b=>(decide (lo≤b) && decide (b<hi+1))==true)=fT s lo hi:=by
    unfold fT
    congr 1
    funext b
    simp only[f9,Bool.false_or,beq_true]
    congr 1
    ·rw[Bool.eq_iff_iff];simp
    ·rw[Bool.eq_iff_iff];simp;omega
   rw[hsame] at hto
   clear hsame
   obtain⟨q,hq⟩:=eX ((fT s lo hi).1)
   obtain⟨s2,hs2⟩:=eX ((fT s lo hi).2)
   rw[hq,hs2] at hto
   have Hq:Hid (_=q):=hq
   have Hs:Hid (_=s2):=hs2
   clear hq hs2
   go_wp2_with fail
   refine hto.mono ?_
   rintro e w1 ⟨rfl,m1,f1⟩
   have q1:w.heap.size<wr.heap.size:=aC (a:=⟨w.heap.size,0,none⟩) (J.rr 0)
   have rr1:=J.rr.fr f1 (by simp;omega) q1
   have zr1:=fun i=>(f1.frozen (p:=⟨w.heap.size,i,none⟩) q1 (by simp;omega)).trans (J.zr i)
   have y0:w1.cell? ⟨w.heap.size,0,none⟩=some (.bool false):=rr1 0
   have z0:=zr1 0
   have y1:w1.cell? ⟨w.heap.size,1,none⟩=some (.int .u64 0):=rr1 1
   have z1:=zr1 1
   have y2:w1.cell? ⟨w.heap.size,2,none⟩=some (.int .u64 0):=rr1 2
   have z2:=zr1 2
   have y3:w1.cell? ⟨w.heap.size,3,none⟩=some (.bool false):=rr1 3
   have z3:=zr1 3
   have y4:w1.cell? ⟨w.heap.size,4,none⟩=some (.int .u64 0):=rr1 4
   have z4:=zr1 4
   have y5:w1.cell? ⟨w.heap.size,5,none⟩=some (.int .u64 0):=rr1 5
   have z5:=zr1 5
   have y6:w1.cell? ⟨w.heap.size,6,none⟩=some (.bool false):=rr1 6
   have z6:=zr1 6
   have y7:w1.cell? ⟨w.heap.size,7,none⟩=some (.int .u64 0):=rr1 7
   have z7:=zr1 7
   have y8:w1.cell? ⟨w.heap.size,8,none⟩=some (.int .u64 0):=rr1 8
   have z8:=zr1 8
   have y9:w1.cell? ⟨w.heap.size,9,none⟩=some (.bool false):=rr1 9
   have z9:=zr1 9
   have y10:w1.cell? ⟨w.heap.size,10,none⟩=some (.int .u64 0):=rr1 10
   have z10:=zr1 10
   have y11:w1.cell? ⟨w.heap.size,11,none⟩=some (.int .u64 0):=rr1 11
   have z11:=zr1 11
   clear rr1 zr1
   unfold pv
   go_wp2
   have hfr:=fJ w1 w.heap.size (.bool (q 0).e) (.int .u64 (q 0).f) (.int .u64 (q 0).l) (.bool (q 1).e) (.int .u64 (q 1).f) (.int .u64 (q 1).l) (.bool (q 2).e) (.int .u64 (q 2).f) (.int .u64 (q 2).l) (.bool (q 3).e) (.int .u64 (q 3).f) (.int .u64 (q 3).l)
   refine bodyPost_ret (v:=pv q) (by simp[results,results206,go_sem,pv,y0,y1,y2,y3,y4,y5,y6,y7,y8,y9,y10,y11]) rfl ⟨by rw[Hq.out],?_,?_⟩
   ·rw[Hs.out];exact m1.fr hfr (by simp;omega) (by simp;omega) (by simp;omega)
   ·exact ((J.fr.mono (by simp)).trans f1).trans' hfr (by simp)
theorem aSj {t:ByteArray}{s:St} (least:Int):s.pos≤(aV t s least).2.pos∧(aV t s least).2.pos≤s.pos+2:=by
 have h:=I7 (t:=t) (s:=s) 92
 unfold aV
 split
 ·simp[pN]
 ·split
  ·simp[pN];omega
  ·simp[aS];omega
theorem aSh (t:ByteArray)(k:Nat):-1≤dZ t k∧dZ t k<256:=by
 unfold dZ
 split
 ·rename_i h;have:=t[k].toNat_lt;omega
 ·omega
theorem aNo (t:ByteArray)(s:St):-1≤aB t s∧aB t s<256:=by
 unfold aB
 split
 ·omega
 ·exact aSh _ _
theorem aJj {t:ByteArray}{s:St} (least:Int) (hl:0≤least):0≤(aV t s least).1∧(aV t s least).1<256:=by
 have h:=aNo t (aU t s 92).2
 unfold aV
 split
 ·simp
 ·split
  ·simp
  ·simp only;omega
theorem vM (P:Nat→Bool)(l b:Nat):P b=(P b || (decide (l≤b) && decide (b<l))):=by
 have:(decide (l≤b) && decide (b<l))=false:=by simp
 rw[this,Bool.or_false]
theorem yW (P:Nat→Bool)(l k b:Nat)(h:l≤k):((P b || (decide (l≤b) && decide (b<k))) || decide (b=k))=(P b || (decide (l≤b) && decide (b<k+1))):=by
 by_cases e:b=k
 ·subst e;simp[h]
 ·have e2:b<k+1↔b<k:=by omega
  simp[e,e2]
theorem O6 (P:Nat→Bool)(l u k b:Nat)(h1:l≤k)(h2:k=l∨k≤u+1)(h3:¬ k≤u):(P b || (decide (l≤b) && decide (b<k)))=f9 P l u b:=by
 unfold f9
 congr 1
 rw[Bool.eq_iff_iff]
 simp
 omega
theorem aIk {w:World}{r pb:Nat}{t:ByteArray}{wh:Nat→Value}{s:St} (ab:Nat) (P:Nat→Bool) (h:M w r pb t wh s) (hB:fE w ab P) (n1:ab≠r) (n2:ab≠pb) (n3:ab≠5) (hs:t.size≤50) (hp:s.pos≤800) :
  Calls prog 210 #[.pointer (some ⟨r,0,none⟩),.pointer (some ⟨ab,0,none⟩)] w fun e w'=>e=.returned (.tuple #[])∧M w' r pb t wh (bN t s P).2∧fE w' ab (bN t s P).1∧Fr [r,ab] w w':=by
 have hbd:=aCg 0 h hs (by omega)
 have hps:=aSj (t:=t) (s:=s) 0
 have hlo:=aJj (t:=t) (s:=s) 0 (Int.le_refl 0)
 unfold bN
 obtain⟨lo,hq⟩:∃ q,(aV t s 0).1=q:=⟨_,rfl⟩
 obtain⟨s1,hs1⟩:=eX ((aV t s 0).2)
 rw[hq] at hbd hlo ⊢
 rw[hs1] at hbd hps ⊢
 clear hq hs1
 obtain⟨l,rfl⟩:=Int.eq_ofNat_of_zero_le hlo.1
 by_cases h45:aB t s1=45
 ·have he:(aB t s1==45)=true:=by simp[h45]
  have hcl:=fun (W:World) (hW:M W r pb t wh s1)=>aMe (s1.pos+1) hW hs (by omega)
  cases hc:gM t (s1.pos+1)
  ·rw[if_pos ⟨h45,rfl⟩]
   rw[hc] at hcl
   have hb2:=fun (W:World) (hW:M W r pb t wh (aS s1))=>aCg (l:Int) hW hs (by simp[aS];omega)
   have hhi:=aJj (t:=t) (s:=aS s1) (l:Int) (by omega)
   obtain⟨u',hq⟩:∃ q,(aV t (aS s1) l).1=q:=⟨_,rfl⟩
   obtain⟨s2,hs2⟩:=eX ((aV t (aS s1) l).2)
   simp only[hq,hs2] at hb2 hhi ⊢
   clear hq hs2 h45 hc
   obtain⟨u,rfl⟩:=Int.eq_ofNat_of_zero_le hhi.1
   have Hb2:=(show Hid _ from hb2)
   have Hcl:=(show Hid _ from hcl)
   clear hb2 hcl
   go_enter func210,ntmps210
   go_wp2_with fail
   refine hbd.mono ?_
   rintro e w1 ⟨rfl,m1,f1⟩
   have c1:=m1.rd.c1
   have z1:=m1.rd.f1
   go_wp2_with fail
   refine (dW m1 hs).mono ?_
   rintro e w2 ⟨rfl,n,rfl⟩
   go_wp2_with fail
   have hcl2:=Hcl.out (w1.drewN n) (m1.heap rfl)
   rw[show (((s1.pos+1:Nat)):Int)=(s1.pos:Int)+1 from by omega] at hcl2
   refine hcl2.mono ?_
   rintro e w3 ⟨rfl,rfl⟩
   go_wp2_with fail
   refine (Hb2.out _ (m1.heap (w':=w1.drewN n) rfl).adv).mono ?_
   rintro e w4 ⟨rfl,m2,f2⟩
   have f3:Fr [r] w1 w4:=((((Fr.refl [r] w1).drewN n).setCell (p:=⟨r,1,none⟩) (.inl (by simp)) _)).trans f2
   clear c1 z1
   go_wp2
   have b1:=(hB.fr f1 (by simpa using n1)).fr f3 (by simpa using n1)
   go_loopw [6] (fun i wr=>∃ k:Nat,l≤k∧(k=l∨k≤u+1)∧i=.int .i64 k∧M wr r pb t wh s2∧fE wr ab (fun b=>P b || (decide (l≤b) && decide (b<k)))∧Fr [r,ab] w wr) (fun i _=>257-(intOf i).toNat)
   case atStart=>exact⟨l,Nat.le_refl _,.inl rfl,rfl,m2,(b1).congr (fun b _=>vM P l b),(f1.mono (by simp)).trans (f3.mono (by simp))⟩
   case round=>
    obtain⟨k,hk1,hk2,rfl,m,bl,fr⟩:=hrel
    by_cases hlt:k≤u
    ·have g1:(k:Int)≤u:=by omega
     have g2:(k:Int)<256:=by omega
     have c1:=bl.c k (by omega)
     have z1:=bl.z k (by omega)
     go_wp2
     have hf:Fr [ab] wr (wr.setCell ⟨ab,k,none⟩ (.bool true)):=(Fr.refl _ wr).setCell (p:=⟨ab,k,none⟩) (.inl (by simp)) _
     refine⟨⟨k+1,by omega,.inr (by omega),by go_num,m.fr hf (by simpa using fun e=>n1 e.symm) (by simpa using fun e=>n2 e.symm) (by simpa using fun e=>n3 e.symm),(bl.set k (by omega)).congr (fun b _=>?_),fr.trans (hf.mono (by simp))⟩,by simp[intOf];omega⟩
     exact yW P l k b hk1
    ·have g1:¬ ((k:Int)≤u):=by omega
     go_wp2
     go_end0
     exact⟨rfl,m,bl.congr (fun b _=>O6 P l u k b hk1 hk2 (by omega)),fr⟩
  ·rw[if_neg (fun h=>by cases h.2)]
   rw[hc] at hcl
   clear h45 hc
   have Hcl:=(show Hid _ from hcl)
   clear hcl
   go_enter func210,ntmps210
   go_wp2_with fail
   refine hbd.mono ?_
   rintro e w1 ⟨rfl,m1,f1⟩
   have c1:=m1.rd.c1
   go_wp2_with fail
   refine (dW m1 hs).mono ?_
   rintro e w2 ⟨rfl,n,rfl⟩
   go_wp2_with fail
   have hcl2:=Hcl.out (w1.drewN n) (m1.heap rfl)
   rw[show (((s1.pos+1:Nat)):Int)=(s1.pos:Int)+1 from by omega] at hcl2
   refine hcl2.mono ?_
   rintro e w3 ⟨rfl,rfl⟩
   go_wp2
   have b1:=(hB.fr f1 (by simpa using n1))
   go_loopw [6] (fun i wr=>∃ k:Nat,l≤k∧(k=l∨k≤l+1)∧i=.int .i64 k∧M wr r pb t wh s1∧fE wr ab (fun b=>P b || (decide (l≤b) && decide (b<k)))∧Fr [r,ab] w wr) (fun i _=>257-(intOf i).toNat)
   case atStart=>exact⟨l,Nat.le_refl _,.inl rfl,rfl,m1.heap rfl,((⟨b1.c,b1.z⟩:fE (w1.drewN n) ab P)).congr (fun b _=>vM P l b),(f1.mono (by simp)).drewN n⟩
   case round=>
    obtain⟨k,hk1,hk2,rfl,m,bl,fr⟩:=hrel
    by_cases hlt:k≤l
    ·have g1:(k:Int)≤l:=by omega
     have g2:(k:Int)<256:=by omega
     have c1:=bl.c k (by omega)
     have z1:=bl.z k (by omega)
     go_wp2
     have hf:Fr [ab] wr (wr.setCell ⟨ab,k,none⟩ (.bool true)):=(Fr.refl _ wr).setCell (p:=⟨ab,k,none⟩) (.inl (by simp)) _
     refine⟨⟨k+1,by omega,.inr (by omega),by go_num,m.fr hf (by simpa using fun e=>n1 e.symm) (by simpa using fun e=>n2 e.symm) (by simpa using fun e=>n3 e.symm),(bl.set k (by omega)).congr (fun b _=>?_),fr.trans (hf.mono (by simp))⟩,by simp[intOf];omega⟩
     exact yW P l k b hk1
    ·have g1:¬ ((k:Int)≤l):=by omega
     go_wp2
     go_end0
     exact⟨rfl,m,bl.congr (fun b _=>O6 P l l k b hk1 hk2 (by omega)),fr⟩
 ·have he:(aB t s1==45)=false:=by simpa using h45
  rw[if_neg (fun h=>h45 h.1)]
  clear h45
  go_enter func210,ntmps210
  go_wp2_with fail
  refine hbd.mono ?_
  rintro e w1 ⟨rfl,m1,f1⟩
  go_wp2_with fail
  refine (dW m1 hs).mono ?_
  rintro e w2 ⟨rfl,n,rfl⟩
  go_wp2
  have b1:=(hB.fr f1 (by simpa using n1))
  go_loopw [6] (fun i wr=>∃ k:Nat,l≤k∧(k=l∨k≤l+1)∧i=.int .i64 k∧M wr r pb t wh s1∧fE wr ab (fun b=>P b || (decide (l≤b) && decide (b<k)))∧Fr [r,ab] w wr) (fun i _=>257-(intOf i).toNat)
  case atStart=>exact⟨l,Nat.le_refl _,.inl rfl,rfl,m1.heap rfl,((⟨b1.c,b1.z⟩:fE (w1.drewN n) ab P)).congr (fun b _=>vM P l b),(f1.mono (by simp)).drewN n⟩
  case round=>
   obtain⟨k,hk1,hk2,rfl,m,bl,fr⟩:=hrel
   by_cases hlt:k≤l
   ·have g1:(k:Int)≤l:=by omega
    have g2:(k:Int)<256:=by omega
    have c1:=bl.c k (by omega)
    have z1:=bl.z k (by omega)
    go_wp2
    have hf:Fr [ab] wr (wr.setCell ⟨ab,k,none⟩ (.bool true)):=(Fr.refl _ wr).setCell (p:=⟨ab,k,none⟩) (.inl (by simp)) _
    refine⟨⟨k+1,by omega,.inr (by omega),by go_num,m.fr hf (by simpa using fun e=>n1 e.symm) (by simpa using fun e=>n2 e.symm) (by simpa using fun e=>n3 e.symm),(bl.set k (by omega)).congr (fun b _=>?_),fr.trans (hf.mono (by simp))⟩,by simp[intOf];omega⟩
    exact yW P l k b hk1
   ·have g1:¬ ((k:Int)≤l):=by omega
    go_wp2
    go_end0
    exact⟨rfl,m,bl.congr (fun b _=>O6 P l l k b hk1 hk2 (by omega)),fr⟩
variable {t : ByteArray}
structure Inv (t:ByteArray) (s:St):Prop where
 pos:s.pos≤t.size
 at_:s.atoms≤s.pos
 tk:∀ b,s.tk b<2 ^ s.atoms
 fo:∀ x a,s.fo x a<2 ^ s.atoms
def PB (n:Nat) (q:Piece):Prop:=∀ x,(q x).f<2 ^ n∧(q x).l<2 ^ n
theorem PB.mono {n m:Nat}{q:Piece} (h:PB n q) (hm:n≤m):PB m q:=fun x=>
 ⟨Nll (h x).1 (Nat.pow_le_pow_right (by decide) hm),Nll (h x).2 (Nat.pow_le_pow_right (by decide) hm)⟩
theorem PB.nothing (n:Nat):PB n aF:=fun _=>⟨Nat.two_pow_pos _,Nat.two_pow_pos _⟩
theorem PB.anchor (n m:Nat):PB n (fZ m):=fun _=>⟨Nat.two_pow_pos _,Nat.two_pow_pos _⟩
theorem PB.either {n:Nat}{a b:Piece} (ha:PB n a) (hb:PB n b):PB n (aK a b):=fun x=>⟨Nat.or_lt_two_pow (ha x).1 (hb x).1,Nat.or_lt_two_pow (ha x).2 (hb x).2⟩
theorem PB.join {n:Nat}{a b:Piece} (ha:PB n a) (hb:PB n b):PB n (joinF a b):=fun x=>by
 simp only[joinF,aT]
 refine⟨?_,?_⟩
 ·split
  ·exact Nat.or_lt_two_pow (ha x).1 (hb x).1
  ·exact (ha x).1
 ·split
  ·exact Nat.or_lt_two_pow (hb x).2 (ha x).2
  ·exact (hb x).2
theorem Inv.tie {s:St}(h:Inv t s){q r:Piece}(hr:PB s.atoms r):Inv t { s with fo:=iJ s.fo q r }:=
 ⟨h.pos,h.at_,h.tk,fun x a=>by
  simp only[iJ]
  split
  ·exact Nat.or_lt_two_pow (h.fo x a) (hr x).1
  ·exact h.fo x a⟩
theorem cA {s:St}(h:aB t s≠-1):s.fault=false∧s.pos<t.size:=by
 unfold aB dZ at h
 cases hf:s.fault
 ·rw[hf] at h
  simp at h
  by_cases hk:s.pos<t.size
  ·exact⟨rfl,hk⟩
  ·simp[hk] at h
 ·rw[hf] at h;simp at h
theorem aDj {s:St}(h1:s.fault=false)(h2:s.pos<t.size):0≤aB t s:=by
 unfold aB dZ;rw[h1];simp[h2]
theorem bX {s:St}(h:s.fault=true):aB t s = -1:=by unfold aB;simp[h]
theorem Inv.adv {s:St}(h:Inv t s)(hp:aB t s≠-1):Inv t (aS s):=by
 have:=(cA hp).2
 exact⟨by simp[aS];omega,by have:=h.at_;simp[aS];omega,h.tk,h.fo⟩
structure pX (t:ByteArray) (s s':St):Prop where
 atoms:s'.atoms=s.atoms
 tk:s'.tk=s.tk
 fo:s'.fo=s.fo
 le:s.pos≤s'.pos
 pos:s.pos≤t.size→s'.pos≤t.size
theorem pX.refl (s:St):pX t s s:=⟨rfl,rfl,rfl,Nat.le_refl _,id⟩
theorem pX.trans {a b c:St}(h:pX t a b)(k:pX t b c):pX t a c:=⟨k.atoms.trans h.atoms,k.tk.trans h.tk,k.fo.trans h.fo,Nat.le_trans h.le k.le,fun x=>k.pos (h.pos x)⟩
theorem pX.inv {s s':St}(h:pX t s s')(hi:Inv t s):Inv t s':=⟨h.pos hi.pos,by rw[h.atoms];exact Nat.le_trans hi.at_ h.le,by rw[h.tk,h.atoms];exact hi.tk,by rw[h.fo,h.atoms];exact hi.fo⟩
theorem kE {s:St}(hp:aB t s≠-1):pX t s (aS s):=⟨rfl,rfl,rfl,by simp[aS],fun _=>by have:=(cA hp).2;simp[aS];omega⟩
theorem uO (s:St):pX t s (pN s):=⟨rfl,rfl,rfl,Nat.le_refl _,id⟩
theorem jI (s:St)(b:Int)(hb:b≠-1):pX t s (aU t s b).2:=by
 unfold aU
 split
 ·rename_i h;exact kE (by rw[h];exact hb)
 ·exact pX.refl s
theorem mH (s:St)(b:Int)(hb:b≠-1):pX t s (eF t s b):=by
 unfold eF
 split
 ·rename_i h;exact kE (by rw[h];exact hb)
 ·exact uO s
theorem pQ (s:St)(least:Int)(hl:0≤least):pX t s (aV t s least).2:=by
 have h:=jI (t:=t) s 92 (by decide)
 unfold aV
 split
 ·exact uO s
 ·split
  ·exact h.trans (uO _)
  ·exact h.trans (kE (by omega))
theorem aMj (s:St)(least:Int)(hl:0≤least):(aV t s least).2.fault=true∨s.pos<(aV t s least).2.pos:=by
 have h:=(jI (t:=t) s 92 (by decide)).le
 unfold aV
 split
 ·exact .inl rfl
 ·split
  ·exact .inl rfl
  ·exact .inr (by simp[aS];omega)
theorem X1 (s:St)(least:Int)(hl:0≤least):0≤(aV t s least).1:=by
 unfold aV
 split
 ·simp
 ·split
  ·simp
  ·simp only;omega
theorem gQ (s:St)(P:Nat→Bool):pX t s (bN t s P).2:=by
 have h:=pQ (t:=t) s 0 (Int.le_refl 0)
 have hg:=X1 (t:=t) s 0 (Int.le_refl 0)
 unfold bN
 split
 ·rename_i hc
  exact (h.trans (kE (by rw[hc.1];decide))).trans (pQ _ _ hg)
 ·exact h
theorem uQ (s:St)(P:Nat→Bool):(bN t s P).2.fault=true∨s.pos<(bN t s P).2.pos:=by
 have h:=aMj (t:=t) s 0 (Int.le_refl 0)
 have hg:=X1 (t:=t) s 0 (Int.le_refl 0)
 unfold bN
 split
 ·rename_i hc
  have h2:=(pQ (t:=t) (aS (aV t s 0).2) _ hg).le
  have h3:=(pQ (t:=t) s 0 (Int.le_refl 0)).le
  exact .inr (by simp only[aS] at h2 ⊢;omega)
 ·exact h
theorem nH:∀ (n:Nat)(P:Nat→Bool)(s:St),pX t s (bM t n P s).2
 | 0,_,s=>pX.refl s
 | n+1,P,s=>by
  unfold bM
  split
  ·exact pX.refl s
  ·exact (gQ s P).trans (nH n _ _)
theorem H6 {s:St}(P:Nat→Bool)(h:Inv t s)(ha:s.atoms<s.pos):Inv t (cL s P).2∧PB (cL s P).2.atoms (cL s P).1:=by
 have hp:2 ^ s.atoms<2 ^ (s.atoms+1):=Nat.pow_lt_pow_right (by decide) (by omega)
 refine⟨⟨h.pos,by simp[cL];omega,fun b=>?_,fun x a=>Nat.lt_trans (h.fo x a) hp⟩,fun x=>⟨hp,hp⟩⟩
 simp only[cL]
 split
 ·exact Nat.or_lt_two_pow (Nat.lt_trans (h.tk b) hp) hp
 ·exact Nat.lt_trans (h.tk b) hp
structure sU (t:ByteArray) (s:St) (x:Piece × St):Prop where
 inv:Inv t x.2
 pb:PB x.2.atoms x.1
 le:s.pos≤x.2.pos
 al:s.atoms≤x.2.atoms
theorem j8 (n:Nat)(s:St)(h:Inv t s)(ha:s.atoms<s.pos):sU t s (iL t n s):=by
 have n1:=jI (t:=t) s 94 (by decide)
 have n2:=gQ (t:=t) (aU t s 94).2 (fun _=>false)
 have n3:=nH (t:=t) n (bN t (aU t s 94).2 (fun _=>false)).1 (bN t (aU t s 94).2 (fun _=>false)).2
 have n4:=mH (t:=t) (bM t n (bN t (aU t s 94).2 (fun _=>false)).1 (bN t (aU t s 94).2 (fun _=>false)).2).2 93 (by decide)
 have n5:=((n1.trans n2).trans n3).trans n4
 have hi:=n5.inv h
 have hlt:=Nll ha n5.le
 rw[← n5.atoms] at hlt
 obtain⟨i1,p1⟩:=H6 (fun b=>(bM t n (bN t (aU t s 94).2 (fun _=>false)).1 (bN t (aU t s 94).2 (fun _=>false)).2).1 b == !(aU t s 94).1) hi hlt
 have ea:=n5.atoms
 refine⟨i1,p1,n5.le,?_⟩
 show s.atoms≤(eF t (bM t n (bN t (aU t s 94).2 (fun _=>false)).1 (bN t (aU t s 94).2 (fun _=>false)).2).2 93).atoms+1
 omega
theorem H0 {s:St}(s0:St)(lo hi:Int)(h:Inv t s)(ha:s.atoms<s.pos)(h0:s0.pos≤s.pos)(h1:s0.atoms≤s.atoms):sU t s0 (fT s lo hi):=by
 obtain⟨i1,p1⟩:=H6 (f9 (fun _=>false) lo hi) h ha
 exact⟨i1,p1,h0,Nat.le_trans h1 (by simp[fT,cL])⟩
theorem sA (s:St)(hp:aB t s≠-1):pX t s (cM t s).2∧s.pos<(cM t s).2.pos:=by
 have h:=jI (t:=t) s 92 (by decide)
 unfold cM
 split
 ·rename_i hc
  refine⟨h.trans (uO _),?_⟩
  unfold aU at hc ⊢
  split at hc
  ·rename_i h92;rw[if_pos h92];simp[pN,aS]
  ·exact absurd hc hp
 ·rename_i hc
  exact⟨h.trans (kE hc),by simp only[aS];have:=h.le;omega⟩
variable {t : ByteArray}
theorem sU.trans {s s1:St}{x:Piece × St} (h:sU t s1 x) (hp:s.pos≤s1.pos) (ha:s.atoms≤s1.atoms):sU t s x:=⟨h.inv,h.pb,Nat.le_trans hp h.le,Nat.le_trans ha h.al⟩
theorem gO (s:St)(f:Nat→Nat→Nat):aB t { s with fo:=f }=aB t s:=rfl
structure aWy (t:ByteArray) (n:Nat):Prop where
 alt:∀ s,Inv t s→sU t s (jN t n s)
 altL:∀ q s,Inv t s→PB s.atoms q→sU t s (lT t n q s)
 seq:∀ s,Inv t s→sU t s (nX t n s)
 seqL:∀ q s,Inv t s→PB s.atoms q→sU t s (kB t n q s)
 part:∀ s,Inv t s→aB t s≠-1→sU t s (dK t n s)
 partL:∀ q s,Inv t s→PB s.atoms q→sU t s (gP t n q s)
 atom:∀ s,Inv t s→aB t s≠-1→sU t s (lG t n s)
theorem eY (t:ByteArray):∀ n,aWy t n
 | 0=>⟨fun s h=>⟨h,PB.nothing _,Nat.le_refl _,Nat.le_refl _⟩,fun _ s h hq=>⟨h,hq,Nat.le_refl _,Nat.le_refl _⟩,fun s h=>⟨h,PB.nothing _,Nat.le_refl _,Nat.le_refl _⟩,fun _ s h hq=>⟨h,hq,Nat.le_refl _,Nat.le_refl _⟩,
   fun s h _=>⟨h,PB.nothing _,Nat.le_refl _,Nat.le_refl _⟩,fun _ s h hq=>⟨h,hq,Nat.le_refl _,Nat.le_refl _⟩,fun s h _=>⟨h,PB.nothing _,Nat.le_refl _,Nat.le_refl _⟩⟩
 | n+1=>by
  have ih:=eY t n
  refine⟨fun s h=>?_,fun q s h hq=>?_,fun s h=>?_,fun q s h hq=>?_,fun s h hp=>?_,fun q s h hq=>?_,fun s h hp=>?_⟩
  ·rw[qZ]
   have g:=ih.seq s h
   exact (ih.altL _ _ g.inv g.pb).trans g.le g.al
  ·rw[lS]
   split
   ·rename_i hc
    have ha:=h.adv (by rw[hc];decide)
    have g:=ih.seq _ ha
    have g2:=ih.altL _ _ g.inv ((hq.mono g.al).either g.pb)
    exact g2.trans (Nat.le_trans (by simp[aS]) g.le) g.al
   ·exact⟨h,hq,Nat.le_refl _,Nat.le_refl _⟩
  ·rw[qQ]
   exact ih.seqL _ _ h (PB.nothing _)
  ·rw[jJ]
   split
   ·exact⟨h,hq,Nat.le_refl _,Nat.le_refl _⟩
   ·rename_i hc
    have g:=ih.part s h (fun e=>hc (.inl e))
    have g2:=ih.seqL (joinF q (dK t n s).1) { (dK t n s).2 with fo:=iJ (dK t n s).2.fo q (dK t n s).1 } (g.inv.tie g.pb) ((hq.mono g.al).join g.pb)
    exact g2.trans g.le g.al
  ·rw[jK]
   have g:=ih.atom s h hp
   exact (ih.partL _ _ g.inv g.pb).trans g.le g.al
  ·rw[iE]
   split
   ·rename_i hc
    have hi:=h.tie (q:=q) hq
    have ha:=hi.adv (s:={ s with fo:=iJ s.fo q q }) (by rw[gO,hc];decide)
    exact (ih.partL _ _ ha (hq.either (PB.nothing _))).trans (by simp[aS]) (Nat.le_refl _)
   ·split
    ·rename_i _ hc
     have hi:=h.tie (q:=q) hq
     have ha:=hi.adv (s:={ s with fo:=iJ s.fo q q }) (by rw[gO,hc];decide)
     exact (ih.partL _ _ ha hq).trans (by simp[aS]) (Nat.le_refl _)
    ·split
     ·rename_i _ _ hc
      have ha:=h.adv (by rw[hc];decide)
      exact (ih.partL _ _ ha (hq.either (PB.nothing _))).trans (by simp[aS]) (Nat.le_refl _)
     ·exact⟨h,hq,Nat.le_refl _,Nat.le_refl _⟩
  ·rw[jM]
   have ha:=h.adv hp
   have hlt:(aS s).atoms<(aS s).pos:=by have:=h.at_;simp[aS];omega
   split
   ·have g:=ih.alt _ ha
    have nn:=mH (t:=t) (jN t n (aS s)).2 41 (by decide)
    refine⟨nn.inv g.inv,?_,Nat.le_trans (Nat.le_trans (by simp[aS]) g.le) nn.le,?_⟩
    ·rw[nn.atoms];exact g.pb
    ·rw[nn.atoms];exact g.al
   ·split
    ·exact (j8 n _ ha hlt).trans (by simp[aS]) (Nat.le_refl _)
    ·split
     ·exact H0 s 0 255 ha hlt (by simp[aS]) (Nat.le_refl _)
     ·split
      ·exact⟨ha,PB.anchor _ _,by simp[aS],Nat.le_refl _⟩
      ·split
       ·exact⟨ha,PB.anchor _ _,by simp[aS],Nat.le_refl _⟩
       ·obtain⟨hn,hl⟩:=sA s hp
        exact H0 s _ _ (hn.inv h) (by rw[hn.atoms];have:=h.at_;omega) hn.le (by rw[hn.atoms];exact Nat.le_refl _)
theorem zM {n:Nat}{s:St} (h:Inv t s) (hp:aB t s≠-1):s.pos<(lG t (n+1) s).2.pos:=by
 have ha:=h.adv hp
 have hlt:(aS s).atoms<(aS s).pos:=by have:=h.at_;simp[aS];omega
 have e1:s.pos<(aS s).pos:=by simp[aS]
 rw[jM]
 split
 ·have g:=(eY t n).alt _ ha
  have nn:=mH (t:=t) (jN t n (aS s)).2 41 (by decide)
  exact Nll (Nll e1 g.le) nn.le
 ·split
  ·exact Nll e1 (j8 n _ ha hlt).le
  ·split
   ·exact e1
   ·split
    ·exact e1
    ·split
     ·exact e1
     ·exact (sA s hp).2
theorem yV {n:Nat}{s:St} (h:Inv t s) (hp:aB t s≠-1):s.pos<(dK t (n+2) s).2.pos:=by
 rw[jK]
 have g:=(eY t (n+1)).atom s h hp
 exact Nll (zM h hp) ((eY t (n+1)).partL _ _ g.inv g.pb).le
structure Res (b:Nat) (W:World):Prop where
 rr:kJ W b [.bool false,.int .u64 0,.int .u64 0,.bool false,.int .u64 0,.int .u64 0,.bool false,.int .u64 0,.int .u64 0,.bool false,.int .u64 0,.int .u64 0]
 zr:∀ i,W.frozen? ⟨b,i,none⟩=false
theorem Res.lt {b:Nat}{W:World} (h:Res b W):b<W.heap.size:=aC (a:=⟨b,0,none⟩) (h.rr 0)
theorem Res.al {b:Nat}{W:World}(h:Res b W):W.cell? ⟨b,0,none⟩=some (.bool false)∧W.cell? ⟨b,1,none⟩=some (.int .u64 0)∧W.cell? ⟨b,2,none⟩=some (.int .u64 0)∧W.cell? ⟨b,3,none⟩=some (.bool false)∧W.cell? ⟨b,4,none⟩=some (.int .u64 0)∧W.cell? ⟨b,5,none⟩=some (.int .u64 0)∧W.cell? ⟨b,6,none⟩=some (.bool false)∧W.cell? ⟨b,7,none⟩=some (.int .u64 0)∧W.cell? ⟨b,8,none⟩=some (.int .u64 0)∧W.cell? ⟨b,9,none⟩=some (.bool false)∧W.cell? ⟨b,10,none⟩=some (.int .u64 0)∧W.cell? ⟨b,11,none⟩=some (.int .u64 0):=⟨h.rr 0,h.rr 1,h.rr 2,h.rr 3,h.rr 4,h.rr 5,h.rr 6,h.rr 7,h.rr 8,h.rr 9,h.rr 10,h.rr 11⟩
theorem Res.az {b:Nat}{W:World}(h:Res b W):W.frozen? ⟨b,0,none⟩=false∧W.frozen? ⟨b,1,none⟩=false∧W.frozen? ⟨b,2,none⟩=false∧W.frozen? ⟨b,3,none⟩=false∧W.frozen? ⟨b,4,none⟩=false∧W.frozen? ⟨b,5,none⟩=false∧W.frozen? ⟨b,6,none⟩=false∧W.frozen? ⟨b,7,none⟩=false∧W.frozen? ⟨b,8,none⟩=false∧W.frozen? ⟨b,9,none⟩=false∧W.frozen? ⟨b,10,none⟩=false∧W.frozen? ⟨b,11,none⟩=false:=⟨h.zr 0,h.zr 1,h.zr 2,h.zr 3,h.zr 4,h.zr 5,h.zr 6,h.zr 7,h.zr 8,h.zr 9,h.zr 10,h.zr 11⟩
theorem Res.fr {S:List Nat}{b:Nat}{W W':World} (h:Res b W) (hf:Fr S W W') (hb:b ∉ S):Res b W':=⟨h.rr.fr hf hb h.lt,fun i=>(hf.frozen (p:=⟨b,i,none⟩) h.lt hb).trans (h.zr i)⟩
theorem Res.new (W:World):Res W.heap.size (W.alloc (Obj.cells #[.bool false,.int .u64 0,.int .u64 0,.bool false,.int .u64 0,.int .u64 0,.bool false,.int .u64 0,.int .u64 0,.bool false,.int .u64 0,.int .u64 0] 217)):=⟨eQ W _ 217,dL W _ 217⟩
structure ClI (w:World) (r pb:Nat) (t:ByteArray) (wh:Nat→Value) (s:St) (C:(Nat→Bool) × St) (m:Nat) (P:Nat→Bool) (s1:St) (W:World):Prop where
 mm:M W r pb t wh s1
 by_:fE W (w.heap.size+1) P
 res:Res w.heap.size W
 fr:Fr [r,pb] w W
 eq:Hid (bM t m P s1=C)
 near:pX t s s1
 fuel:s1.fault=true∨t.size-s1.pos<m
theorem aSc {w:World}{r pb:Nat}{t:ByteArray}{wh:Nat→Value}{s:St} (n:Nat) (h:M w r pb t wh s) (hi:Inv t s) (hs:t.size≤50) (hn:t.size-s.pos<n) (ha:s.atoms<50) :
  Calls prog 205 #[.pointer (some ⟨r,0,none⟩)] w fun e w'=>e=.returned (pv (iL t n s).1)∧M w' r pb t wh (iL t n s).2∧Fr [r,pb] w w':=by
 have hrl:=h.rlt
 have hpl:=h.pat.lt
 have t6:=h.tab.lt
 have hps:=hi.pos
 unfold iL
 simp only
 have n1:=jI (t:=t) s 94 (by decide)
 have hsk:=fun (W:World) (hW:M W r pb t wh s)=>tG 94 hW hs (by omega)
 obtain⟨a1,hq1⟩:∃ q,(aU t s 94).1=q:=⟨_,rfl⟩
 obtain⟨s1,hq2⟩:∃ q,(aU t s 94).2=q:=⟨_,rfl⟩
 simp only[hq1,hq2] at hsk n1 ⊢
 clear hq1 hq2
 have hp1:s1.pos≤t.size:=n1.pos hps
 have n2:=gQ (t:=t) s1 (fun _=>false)
 have g2:=uQ (t:=t) s1 (fun _=>false)
 have hit:=fun (W:World) (hW:M W r pb t wh s1) (hB:fE W (w.heap.size+1) (fun _=>false))=>aIk (w.heap.size+1) (fun _=>false) hW hB (by omega) (by omega) (by omega) hs (by omega)
 obtain⟨P2,hq3⟩:∃ q,(bN t s1 (fun _=>false)).1=q:=⟨_,rfl⟩
 obtain⟨s2,hq4⟩:∃ q,(bN t s1 (fun _=>false)).2=q:=⟨_,rfl⟩
 simp only[hq3,hq4] at hit n2 g2 ⊢
 clear hq3 hq4
 obtain⟨C,hC⟩:=eX (bM t n P2 s2)
 have n3:pX t s2 C.2:=by rw[← hC];exact nH n P2 s2
 rw[hC]
 have HC:Hid (bM t n P2 s2=C):=hC
 clear hC
 have Hsk:=(show Hid _ from hsk)
 have Hit:=(show Hid _ from hit)
 clear hsk hit
 have f0:Fr [] w ((w.alloc (Obj.cells #[.bool false,.int .u64 0,.int .u64 0,.bool false,.int .u64 0,.int .u64 0,.bool false,.int .u64 0,.int .u64 0,.bool false,.int .u64 0,.int .u64 0] 217)).alloc (Obj.cells zeroCells273 273)):=((Fr.refl [] _).alloc _).alloc _
 have b0:=fE.new (w.alloc (Obj.cells #[.bool false,.int .u64 0,.int .u64 0,.bool false,.int .u64 0,.int .u64 0,.bool false,.int .u64 0,.int .u64 0,.bool false,.int .u64 0,.int .u64 0] 217))
 rw[World.size_alloc] at b0
 have R0:=(Res.new w).fr ((Fr.refl [] _).alloc (Obj.cells zeroCells273 273)) (by simp)
 have m0:=h.fr f0 (by simp) (by simp) (by simp)
 go_enter func205,ntmps205
 go_wp2_with fail
 refine (Hsk.out _ m0).mono ?_
 rintro e w1 ⟨rfl,m1,f1⟩
 have b1:=b0.fr f1 (by simp;omega)
 have R1:=R0.fr f1 (by simp;omega)
 have F1:Fr [r,pb] w w1:=(f0.mono (by simp)).trans (f1.mono (by simp))
 clear b0 R0 m0 f1 f0
 go_wp2_with fail
 refine (Hit.out _ m1 b1).mono ?_
 rintro e w2 ⟨rfl,m2,b2,f2⟩
 have R2:=R1.fr f2 (by simp;omega)
 have F2:Fr [r,pb] w w2:=F1.trans' f2 (by simp)
 clear b1 R1 f2
 go_wp2
 go_loopg [10] n (fun m _ wr=>∃ P s1,ClI w r pb t wh s C m P s1 wr)
 case atStart=>exact⟨P2,s2,m2,b2,R2,F2,HC,n1.trans n2,g2.imp id (fun g=>by have:=n1.le;omega)⟩
 case round=>
  obtain⟨P,s3,J⟩:=hrel
  cases hf:s3.fault
  ·have c2:wr.cell? ⟨r,2,none⟩=some (.bool false):=by rw[← hf];exact J.mm.rd.c2
   have hfu:t.size-s3.pos<gk:=J.fuel.elim (fun e=>by rw[hf] at e;cases e) id
   obtain⟨m',rfl⟩:∃ m',gk=m'+1:=⟨gk-1,by omega⟩
   have heq:=J.eq.out
   unfold bM at heq
   by_cases h93:aB t s3=93
   ·rw[if_pos (.inr h93)] at heq
    obtain⟨rfl,rfl⟩:P=C.1∧s3=C.2:=by rw[← heq];exact⟨rfl,rfl⟩
    clear heq
    have nC:=J.near
    have hnd:=fun (W:World) (hW:M W r pb t wh C.2)=>O2 93 hW hs (by have:=nC.pos hps;omega)
    have nN:=nC.trans (mH (t:=t) C.2 93 (by decide))
    have hat:(eF t C.2 93).atoms<50:=by rw[nN.atoms];exact ha
    have htk:∀ b,(eF t C.2 93).tk b<18446744073709551616:=fun b=>by
     rw[nN.tk];exact Nat.lt_trans (hi.tk b) (Nat.lt_trans (Nat.pow_lt_pow_right (a:=2) (by decide) ha) (by decide))
    have htf:=fun (W:World) (hW:M W r pb t wh (eF t C.2 93)) (hB:fE W (w.heap.size+1) C.1)=>vE (w.heap.size+1) C.1 (!a1) hW hB (by omega) (by omega) hat htk
    obtain⟨q,hq⟩:=eX ((cL (eF t C.2 93) (fun b=>C.1 b == !a1)).1)
    obtain⟨sq,hsq⟩:∃ q,(cL (eF t C.2 93) (fun b=>C.1 b == !a1)).2=q:=⟨_,rfl⟩
    simp only[hq,hsq] at htf
    have Hq:Hid (_=q):=hq
    have Hs:Hid (_=sq):=hsq
    have Hnd:=(show Hid _ from hnd)
    have Htf:=(show Hid _ from htf)
    clear hq hsq hnd htf
    have hne:(aB t C.2 != 93)=false:=by simp[h93]
    go_wp2_with fail
    refine (dW J.mm hs).mono ?_
    rintro e w5 ⟨rfl,n5,rfl⟩
    go_wp2_with fail
    refine (Hnd.out _ (J.mm.heap (w':=wr.drewN n5) rfl)).mono ?_
    rintro e w3 ⟨rfl,m3,f3⟩
    have b3:=(fE.mk (w:=wr.drewN n5) J.by_.c J.by_.z).fr f3 (by simp;omega)
    have R3:=(Res.mk (W:=wr.drewN n5) J.res.rr J.res.zr).fr f3 (by simp;omega)
    have F3:=(J.fr.drewN n5).trans (f3.mono (S':=[r,pb]) (by simp))
    go_wp2_with fail
    refine (Htf.out _ m3 b3).mono ?_
    rintro e w4 ⟨rfl,m4,f4⟩
    have R4:=R3.fr f4 (by simp;omega)
    have F4:=F3.trans f4
    obtain⟨y0,y1,y2,y3,y4,y5,y6,y7,y8,y9,y10,y11⟩:=R4.al
    obtain⟨z0,z1,z2,z3,z4,z5,z6,z7,z8,z9,z10,z11⟩:=R4.az
    unfold pv
    go_wp2
    have hfr:=fJ w4 w.heap.size (.bool (q 0).e) (.int .u64 (q 0).f) (.int .u64 (q 0).l) (.bool (q 1).e) (.int .u64 (q 1).f) (.int .u64 (q 1).l) (.bool (q 2).e) (.int .u64 (q 2).f) (.int .u64 (q 2).l) (.bool (q 3).e) (.int .u64 (q 3).f) (.int .u64 (q 3).l)
    refine bodyPost_ret (v:=pv q) (by simp[results,results205,go_sem,pv,y0,y1,y2,y3,y4,y5,y6,y7,y8,y9,y10,y11]) rfl ⟨by rw[Hq.out],?_,?_⟩
    ·rw[Hs.out];exact m4.fr hfr (by simp;omega) (by simp;omega) (by simp;omega)
    ·exact F4.trans' hfr (by simp)
   ·have hne:(aB t s3 != 93)=true:=by simp[h93]
    rw[if_neg (fun e=>e.elim (fun e=>by rw[hf] at e;cases e) h93)] at heq
    have nn:=gQ (t:=t) s3 P
    have gg:=uQ (t:=t) s3 P
    have hit:=fun (W:World) (hW:M W r pb t wh s3) (hB:fE W (w.heap.size+1) P)=>aIk (w.heap.size+1) P hW hB (by omega) (by omega) (by omega) hs (by have:=J.near.pos hps;omega)
    obtain⟨P4,hq3⟩:∃ q,(bN t s3 P).1=q:=⟨_,rfl⟩
    obtain⟨s4,hq4⟩:∃ q,(bN t s3 P).2=q:=⟨_,rfl⟩
    simp only[hq3,hq4] at hit nn gg heq
    have Hit:=(show Hid _ from hit)
    have Heq:=(show Hid _ from heq)
    clear hq3 hq4 hit heq
    go_wp2_with fail
    refine (dW J.mm hs).mono ?_
    rintro e w5 ⟨rfl,n5,rfl⟩
    go_wp2_with fail
    refine (Hit.out _ (J.mm.heap (w':=wr.drewN n5) rfl) (fE.mk (w:=wr.drewN n5) J.by_.c J.by_.z)).mono ?_
    rintro e w6 ⟨rfl,m6,b6,f6⟩
    go_wp2
    go_roundg m'
    case measure=>omega
    case rel=>exact⟨P4,s4,m6,b6,(Res.mk (W:=wr.drewN n5) J.res.rr J.res.zr).fr f6 (by simp;omega),(J.fr.drewN n5).trans' f6 (by simp),Heq.out,J.near.trans nn,gg.imp id (fun g=>by have:=nn.pos (J.near.pos hps);omega)⟩
  ·have heq:=J.eq.out
   have heq2:(P,s3)=C:=by
    cases gk with
    | zero=>exact heq
    | succ k=>unfold bM at heq;rw[if_pos (.inl hf)] at heq;exact heq
   clear heq
   obtain⟨rfl,rfl⟩:P=C.1∧s3=C.2:=by rw[← heq2];exact⟨rfl,rfl⟩
   clear heq2
   have nC:=J.near
   have hnd:=fun (W:World) (hW:M W r pb t wh C.2)=>O2 93 hW hs (by have:=nC.pos hps;omega)
   have nN:=nC.trans (mH (t:=t) C.2 93 (by decide))
   have hat:(eF t C.2 93).atoms<50:=by rw[nN.atoms];exact ha
   have htk:∀ b,(eF t C.2 93).tk b<18446744073709551616:=fun b=>by
    rw[nN.tk];exact Nat.lt_trans (hi.tk b) (Nat.lt_trans (Nat.pow_lt_pow_right (a:=2) (by decide) ha) (by decide))
   have htf:=fun (W:World) (hW:M W r pb t wh (eF t C.2 93)) (hB:fE W (w.heap.size+1) C.1)=>vE (w.heap.size+1) C.1 (!a1) hW hB (by omega) (by omega) hat htk
   obtain⟨q,hq⟩:=eX ((cL (eF t C.2 93) (fun b=>C.1 b == !a1)).1)
   obtain⟨sq,hsq⟩:∃ q,(cL (eF t C.2 93) (fun b=>C.1 b == !a1)).2=q:=⟨_,rfl⟩
   simp only[hq,hsq] at htf
   have Hq:Hid (_=q):=hq
   have Hs:Hid (_=sq):=hsq
   have Hnd:=(show Hid _ from hnd)
   have Htf:=(show Hid _ from htf)
   clear hq hsq hnd htf
   have c2:wr.cell? ⟨r,2,none⟩=some (.bool true):=by rw[← hf];exact J.mm.rd.c2
   go_wp2_with fail
   refine (Hnd.out _ J.mm).mono ?_
   rintro e w3 ⟨rfl,m3,f3⟩
   have b3:=J.by_.fr f3 (by simp;omega)
   have R3:=J.res.fr f3 (by simp;omega)
   have F3:=J.fr.trans (f3.mono (S':=[r,pb]) (by simp))
   go_wp2_with fail
   refine (Htf.out _ m3 b3).mono ?_
   rintro e w4 ⟨rfl,m4,f4⟩
   have R4:=R3.fr f4 (by simp;omega)
   have F4:=F3.trans f4
   obtain⟨y0,y1,y2,y3,y4,y5,y6,y7,y8,y9,y10,y11⟩:=R4.al
   obtain⟨z0,z1,z2,z3,z4,z5,z6,z7,z8,z9,z10,z11⟩:=R4.az
   unfold pv
   go_wp2
   have hfr:=fJ w4 w.heap.size (.bool (q 0).e) (.int .u64 (q 0).f) (.int .u64 (q 0).l) (.bool (q 1).e) (.int .u64 (q 1).f) (.int .u64 (q 1).l) (.bool (q 2).e) (.int .u64 (q 2).f) (.int .u64 (q 2).l) (.bool (q 3).e) (.int .u64 (q 3).f) (.int .u64 (q 3).l)
   refine bodyPost_ret (v:=pv q) (by simp[results,results205,go_sem,pv,y0,y1,y2,y3,y4,y5,y6,y7,y8,y9,y10,y11]) rfl ⟨by rw[Hq.out],?_,?_⟩
   ·rw[Hs.out];exact m4.fr hfr (by simp;omega) (by simp;omega) (by simp;omega)
   ·exact F4.trans' hfr (by simp)
end Go.Proofs.YtgpamchpeamnfaaGreatDoor
