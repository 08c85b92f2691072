/-
  Texts Gl Nq.
-/
import Derived.Test.YtclkgoigmgkffaaGreatDoorMA
import Derived.Test.YtclkgoigmgkffaaGreatDoorM37
import Derived.Test.YtclkgoigmgkffaaGreatDoorM20
set_option linter.unusedSimpArgs false
set_option linter.unusedVariables false
set_option maxRecDepth 100000
set_option maxHeartbeats 40000000
namespace Go.Proofs.YtclkgoigmgkffaaGreatDoor
open Go.RowKit
open Wire
structure BoxR (B:Nat) (r mb:Nat) (o0 o1:Option (List ByteArray)) (o2 o3:Option Nat) (o4:Option (List Wire.Fn)) (W:World):Prop where
 m0:∃ v L,W.cell? ⟨mb,0,none⟩=some v∧StrsFar B W v L∧∀ X,o0=some X→L=X
 m1:∃ v L,W.cell? ⟨mb,1,none⟩=some v∧StrsFar B W v L∧∀ X,o1=some X→L=X
 m2:∃ n:Nat,W.cell? ⟨mb,2,none⟩=some (.int .i64 n)∧∀ X,o2=some X→n=X
 m3:∃ n:Nat,W.cell? ⟨mb,3,none⟩=some (.int .i64 n)∧∀ X,o3=some X→n=X
 m4:∃ v L,W.cell? ⟨mb,4,none⟩=some v∧FnsFar B W v L∧∀ X,o4=some X→L=X
 fz:∀ i,W.frozen? ⟨mb,i,none⟩=false
 dis:∀ v0 v1 g,W.cell? ⟨mb,0,none⟩=some v0→W.cell? ⟨mb,1,none⟩=some v1→v0.ownBlock=some g→v1.ownBlock=some g→False
 n2:r≠mb
 lr:r<B
 lm:mb<B
 lB:B≤W.heap.size
variable {B r mb : Nat} {o0 o1 : Option (List ByteArray)} {o2 o3 : Option Nat} {o4 : Option (List Wire.Fn)} {W W' : World}
theorem BoxR.ltm (h:BoxR B r mb o0 o1 o2 o3 o4 W):mb<W.heap.size:=Nll h.lm h.lB
theorem BoxR.fr (h:BoxR B r mb o0 o1 o2 o3 o4 W)(hf:Fr [r] W W'):BoxR B r mb o0 o1 o2 o3 o4 W':=by
 have hS:∀ x,x ∈ [r]→x<B:=fun x hx=>by have:=h.lr;simp at hx;omega
 have cm:∀ i,W'.cell? ⟨mb,i,none⟩=W.cell? ⟨mb,i,none⟩:=fun i=>hf.cell (p:=⟨mb,i,none⟩) h.ltm (by simpa using fun e=>h.n2 e.symm)
 obtain⟨v0,L0,a0,b0,c0⟩:=h.m0
 obtain⟨v1,L1,a1,b1,c1⟩:=h.m1
 obtain⟨n2,a2,c2⟩:=h.m2
 obtain⟨n3,a3,c3⟩:=h.m3
 obtain⟨v4,L4,a4,b4,c4⟩:=h.m4
 refine⟨⟨v0,L0,(cm 0).trans a0,b0.fr hf hS,c0⟩,⟨v1,L1,(cm 1).trans a1,b1.fr hf hS,c1⟩,
  ⟨n2,(cm 2).trans a2,c2⟩,⟨n3,(cm 3).trans a3,c3⟩,⟨v4,L4,(cm 4).trans a4,b4.fr hf hS,c4⟩,fun i=>(hf.frozen (p:=⟨mb,i,none⟩) h.ltm (by simpa using fun e=>h.n2 e.symm)).trans (h.fz i),fun w0 w1 g j0 j1=>h.dis w0 w1 g ((cm 0).symm.trans j0) ((cm 1).symm.trans j1),h.n2,h.lr,h.lm,Nat.le_trans h.lB hf.size⟩
theorem BoxR.set (h:BoxR B r mb o0 o1 o2 o3 o4 W)(i:Nat)(v:Value)(q0 q1:Option (List ByteArray))(q2 q3:Option Nat)(q4:Option (List Wire.Fn))
  (h0:∃ v' L,(W.setCell ⟨mb,i,none⟩ v).cell? ⟨mb,0,none⟩=some v'∧StrsFar B W v' L∧∀ X,q0=some X→L=X)
  (h1:∃ v' L,(W.setCell ⟨mb,i,none⟩ v).cell? ⟨mb,1,none⟩=some v'∧StrsFar B W v' L∧∀ X,q1=some X→L=X)
  (h2:∃ n:Nat,(W.setCell ⟨mb,i,none⟩ v).cell? ⟨mb,2,none⟩=some (.int .i64 n)∧∀ X,q2=some X→n=X)
  (h3:∃ n:Nat,(W.setCell ⟨mb,i,none⟩ v).cell? ⟨mb,3,none⟩=some (.int .i64 n)∧∀ X,q3=some X→n=X)
  (h4:∃ v' L,(W.setCell ⟨mb,i,none⟩ v).cell? ⟨mb,4,none⟩=some v'∧FnsFar B W v' L∧∀ X,q4=some X→L=X)
  (hd:∀ v0 v1 g,(W.setCell ⟨mb,i,none⟩ v).cell? ⟨mb,0,none⟩=some v0→(W.setCell ⟨mb,i,none⟩ v).cell? ⟨mb,1,none⟩=some v1→v0.ownBlock=some g→v1.ownBlock=some g→False):BoxR B r mb q0 q1 q2 q3 q4 (W.setCell ⟨mb,i,none⟩ v):=by
 have hf:=fr_set W mb i v
 have hS:∀ x,x ∈ [mb]→x<B:=fun x hx=>by have:=h.lm;simp at hx;omega
 obtain⟨v0,L0,a0,b0,c0⟩:=h0
 obtain⟨v1,L1,a1,b1,c1⟩:=h1
 obtain⟨v4,L4,a4,b4,c4⟩:=h4
 exact⟨⟨v0,L0,a0,b0.fr hf hS,c0⟩,⟨v1,L1,a1,b1.fr hf hS,c1⟩,h2,h3,⟨v4,L4,a4,b4.fr hf hS,c4⟩,
  fun j=>by rw[wfz];exact h.fz j,hd,h.n2,h.lr,h.lm,Nat.le_trans h.lB hf.size⟩
theorem set_sameR (h:BoxR B r mb o0 o1 o2 o3 o4 W)(i:Nat)(hi:i<5)(v:Value):(W.setCell ⟨mb,i,none⟩ v).cell? ⟨mb,i,none⟩=some v:=by
 obtain⟨v0,L0,a0,-⟩:=h.m0
 obtain⟨v1,L1,a1,-⟩:=h.m1
 obtain⟨n2,a2,-⟩:=h.m2
 obtain⟨n3,a3,-⟩:=h.m3
 obtain⟨v4,L4,a4,-⟩:=h.m4
 obtain rfl | rfl | rfl | rfl | rfl:i=0∨i=1∨i=2∨i=3∨i=4:=by omega
 ·exact cell_set a0
 ·exact cell_set a1
 ·exact cell_set a2
 ·exact cell_set a3
 ·exact cell_set a4
theorem BoxR.set0 (h:BoxR B r mb o0 o1 o2 o3 o4 W)(v:Value)(L:List ByteArray)(q:Option (List ByteArray))(hv:StrsFar B W v L)(hq:∀ X,q=some X→L=X)(hn:∀ v1 g,W.cell? ⟨mb,1,none⟩=some v1→v.ownBlock=some g→v1.ownBlock=some g→False):BoxR B r mb q o1 o2 o3 o4 (W.setCell ⟨mb,0,none⟩ v):=by
 obtain⟨v1,L1,a1,b1⟩:=h.m1
 obtain⟨n2,a2,c2⟩:=h.m2
 obtain⟨n3,a3,c3⟩:=h.m3
 obtain⟨v4,L4,a4,b4⟩:=h.m4
 exact h.set 0 v q o1 o2 o3 o4 ⟨v,L,set_sameR h 0 (by omega) v,hv,hq⟩ ⟨v1,L1,(setCell_off (by decide)).trans a1,b1⟩ ⟨n2,(setCell_off (by decide)).trans a2,c2⟩ ⟨n3,(setCell_off (by decide)).trans a3,c3⟩ ⟨v4,L4,(setCell_off (by decide)).trans a4,b4⟩
  (fun w0 w1 g j0 j1 e0 e1=>by rw[set_sameR h 0 (by omega) v] at j0;cases j0;exact hn w1 g ((setCell_off (by decide)).symm.trans j1) e0 e1)
theorem BoxR.set1 (h:BoxR B r mb o0 o1 o2 o3 o4 W)(v:Value)(L:List ByteArray)(q:Option (List ByteArray))(hv:StrsFar B W v L)(hq:∀ X,q=some X→L=X)(hn:∀ v1 g,W.cell? ⟨mb,0,none⟩=some v1→v.ownBlock=some g→v1.ownBlock=some g→False):BoxR B r mb o0 q o2 o3 o4 (W.setCell ⟨mb,1,none⟩ v):=by
 obtain⟨v0,L0,a0,b0⟩:=h.m0
 obtain⟨n2,a2,c2⟩:=h.m2
 obtain⟨n3,a3,c3⟩:=h.m3
 obtain⟨v4,L4,a4,b4⟩:=h.m4
 exact h.set 1 v o0 q o2 o3 o4 ⟨v0,L0,(setCell_off (by decide)).trans a0,b0⟩ ⟨v,L,set_sameR h 1 (by omega) v,hv,hq⟩ ⟨n2,(setCell_off (by decide)).trans a2,c2⟩ ⟨n3,(setCell_off (by decide)).trans a3,c3⟩ ⟨v4,L4,(setCell_off (by decide)).trans a4,b4⟩
  (fun w0 w1 g j0 j1 e0 e1=>by rw[set_sameR h 1 (by omega) v] at j1;cases j1;exact hn w0 g ((setCell_off (by decide)).symm.trans j0) e1 e0)
theorem BoxR.set2 (h:BoxR B r mb o0 o1 o2 o3 o4 W)(n:Nat)(q:Option Nat)(hq:∀ X,q=some X→n=X):BoxR B r mb o0 o1 q o3 o4 (W.setCell ⟨mb,2,none⟩ (.int .i64 n)):=by
 obtain⟨v0,L0,a0,b0⟩:=h.m0
 obtain⟨v1,L1,a1,b1⟩:=h.m1
 obtain⟨n3,a3,c3⟩:=h.m3
 obtain⟨v4,L4,a4,b4⟩:=h.m4
 exact h.set 2 _ o0 o1 q o3 o4 ⟨v0,L0,(setCell_off (by decide)).trans a0,b0⟩ ⟨v1,L1,(setCell_off (by decide)).trans a1,b1⟩ ⟨n,set_sameR h 2 (by omega) _,hq⟩ ⟨n3,(setCell_off (by decide)).trans a3,c3⟩ ⟨v4,L4,(setCell_off (by decide)).trans a4,b4⟩
  (fun w0 w1 g j0 j1=>h.dis w0 w1 g ((setCell_off (by decide)).symm.trans j0) ((setCell_off (by decide)).symm.trans j1))
theorem BoxR.set3 (h:BoxR B r mb o0 o1 o2 o3 o4 W)(n:Nat)(q:Option Nat)(hq:∀ X,q=some X→n=X):BoxR B r mb o0 o1 o2 q o4 (W.setCell ⟨mb,3,none⟩ (.int .i64 n)):=by
 obtain⟨v0,L0,a0,b0⟩:=h.m0
 obtain⟨v1,L1,a1,b1⟩:=h.m1
 obtain⟨n2,a2,c2⟩:=h.m2
 obtain⟨v4,L4,a4,b4⟩:=h.m4
 exact h.set 3 _ o0 o1 o2 q o4 ⟨v0,L0,(setCell_off (by decide)).trans a0,b0⟩ ⟨v1,L1,(setCell_off (by decide)).trans a1,b1⟩ ⟨n2,(setCell_off (by decide)).trans a2,c2⟩ ⟨n,set_sameR h 3 (by omega) _,hq⟩ ⟨v4,L4,(setCell_off (by decide)).trans a4,b4⟩
  (fun w0 w1 g j0 j1=>h.dis w0 w1 g ((setCell_off (by decide)).symm.trans j0) ((setCell_off (by decide)).symm.trans j1))
theorem BoxR.set4 (h:BoxR B r mb o0 o1 o2 o3 o4 W)(v:Value)(L:List Wire.Fn)(q:Option (List Wire.Fn))(hv:FnsFar B W v L)(hq:∀ X,q=some X→L=X):BoxR B r mb o0 o1 o2 o3 q (W.setCell ⟨mb,4,none⟩ v):=by
 obtain⟨v0,L0,a0,b0⟩:=h.m0
 obtain⟨v1,L1,a1,b1⟩:=h.m1
 obtain⟨n2,a2,c2⟩:=h.m2
 obtain⟨n3,a3,c3⟩:=h.m3
 exact h.set 4 v o0 o1 o2 o3 q ⟨v0,L0,(setCell_off (by decide)).trans a0,b0⟩ ⟨v1,L1,(setCell_off (by decide)).trans a1,b1⟩ ⟨n2,(setCell_off (by decide)).trans a2,c2⟩ ⟨n3,(setCell_off (by decide)).trans a3,c3⟩ ⟨v,L,set_sameR h 4 (by omega) v,hv,hq⟩
  (fun w0 w1 g j0 j1=>h.dis w0 w1 g ((setCell_off (by decide)).symm.trans j0) ((setCell_off (by decide)).symm.trans j1))
theorem sect_ref {α:Type}(k:Nat)(hk:k<256)(f:Rd α)(hf:Tidy f)(d:α)(b:ByteArray){s s1 s2:Sta}{x:Nat} (hok:okSta (bl b) s) (hend:∀ p,s=.inr p→p.2=b.size)
  (k1:nextR (needR (UInt8.ofNat k) 7) (bl b) s=s1) (h2:outR numU (bl b) 0 s1=x) (k2:nextR numU (bl b) s1=s2) :
  nextR (fun base l=>sectR k base f l) (bl b) s=endS b.size (shutS b.size (nextR f (bl b) (beginS b.size x s1 s2))) ∧
  ((∃ p,nextR (fun base l=>sectR k base f l) (bl b) s=.inr p)→(∃ p,nextR f (bl b) (beginS b.size x s1 s2)=.inr p)∧outR (fun base l=>sectR k base f l) (bl b) d s=outR f (bl b) d (beginS b.size x s1 s2)):=by
 obtain⟨q1,q2⟩:=sect_next k hk f hf d b hok hend k1 h2 k2
 by_cases hc:stE b.size s2-stA b.size s2<x
 ·have e1:=q1 hc
  have hb:beginS b.size x s1 s2=failS 7 (stA b.size s1) s2:=by unfold beginS;exact if_pos hc
  rw[hb,e1]
  rcases s2 with g | p
  ·exfalso
   have hx0:x=0:=by rw[← h2];exact out_bad k2
   omega
  ·refine⟨?_,?_⟩
   ·show failS 7 (stA b.size s1) (.inr p)=endS b.size (shutS b.size (.inl (7,stA b.size s1)))
    rw[shutS_bad]
    rfl
   ·rintro ⟨y,hy⟩
    cases hy
 ·obtain⟨e1,e2⟩:=q2 hc
  have hb:beginS b.size x s1 s2=openS x s2:=by unfold beginS;exact if_neg hc
  rw[hb]
  refine⟨e1,fun h=>e2 (by rw[← e1];exact h)⟩
theorem BoxR.start {w:World}{r mb:Nat} (hm:w.heap[mb]?=some (.cells zeroM 30)) (hrm:r≠mb) (hr:r<w.heap.size):BoxR w.heap.size r mb none none none none none w:=by
 have cm:∀ i,w.cell? ⟨mb,i,none⟩=zeroM[i]?:=fun i=>by unfold World.cell?;rw[hm];simp
 exact⟨⟨_,[],cm 0,far_nil _ _,fun X h=>by cases h⟩,⟨_,[],cm 1,far_nil _ _,fun X h=>by cases h⟩,⟨0,cm 2,fun X h=>by cases h⟩,⟨0,cm 3,fun X h=>by cases h⟩,⟨_,[],cm 4,farF_nil _ _,fun X h=>by cases h⟩,
  fun i=>by unfold World.frozen?;rw[hm];simp,fun w0 w1 g j0 _ e0 _=>by (rw[cm 0] at j0;simp[zeroM] at j0;subst j0;cases e0),hrm,hr,(Age.1 hm).1,Nat.le_refl _⟩
def UnpackPost (b:ByteArray) (w:World) (ee:Ending) (w':World):Prop:=
 Fr [] w w' ∧
 ((∃ e p:Nat,unpack ipF (bl b)=.inl (e,p)∧0<e∧e≤100∧p≤b.size∧ee=.returned (.tuple #[.agg #[.slice none 0 0,.slice none 0 0,.int .i64 0,.int .i64 0,.slice none 0 0],.int .i64 p,.int .i64 e])) ∨
   ∃ (m:Mo) (a0 a1 a4:Option Addr) (n0 c0 n1 c1 n4 c4 gn an:Nat),unpack ipF (bl b)=.inr m∧ee=.returned (.tuple #[.agg #[.slice a0 n0 c0,.slice a1 n1 c1,.int .i64 gn,.int .i64 an,.slice a4 n4 c4],.int .i64 0,.int .i64 0]) ∧
    ModFar w.heap.size w' (.agg #[.slice a0 n0 c0,.slice a1 n1 c1,.int .i64 gn,.int .i64 an,.slice a4 n4 c4]) m)
theorem RdS.start (w:World)(b:ByteArray):RdS (w.alloc (.cells #[.string b,.int .i64 0,.int .i64 b.size,.int .i64 0,.int .i64 0] 95)) w.heap.size b (.inr (0,b.size)):=by
 have hm:=wan w (.cells #[.string b,.int .i64 0,.int .i64 b.size,.int .i64 0,.int .i64 0] 95)
 have hc:∀ i,(w.alloc (.cells #[.string b,.int .i64 0,.int .i64 b.size,.int .i64 0,.int .i64 0] 95)).cell? ⟨w.heap.size,i,none⟩=(#[.string b,.int .i64 0,.int .i64 b.size,.int .i64 0,.int .i64 0]:Array Value)[i]?:=fun i=>by
  unfold World.cell?;rw[hm];simp
 have hz:∀ i,(w.alloc (.cells #[.string b,.int .i64 0,.int .i64 b.size,.int .i64 0,.int .i64 0] 95)).frozen? ⟨w.heap.size,i,none⟩=false:=fun i=>by
  unfold World.frozen?;rw[hm];simp
 have hL:=bl_length b
 exact⟨⟨hc 0,hc 1,hc 2,hc 3,hc 4,hz 1,hz 2,hz 3,hz 4⟩,⟨Nat.zero_le _,Nat.le_of_eq hL.symm⟩⟩
theorem unpackM_long (b:ByteArray)(w:World)(hm:b.size≤maxLen)(hl:40000<b.size):Calls Tryz.prog 19 #[.string b] w (UnpackPost b w):=by
 have hL:=bl_length b
 have hU:unpack ipF (bl b)=.inl (1,0):=by unfold unpack;rw[if_pos (by omega)]
 have HU:Hid _:=hU
 have g1:(40000:Int)<b.size:=by omega
 unfold maxLen at hm
 have hnew:=wan w (.cells #[.slice none 0 0,.slice none 0 0,.int .i64 0,.int .i64 0,.slice none 0 0] 30)
 have F0:Fr [] w (w.alloc (.cells #[.slice none 0 0,.slice none 0 0,.int .i64 0,.int .i64 0,.slice none 0 0] 30)):=(Fr.refl [] w).alloc _
 clear hU
 go_enter Tryz.func19,Tryz.ntmps19
 go_wp2
 generalize w.alloc (.cells #[.slice none 0 0,.slice none 0 0,.int .i64 0,.int .i64 0,.slice none 0 0] 30)=Z at *
 have y0:Z.cell? ⟨w.heap.size,0,none⟩=some (.slice none 0 0):=by unfold World.cell?;rw[hnew];rfl
 have y1:Z.cell? ⟨w.heap.size,1,none⟩=some (.slice none 0 0):=by unfold World.cell?;rw[hnew];rfl
 have y2:Z.cell? ⟨w.heap.size,2,none⟩=some (.int .i64 0):=by unfold World.cell?;rw[hnew];rfl
 have y3:Z.cell? ⟨w.heap.size,3,none⟩=some (.int .i64 0):=by unfold World.cell?;rw[hnew];rfl
 have y4:Z.cell? ⟨w.heap.size,4,none⟩=some (.slice none 0 0):=by unfold World.cell?;rw[hnew];rfl
 refine bodyPost_ret (v:=.tuple #[.agg #[.slice none 0 0,.slice none 0 0,.int .i64 0,.int .i64 0,.slice none 0 0],.int .i64 0,.int .i64 1]) (by simp[results,Tryz.results19,go_sem,y0,y1,y2,y3,y4]) rfl ?_
 exact⟨F0,.inl ⟨1,0,HU.out,by omega,by omega,by omega,rfl⟩⟩
theorem unpackM_short (b:ByteArray)(w:World)(hs:b.size≤40000)(hT:Tab w):Calls Tryz.prog 19 #[.string b] w (UnpackPost b w):=by
 have hL:=bl_length b
 have hU:unpack ipF (bl b)=unpackR ipF (bl b):=by unfold unpack;rw[if_neg (by omega)]
 have HU:Hid _:=hU
 have g1:¬ (40000:Int)<b.size:=by omega
 have hT0:=hT.lt
 have F0:Fr [] w ((w.alloc (.cells #[.slice none 0 0,.slice none 0 0,.int .i64 0,.int .i64 0,.slice none 0 0] 30)).alloc (.cells #[.string b,.int .i64 0,.int .i64 b.size,.int .i64 0,.int .i64 0] 95)):=((Fr.refl [] w).alloc _).alloc _
 have K0:=RdS.start (w.alloc (.cells #[.slice none 0 0,.slice none 0 0,.int .i64 0,.int .i64 0,.slice none 0 0] 30)) b
 rw[World.size_alloc] at K0
 have hres:((w.alloc (.cells #[.slice none 0 0,.slice none 0 0,.int .i64 0,.int .i64 0,.slice none 0 0] 30)).alloc (.cells #[.string b,.int .i64 0,.int .i64 b.size,.int .i64 0,.int .i64 0] 95)).heap[w.heap.size]?=some (.cells #[.slice none 0 0,.slice none 0 0,.int .i64 0,.int .i64 0,.slice none 0 0] 30):=by
  rw[Below.heap_alloc _ _ _ (by simp),wan]
 have hsz0:((w.alloc (.cells #[.slice none 0 0,.slice none 0 0,.int .i64 0,.int .i64 0,.slice none 0 0] 30)).alloc (.cells #[.string b,.int .i64 0,.int .i64 b.size,.int .i64 0,.int .i64 0] 95)).heap.size=w.heap.size+2:=by simp
 have hmod:=module_any K0 hs (hT.fr F0 (by simp)) (by omega)
 have HM:Hid _:=hmod
 clear hU hmod
 go_enter Tryz.func19,Tryz.ntmps19
 go_wp2_with fail
 generalize ((w.alloc (.cells #[.slice none 0 0,.slice none 0 0,.int .i64 0,.int .i64 0,.slice none 0 0] 30)).alloc (.cells #[.string b,.int .i64 0,.int .i64 b.size,.int .i64 0,.int .i64 0] 95))=W0 at *
 refine Calls.mono HM.out ?_
 rintro ee W1 ⟨sF,a0,a1,a4,n0,c0,n1,c1,n4,c4,gn,an,rfl,K1,F1,hcase⟩
 have HC:Hid _:=hcase
 have hres1:W1.heap[w.heap.size]?=some (.cells #[.slice none 0 0,.slice none 0 0,.int .i64 0,.int .i64 0,.slice none 0 0] 30):=by
  rw[F1.block _ (Age.1 hres).1 (by simp),hres]
 have F2:Fr [] w W1:=F0.trans' F1 (fun x hx=>.inr (by simp at hx;omega))
 have HS0:Hid _:=hsz0
 clear hcase HM hres F0 F1 K0 hsz0
 have d3:=K1.c.c3
 have d4:=K1.c.c4
 have hrl:=K1.lt
 have hsz1:=F2.size
 -- the box of what came
 have K2:=K1.fr ((Fr.refl [] W1).alloc (.cells #[.slice a0 n0 c0,.slice a1 n1 c1,.int .i64 gn,.int .i64 an,.slice a4 n4 c4] 30)) (by simp)
 have F3:Fr [] W1 (W1.alloc (.cells #[.slice a0 n0 c0,.slice a1 n1 c1,.int .i64 gn,.int .i64 an,.slice a4 n4 c4] 30)):=(Fr.refl [] W1).alloc _
 have hres2:(W1.alloc (.cells #[.slice a0 n0 c0,.slice a1 n1 c1,.int .i64 gn,.int .i64 an,.slice a4 n4 c4] 30)).heap[w.heap.size]?=some (.cells #[.slice none 0 0,.slice none 0 0,.int .i64 0,.int .i64 0,.slice none 0 0] 30):=by
  rw[Below.heap_alloc _ _ _ (Age.1 hres1).1,hres1]
 have hbox:=wan W1 (.cells #[.slice a0 n0 c0,.slice a1 n1 c1,.int .i64 gn,.int .i64 an,.slice a4 n4 c4] 30)
 have r0:W1.cell? ⟨w.heap.size,0,none⟩=some (.slice none 0 0):=by unfold World.cell?;rw[hres1];rfl
 have r1:W1.cell? ⟨w.heap.size,1,none⟩=some (.slice none 0 0):=by unfold World.cell?;rw[hres1];rfl
 have r2:W1.cell? ⟨w.heap.size,2,none⟩=some (.int .i64 0):=by unfold World.cell?;rw[hres1];rfl
 have r3:W1.cell? ⟨w.heap.size,3,none⟩=some (.int .i64 0):=by unfold World.cell?;rw[hres1];rfl
 have r4:W1.cell? ⟨w.heap.size,4,none⟩=some (.slice none 0 0):=by unfold World.cell?;rw[hres1];rfl
 have rz:∀ i,W1.frozen? ⟨w.heap.size,i,none⟩=false:=fun i=>by unfold World.frozen?;rw[hres1];simp
 have rz0:=rz 0
 have rz1:=rz 1
 have rz2:=rz 2
 have rz3:=rz 3
 have rz4:=rz 4
 have hlt1:w.heap.size<W1.heap.size:=(Age.1 hres1).1
 have hokS:=K1.ok
 clear hres1 rz hres2 hbox K2 K1 hsz1
 rcases sF with ⟨er,pl⟩ | ⟨sa,se⟩
 ·have k0:0<er:=hokS.1
  have k1:er≤100:=hokS.2.1
  have k2:pl≤(bl b).length:=hokS.2.2
  simp only[stR,stP] at d3 d4
  have g2:((er:Int)!=0)=true:=by simp;omega
  obtain⟨y0,y1,y2,y3,y4⟩:=put5_cells (.slice none 0 0) (.slice none 0 0) (.int .i64 0) (.int .i64 0) (.slice none 0 0) r0 r1 r2 r3 r4
  have hltP:=lt_of_cell y0
  have FA:Fr [] (put5 W1 w.heap.size (.slice none 0 0) (.slice none 0 0) (.int .i64 0) (.int .i64 0) (.slice none 0 0)) ((put5 W1 w.heap.size (.slice none 0 0) (.slice none 0 0) (.int .i64 0) (.int .i64 0) (.slice none 0 0)).alloc (.cells #[.slice a0 n0 c0,.slice a1 n1 c1,.int .i64 gn,.int .i64 an,.slice a4 n4 c4] 30)):=(Fr.refl [] _).alloc _
  have FP:=put5_fr W1 w.heap.size (.slice none 0 0) (.slice none 0 0) (.int .i64 0) (.int .i64 0) (.slice none 0 0)
  have z0:=(FA.cell (p:=⟨w.heap.size,0,none⟩) hltP (by simp)).trans y0
  have z1:=(FA.cell (p:=⟨w.heap.size,1,none⟩) hltP (by simp)).trans y1
  have z2:=(FA.cell (p:=⟨w.heap.size,2,none⟩) hltP (by simp)).trans y2
  have z3:=(FA.cell (p:=⟨w.heap.size,3,none⟩) hltP (by simp)).trans y3
  have z4:=(FA.cell (p:=⟨w.heap.size,4,none⟩) hltP (by simp)).trans y4
  have FZ:Fr [] w ((put5 W1 w.heap.size (.slice none 0 0) (.slice none 0 0) (.int .i64 0) (.int .i64 0) (.slice none 0 0)).alloc (.cells #[.slice a0 n0 c0,.slice a1 n1 c1,.int .i64 gn,.int .i64 an,.slice a4 n4 c4] 30)):=(F2.trans' FP (fun x hx=>.inr (by simp at hx;omega))).trans FA
  have FW:Fr [w.heap.size] W1 ((put5 W1 w.heap.size (.slice none 0 0) (.slice none 0 0) (.int .i64 0) (.int .i64 0) (.slice none 0 0)).alloc (.cells #[.slice a0 n0 c0,.slice a1 n1 c1,.int .i64 gn,.int .i64 an,.slice a4 n4 c4] 30)):=FP.trans (FA.mono (by simp))
  have HY:Hid _:=AI z0 (AI z1 (AI z2 (AI z3 z4)))
  have HZ:Hid _:=AI FZ FW
  clear y0 y1 y2 y3 y4 z0 z1 z2 z3 z4 FZ FW FA FP hltP F2 F3 hokS
  go_wp2
  go_region
  go_wp2
  change bodyPost Tryz.prog Tryz.f19 (UnpackPost b w) Exit.ret _ ((put5 W1 w.heap.size (.slice none 0 0) (.slice none 0 0) (.int .i64 0) (.int .i64 0) (.slice none 0 0)).alloc (.cells #[.slice a0 n0 c0,.slice a1 n1 c1,.int .i64 gn,.int .i64 an,.slice a4 n4 c4] 30)).drew
  obtain⟨z0,z1,z2,z3,z4⟩:=HY.out
  obtain⟨FZ,-⟩:=HZ.out
  clear HY HZ r0 r1 r2 r3 r4 rz0 rz1 rz2 rz3 rz4
  generalize (put5 W1 w.heap.size (.slice none 0 0) (.slice none 0 0) (.int .i64 0) (.int .i64 0) (.slice none 0 0)).alloc (.cells #[.slice a0 n0 c0,.slice a1 n1 c1,.int .i64 gn,.int .i64 an,.slice a4 n4 c4] 30)=Z at *
  refine bodyPost_ret (v:=.tuple #[.agg #[.slice none 0 0,.slice none 0 0,.int .i64 0,.int .i64 0,.slice none 0 0],.int .i64 pl,.int .i64 er]) (by simp[results,Tryz.results19,go_sem,z0,z1,z2,z3,z4]) rfl ?_
  refine⟨FZ.drew,.inl ⟨er,pl,?_,k0,k1,by omega,rfl⟩⟩
  rcases HC.out with ⟨f,h1,h2⟩ | ⟨m,p,h1,h2,-⟩
  ·rw[HU.out,h1]
   cases h2
   rfl
  ·cases h2
 ·simp only[stR,stP] at d3 d4
  obtain⟨y0,y1,y2,y3,y4⟩:=put5_cells (.slice a0 n0 c0) (.slice a1 n1 c1) (.int .i64 gn) (.int .i64 an) (.slice a4 n4 c4) r0 r1 r2 r3 r4
  have hltP:=lt_of_cell y0
  have FA:Fr [] (put5 W1 w.heap.size (.slice a0 n0 c0) (.slice a1 n1 c1) (.int .i64 gn) (.int .i64 an) (.slice a4 n4 c4)) ((put5 W1 w.heap.size (.slice a0 n0 c0) (.slice a1 n1 c1) (.int .i64 gn) (.int .i64 an) (.slice a4 n4 c4)).alloc (.cells #[.slice a0 n0 c0,.slice a1 n1 c1,.int .i64 gn,.int .i64 an,.slice a4 n4 c4] 30)):=(Fr.refl [] _).alloc _
  have FP:=put5_fr W1 w.heap.size (.slice a0 n0 c0) (.slice a1 n1 c1) (.int .i64 gn) (.int .i64 an) (.slice a4 n4 c4)
  have z0:=(FA.cell (p:=⟨w.heap.size,0,none⟩) hltP (by simp)).trans y0
  have z1:=(FA.cell (p:=⟨w.heap.size,1,none⟩) hltP (by simp)).trans y1
  have z2:=(FA.cell (p:=⟨w.heap.size,2,none⟩) hltP (by simp)).trans y2
  have z3:=(FA.cell (p:=⟨w.heap.size,3,none⟩) hltP (by simp)).trans y3
  have z4:=(FA.cell (p:=⟨w.heap.size,4,none⟩) hltP (by simp)).trans y4
  have FZ:Fr [] w ((put5 W1 w.heap.size (.slice a0 n0 c0) (.slice a1 n1 c1) (.int .i64 gn) (.int .i64 an) (.slice a4 n4 c4)).alloc (.cells #[.slice a0 n0 c0,.slice a1 n1 c1,.int .i64 gn,.int .i64 an,.slice a4 n4 c4] 30)):=(F2.trans' FP (fun x hx=>.inr (by simp at hx;omega))).trans FA
  have FW:Fr [w.heap.size] W1 ((put5 W1 w.heap.size (.slice a0 n0 c0) (.slice a1 n1 c1) (.int .i64 gn) (.int .i64 an) (.slice a4 n4 c4)).alloc (.cells #[.slice a0 n0 c0,.slice a1 n1 c1,.int .i64 gn,.int .i64 an,.slice a4 n4 c4] 30)):=FP.trans (FA.mono (by simp))
  have HY:Hid _:=AI z0 (AI z1 (AI z2 (AI z3 z4)))
  have HZ:Hid _:=AI FZ FW
  clear y0 y1 y2 y3 y4 z0 z1 z2 z3 z4 FZ FW FA FP hltP F2 F3 hokS
  go_wp2
  change bodyPost Tryz.prog Tryz.f19 (UnpackPost b w) Exit.ret _ ((put5 W1 w.heap.size (.slice a0 n0 c0) (.slice a1 n1 c1) (.int .i64 gn) (.int .i64 an) (.slice a4 n4 c4)).alloc (.cells #[.slice a0 n0 c0,.slice a1 n1 c1,.int .i64 gn,.int .i64 an,.slice a4 n4 c4] 30))
  obtain⟨z0,z1,z2,z3,z4⟩:=HY.out
  obtain⟨FZ,FW⟩:=HZ.out
  clear HY HZ r0 r1 r2 r3 r4 rz0 rz1 rz2 rz3 rz4
  generalize (put5 W1 w.heap.size (.slice a0 n0 c0) (.slice a1 n1 c1) (.int .i64 gn) (.int .i64 an) (.slice a4 n4 c4)).alloc (.cells #[.slice a0 n0 c0,.slice a1 n1 c1,.int .i64 gn,.int .i64 an,.slice a4 n4 c4] 30)=Z at *
  refine bodyPost_ret (v:=.tuple #[.agg #[.slice a0 n0 c0,.slice a1 n1 c1,.int .i64 gn,.int .i64 an,.slice a4 n4 c4],.int .i64 0,.int .i64 0]) (by simp[results,Tryz.results19,go_sem,z0,z1,z2,z3,z4]) rfl ?_
  refine⟨FZ,.inr ?_⟩
  rcases HC.out with ⟨f,h1,h2⟩ | ⟨m,p,h1,h2,h3⟩
  ·cases h2
  ·have hs0:=HS0.out
   exact⟨m,a0,a1,a4,n0,c0,n1,c1,n4,c4,gn,an,HU.out.trans h1,rfl,(h3.fr FW (by simp;omega)).base (by omega)⟩
end Go.Proofs.YtclkgoigmgkffaaGreatDoor
