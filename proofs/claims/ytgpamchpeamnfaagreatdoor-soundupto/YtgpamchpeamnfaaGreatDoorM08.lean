/-
  Texts Wi Wl.
-/
import Derived.Test.YtgpamchpeamnfaaGreatDoorMA
import Derived.Test.YtgpamchpeamnfaaGreatDoorM00
import Derived.Test.YtgpamchpeamnfaaGreatDoorM07
set_option linter.unusedSimpArgs false
set_option linter.unusedVariables false
set_option maxRecDepth 100000
set_option maxHeartbeats 40000000
open _root_.Go.Proofs.Tryz
namespace Go.Proofs.YtgpamchpeamnfaaGreatDoor
open Go.RowKit
theorem dL (W:World)(l:List Value)(t:TypeId)(i:Nat):(W.alloc (.cells l.toArray t)).frozen? ⟨W.heap.size,i,none⟩=false:=by
 have h:=wan W (.cells l.toArray t)
 unfold World.frozen?;rw[h];simp
theorem fJ (W:World)(b:Nat)(v0 v1 v2 v3 v4 v5 v6 v7 v8 v9 v10 v11:Value):Fr [b] W ((((((((((((W.setCell { block:=b,off:=0 } v0).setCell { block:=b,off:=1 } v1).setCell { block:=b,off:=2 } v2).setCell { block:=b,off:=3 } v3).setCell { block:=b,off:=4 } v4).setCell { block:=b,off:=5 } v5).setCell { block:=b,off:=6 } v6).setCell { block:=b,off:=7 } v7).setCell { block:=b,off:=8 } v8).setCell { block:=b,off:=9 } v9).setCell { block:=b,off:=10 } v10).setCell { block:=b,off:=11 } v11):=
 (((((((((((((Fr.refl [b] W).setCell (p:=⟨b,0,none⟩) (.inl (by simp)) v0).setCell (p:=⟨b,1,none⟩) (.inl (by simp)) v1).setCell (p:=⟨b,2,none⟩) (.inl (by simp)) v2).setCell (p:=⟨b,3,none⟩) (.inl (by simp)) v3).setCell (p:=⟨b,4,none⟩) (.inl (by simp)) v4).setCell (p:=⟨b,5,none⟩) (.inl (by simp)) v5).setCell (p:=⟨b,6,none⟩) (.inl (by simp)) v6).setCell (p:=⟨b,7,none⟩) (.inl (by simp)) v7).setCell (p:=⟨b,8,none⟩) (.inl (by simp)) v8).setCell (p:=⟨b,9,none⟩) (.inl (by simp)) v9).setCell (p:=⟨b,10,none⟩) (.inl (by simp)) v10).setCell (p:=⟨b,11,none⟩) (.inl (by simp)) v11)
structure Y7 (w:World) (pb:Nat) (a b:Piece) (o:List Value) (wh:Nat→Value) (tk:Nat→Nat) (fo:Nat→Nat→Nat) (W:World):Prop where
 fr:Fr [pb] w W
 sz:w.heap.size+1+1+1+1≤W.heap.size
 ra:kJ W w.heap.size [.bool (a 0).e,.int .u64 (a 0).f,.int .u64 (a 0).l,.bool (a 1).e,.int .u64 (a 1).f,.int .u64 (a 1).l,.bool (a 2).e,.int .u64 (a 2).f,.int .u64 (a 2).l,.bool (a 3).e,.int .u64 (a 3).f,.int .u64 (a 3).l]
 rb:kJ W (w.heap.size+1) [.bool (b 0).e,.int .u64 (b 0).f,.int .u64 (b 0).l,.bool (b 1).e,.int .u64 (b 1).f,.int .u64 (b 1).l,.bool (b 2).e,.int .u64 (b 2).f,.int .u64 (b 2).l,.bool (b 3).e,.int .u64 (b 3).f,.int .u64 (b 3).l]
 rr:kJ W (w.heap.size+1+1) [.bool false,.int .u64 0,.int .u64 0,.bool false,.int .u64 0,.int .u64 0,.bool false,.int .u64 0,.int .u64 0,.bool false,.int .u64 0,.int .u64 0]
 ro:kJ W (w.heap.size+1+1+1) o
 zr:∀ i,W.frozen? ⟨w.heap.size+1+1,i,none⟩=false
 zo:∀ i,W.frozen? ⟨w.heap.size+1+1+1,i,none⟩=false
 pat:dS W pb wh tk fo
 tab:Tab W
 h6:5<w.heap.size
theorem Y7.kept {w:World}{pb:Nat}{a b:Piece}{o:List Value}{wh:Nat→Value}{tk:Nat→Nat}{fo fo':Nat→Nat→Nat}{W W':World} (h:Y7 w pb a b o wh tk fo W) (hf:Fr [pb] W W') (hP:dS W' pb wh tk fo') (hlt:pb<w.heap.size) (hpb:pb≠5):Y7 w pb a b o wh tk fo' W':=by
 have hs:=h.sz
 exact⟨h.fr.trans hf,Nat.le_trans hs hf.size,h.ra.fr hf (by simp;omega) (by omega),h.rb.fr hf (by simp;omega) (by omega),h.rr.fr hf (by simp;omega) (by omega),h.ro.fr hf (by simp;omega) (by omega),
   fun i=>(hf.frozen (p:=⟨w.heap.size+1+1,i,none⟩) (by simp;omega) (by simp;omega)).trans (h.zr i),fun i=>(hf.frozen (p:=⟨w.heap.size+1+1+1,i,none⟩) (by simp;omega) (by simp;omega)).trans (h.zo i),hP,h.tab.fr hf (by simpa using fun e=>hpb e.symm),h.h6⟩
theorem Y7.set {w:World}{pb:Nat}{a b:Piece}{o:List Value}{wh:Nat→Value}{tk:Nat→Nat}{fo:Nat→Nat→Nat}{W:World} (h:Y7 w pb a b o wh tk fo W) (hlt:pb<w.heap.size) (k:Nat) (hk:k<o.length) (v:Value) :
  Y7 w pb a b (o.set k v) wh tk fo (W.setCell ⟨w.heap.size+1+1+1,k,none⟩ v):=by
 have hb:∀ c,c≠w.heap.size+1+1+1→(W.setCell ⟨w.heap.size+1+1+1,k,none⟩ v).heap[c]?=W.heap[c]?:=fun c hc=>Below.heap_setCell W ⟨w.heap.size+1+1+1,k,none⟩ _ c hc
 exact⟨h.fr.setCell (p:=⟨w.heap.size+1+1+1,k,none⟩) (.inr (by simp;omega)) _,by simpa [World.setCell] using h.sz,fun i=>(aQ (by omega)).trans (h.ra i),fun i=>(aQ (by omega)).trans (h.rb i),fun i=>(aQ (by omega)).trans (h.rr i),
  h.ro.set k hk v,fun i=>(wfz _ _ _ _).trans (h.zr i),fun i=>(wfz _ _ _ _).trans (h.zo i),h.pat.of_block (hb _ (by omega)),h.tab.of_block (hb _ (by have:=h.h6;omega)),h.h6⟩
theorem aIg (pb:Nat)(a b:Piece)(w:World)(wh:Nat→Value)(tk:Nat→Nat)(fo:Nat→Nat→Nat)
  (hl:∀ s,(a s).l<1125899906842624) (hok:∀ s,(a s).ok) (hbk:∀ s,(b s).ok) (hP:dS w pb wh tk fo) (hfo:∀ s c,fo s c<18446744073709551616) (hT:Tab w) (hpb:pb≠5) :
  Calls prog 185 #[.pointer (some ⟨pb,0,none⟩),pv a,pv b] w fun e w'=>e=.returned (pv (joinF a b))∧dS w' pb wh tk (iJ fo a b)∧Fr [pb] w w':=by
 have hm:prog.follows Departure.mixedOrders=true:=by kernel_rfl
 have hlt:=hP.lt
 obtain⟨W0,hW0⟩:=eX ((((w.alloc (Obj.cells #[.bool (a 0).e,.int .u64 (a 0).f,.int .u64 (a 0).l,.bool (a 1).e,.int .u64 (a 1).f,.int .u64 (a 1).l,.bool (a 2).e,.int .u64 (a 2).f,.int .u64 (a 2).l,.bool (a 3).e,.int .u64 (a 3).f,.int .u64 (a 3).l] 217)).alloc (Obj.cells #[.bool (b 0).e,.int .u64 (b 0).f,.int .u64 (b 0).l,.bool (b 1).e,.int .u64 (b 1).f,.int .u64 (b 1).l,.bool (b 2).e,.int .u64 (b 2).f,.int .u64 (b 2).l,.bool (b 3).e,.int .u64 (b 3).f,.int .u64 (b 3).l] 217)).alloc (Obj.cells #[.bool false,.int .u64 0,.int .u64 0,.bool false,.int .u64 0,.int .u64 0,.bool false,.int .u64 0,.int .u64 0,.bool false,.int .u64 0,.int .u64 0] 217)).alloc (Obj.cells #[.bool false,.int .u64 0,.int .u64 0,.bool false,.int .u64 0,.int .u64 0,.bool false,.int .u64 0,.int .u64 0,.bool false,.int .u64 0,.int .u64 0] 217))
 have J0:Y7 w pb a b [.bool false,.int .u64 0,.int .u64 0,.bool false,.int .u64 0,.int .u64 0,.bool false,.int .u64 0,.int .u64 0,.bool false,.int .u64 0,.int .u64 0] wh tk fo W0:=by
  rw[← hW0]
  have g0:∀ S,Fr S w ((((w.alloc (Obj.cells #[.bool (a 0).e,.int .u64 (a 0).f,.int .u64 (a 0).l,.bool (a 1).e,.int .u64 (a 1).f,.int .u64 (a 1).l,.bool (a 2).e,.int .u64 (a 2).f,.int .u64 (a 2).l,.bool (a 3).e,.int .u64 (a 3).f,.int .u64 (a 3).l] 217)).alloc (Obj.cells #[.bool (b 0).e,.int .u64 (b 0).f,.int .u64 (b 0).l,.bool (b 1).e,.int .u64 (b 1).f,.int .u64 (b 1).l,.bool (b 2).e,.int .u64 (b 2).f,.int .u64 (b 2).l,.bool (b 3).e,.int .u64 (b 3).f,.int .u64 (b 3).l] 217)).alloc (Obj.cells #[.bool false,.int .u64 0,.int .u64 0,.bool false,.int .u64 0,.int .u64 0,.bool false,.int .u64 0,.int .u64 0,.bool false,.int .u64 0,.int .u64 0] 217)).alloc (Obj.cells #[.bool false,.int .u64 0,.int .u64 0,.bool false,.int .u64 0,.int .u64 0,.bool false,.int .u64 0,.int .u64 0,.bool false,.int .u64 0,.int .u64 0] 217)):=fun S=>((((Fr.refl S _).alloc _).alloc _).alloc _).alloc _
  refine⟨g0 _,by simp,?_,?_,?_,?_,?_,?_,hP.fr (g0 []) (by simp),hT.fr (g0 []) (by simp),hT.lt⟩
  ·exact ((eQ w [.bool (a 0).e,.int .u64 (a 0).f,.int .u64 (a 0).l,.bool (a 1).e,.int .u64 (a 1).f,.int .u64 (a 1).l,.bool (a 2).e,.int .u64 (a 2).f,.int .u64 (a 2).l,.bool (a 3).e,.int .u64 (a 3).f,.int .u64 (a 3).l] 217).fr ((((Fr.refl [] _).alloc _).alloc _).alloc _) (by simp) (by simp))
  ·have:=(eQ (w.alloc (Obj.cells #[.bool (a 0).e,.int .u64 (a 0).f,.int .u64 (a 0).l,.bool (a 1).e,.int .u64 (a 1).f,.int .u64 (a 1).l,.bool (a 2).e,.int .u64 (a 2).f,.int .u64 (a 2).l,.bool (a 3).e,.int .u64 (a 3).f,.int .u64 (a 3).l] 217)) [.bool (b 0).e,.int .u64 (b 0).f,.int .u64 (b 0).l,.bool (b 1).e,.int .u64 (b 1).f,.int .u64 (b 1).l,.bool (b 2).e,.int .u64 (b 2).f,.int .u64 (b 2).l,.bool (b 3).e,.int .u64 (b 3).f,.int .u64 (b 3).l] 217).fr (((Fr.refl [] _).alloc (Obj.cells #[.bool false,.int .u64 0,.int .u64 0,.bool false,.int .u64 0,.int .u64 0,.bool false,.int .u64 0,.int .u64 0,.bool false,.int .u64 0,.int .u64 0] 217)).alloc (Obj.cells #[.bool false,.int .u64 0,.int .u64 0,.bool false,.int .u64 0,.int .u64 0,.bool false,.int .u64 0,.int .u64 0,.bool false,.int .u64 0,.int .u64 0] 217)) (by simp) (by simp)
   rwa [World.size_alloc] at this
  ·have:=(eQ ((w.alloc (Obj.cells #[.bool (a 0).e,.int .u64 (a 0).f,.int .u64 (a 0).l,.bool (a 1).e,.int .u64 (a 1).f,.int .u64 (a 1).l,.bool (a 2).e,.int .u64 (a 2).f,.int .u64 (a 2).l,.bool (a 3).e,.int .u64 (a 3).f,.int .u64 (a 3).l] 217)).alloc (Obj.cells #[.bool (b 0).e,.int .u64 (b 0).f,.int .u64 (b 0).l,.bool (b 1).e,.int .u64 (b 1).f,.int .u64 (b 1).l,.bool (b 2).e,.int .u64 (b 2).f,.int .u64 (b 2).l,.bool (b 3).e,.int .u64 (b 3).f,.int .u64 (b 3).l] 217)) [.bool false,.int .u64 0,.int .u64 0,.bool false,.int .u64 0,.int .u64 0,.bool false,.int .u64 0,.int .u64 0,.bool false,.int .u64 0,.int .u64 0] 217).fr ((Fr.refl [] _).alloc (Obj.cells #[.bool false,.int .u64 0,.int .u64 0,.bool false,.int .u64 0,.int .u64 0,.bool false,.int .u64 0,.int .u64 0,.bool false,.int .u64 0,.int .u64 0] 217)) (by simp) (by simp)
   rwa [World.size_alloc,World.size_alloc] at this
  ·have:=(eQ (((w.alloc (Obj.cells #[.bool (a 0).e,.int .u64 (a 0).f,.int .u64 (a 0).l,.bool (a 1).e,.int .u64 (a 1).f,.int .u64 (a 1).l,.bool (a 2).e,.int .u64 (a 2).f,.int .u64 (a 2).l,.bool (a 3).e,.int .u64 (a 3).f,.int .u64 (a 3).l] 217)).alloc (Obj.cells #[.bool (b 0).e,.int .u64 (b 0).f,.int .u64 (b 0).l,.bool (b 1).e,.int .u64 (b 1).f,.int .u64 (b 1).l,.bool (b 2).e,.int .u64 (b 2).f,.int .u64 (b 2).l,.bool (b 3).e,.int .u64 (b 3).f,.int .u64 (b 3).l] 217)).alloc (Obj.cells #[.bool false,.int .u64 0,.int .u64 0,.bool false,.int .u64 0,.int .u64 0,.bool false,.int .u64 0,.int .u64 0,.bool false,.int .u64 0,.int .u64 0] 217)) [.bool false,.int .u64 0,.int .u64 0,.bool false,.int .u64 0,.int .u64 0,.bool false,.int .u64 0,.int .u64 0,.bool false,.int .u64 0,.int .u64 0] 217)
   rwa [World.size_alloc,World.size_alloc,World.size_alloc] at this
  ·intro i
   have:=dL ((w.alloc (Obj.cells #[.bool (a 0).e,.int .u64 (a 0).f,.int .u64 (a 0).l,.bool (a 1).e,.int .u64 (a 1).f,.int .u64 (a 1).l,.bool (a 2).e,.int .u64 (a 2).f,.int .u64 (a 2).l,.bool (a 3).e,.int .u64 (a 3).f,.int .u64 (a 3).l] 217)).alloc (Obj.cells #[.bool (b 0).e,.int .u64 (b 0).f,.int .u64 (b 0).l,.bool (b 1).e,.int .u64 (b 1).f,.int .u64 (b 1).l,.bool (b 2).e,.int .u64 (b 2).f,.int .u64 (b 2).l,.bool (b 3).e,.int .u64 (b 3).f,.int .u64 (b 3).l] 217)) [.bool false,.int .u64 0,.int .u64 0,.bool false,.int .u64 0,.int .u64 0,.bool false,.int .u64 0,.int .u64 0,.bool false,.int .u64 0,.int .u64 0] 217 i
   rw[World.size_alloc,World.size_alloc] at this
   exact (World.frozen?_alloc_past _ _ _ (by simp)).trans this
  ·intro i
   have:=dL (((w.alloc (Obj.cells #[.bool (a 0).e,.int .u64 (a 0).f,.int .u64 (a 0).l,.bool (a 1).e,.int .u64 (a 1).f,.int .u64 (a 1).l,.bool (a 2).e,.int .u64 (a 2).f,.int .u64 (a 2).l,.bool (a 3).e,.int .u64 (a 3).f,.int .u64 (a 3).l] 217)).alloc (Obj.cells #[.bool (b 0).e,.int .u64 (b 0).f,.int .u64 (b 0).l,.bool (b 1).e,.int .u64 (b 1).f,.int .u64 (b 1).l,.bool (b 2).e,.int .u64 (b 2).f,.int .u64 (b 2).l,.bool (b 3).e,.int .u64 (b 3).f,.int .u64 (b 3).l] 217)).alloc (Obj.cells #[.bool false,.int .u64 0,.int .u64 0,.bool false,.int .u64 0,.int .u64 0,.bool false,.int .u64 0,.int .u64 0,.bool false,.int .u64 0,.int .u64 0] 217)) [.bool false,.int .u64 0,.int .u64 0,.bool false,.int .u64 0,.int .u64 0,.bool false,.int .u64 0,.int .u64 0,.bool false,.int .u64 0,.int .u64 0] 217 i
   rwa [World.size_alloc,World.size_alloc,World.size_alloc] at this
 have b0:=hfo
 unfold pv
 go_enter func185,ntmps185
 go_wp2
 clear hW0
 refine wp_loop_rounds 5 ?_
 rw[rounds_succ]
 have c0a:W0.cell? ⟨w.heap.size,2,none⟩=some (.int .u64 (a 0).l):=J0.ra 2
 have c0b:W0.cell? ⟨w.heap.size+1,1,none⟩=some (.int .u64 (b 0).f):=J0.rb 1
 go_wp2
 refine aR 10 hm (by kernel_rfl) ?_
 simp only[List.take_succ_cons,List.take_zero,List.drop_succ_cons,List.drop_zero]
 repeat still_step
 refine wpStill_nil ?_
 go_wp2_with fail
 refine (qA pb 0 (a 0).l (b 0).f (by decide) (hl 0) (hbk 0).1 W0.drew wh tk _ (J0.pat.of_block rfl) b0 (J0.tab.of_block rfl) hpb).mono ?_
 rintro e V0 ⟨rfl,P0,f0⟩
 have f0:Fr [pb] W0 V0:=⟨f0.os,f0.tape,f0.output,f0.size,f0.block⟩
 have K0:=J0.kept f0 P0 hlt hpb
 have b1:=qB (sp:=0) (src:=(a 0).l) b0 (hbk 0).1
 clear c0a c0b
 go_wp2
 refine aE (fun w1=>w1.cell? ⟨w.heap.size,0,none⟩=some (.bool (a 0).e)∧w1.cell? ⟨w.heap.size,1,none⟩=some (.int .u64 (a 0).f)∧w1.cell? ⟨w.heap.size,2,none⟩=some (.int .u64 (a 0).l) ∧
  w1.cell? ⟨w.heap.size+1,0,none⟩=some (.bool (b 0).e)∧w1.cell? ⟨w.heap.size+1,1,none⟩=some (.int .u64 (b 0).f)∧w1.cell? ⟨w.heap.size+1,2,none⟩=some (.int .u64 (b 0).l)) hm ?_
 have hS:=AI (K0.ra 0) (AI (K0.ra 1) (AI (K0.ra 2) (AI (K0.rb 0) (AI (K0.rb 1) (K0.rb 2)))))
 refine aH (fun _ _ _ _ _ h=>h) hS [0,1,2,3,4,5,6] (by kernel_rfl) ?_
 iterate 7
  refine Yls.cons (v:=?_) rfl (.inl ⟨rfl,fun w1 hS1=>?_⟩) ?_
  rotate_left
  ·obtain⟨s1,s2,s3,s4,s5,s6⟩:=hS1
   go_simp
   rfl
  simp only[Act.put,Z1,Z2,Z3]
 refine Yls.nil ?_
 refine rd1 (r:=7) (by kernel_rfl) rfl fun K hK=>?_
 go_simp
 have hj:=sI (a 0) (b 0) (hok 0) (hbk 0) V0.drew
 unfold ev at hj
 refine hj.mono ?_
 rintro e U0 ⟨rfl,g0⟩
 have g0:Fr [] V0 U0:=⟨g0.os,g0.tape,g0.output,g0.size,g0.block⟩
 have L0:=K0.kept (g0.mono (by simp)) (K0.pat.fr g0 (by simp)) hlt hpb
 clear hj hS
 have hS:=AI (L0.ra 0) (AI (L0.ra 1) (AI (L0.ra 2) (AI (L0.rb 0) (AI (L0.rb 1) (L0.rb 2)))))
 refine hK _ _ hS ?_
 clear hK K
 intro _
 refine wpAnyH_take (i:=8) (v:=?_) rfl (by kernel_rfl) (by kernel_rfl) (by kernel_rfl) (fun _ _ _ h=>h) (.inl ⟨rfl,fun w1 hS1=>?_⟩) hS ?_
 rotate_left
 ·go_simp
  rfl
 simp only[Act.put,Z1,Z2,Z3]
 have e0:U0.cell? ⟨w.heap.size+1+1+1,0,none⟩=some (.bool false):=L0.ro 0
 have e1:U0.cell? ⟨w.heap.size+1+1+1,1,none⟩=some (.int .u64 0):=L0.ro 1
 have e2:U0.cell? ⟨w.heap.size+1+1+1,2,none⟩=some (.int .u64 0):=L0.ro 2
 have e3:=L0.zo 0
 have e4:=L0.zo 1
 have e5:=L0.zo 2
 refine rd1 (r:=9) (by kernel_rfl) rfl fun K hK=>?_
 go_simp
 clear hS e0 e1 e2 e3 e4 e5
 have J1:=((L0.set hlt 0 (by simp) (.bool (aT (a 0) (b 0)).e)).set hlt 1 (by simp) (.int .u64 (aT (a 0) (b 0)).f)).set hlt 2 (by simp) (.int .u64 (aT (a 0) (b 0)).l)
 clear J0 K0 L0
 generalize ((U0.setCell { block:=w.heap.size+1+1+1,off:=0 } (Value.bool (aT (a 0) (b 0)).e)).setCell
     { block:=w.heap.size+1+1+1,off:=1 } (Value.int IntKind.u64 ↑(aT (a 0) (b 0)).f)).setCell
   { block:=w.heap.size+1+1+1,off:=2 } (Value.int IntKind.u64 ↑(aT (a 0) (b 0)).l)=W1 at *
 refine hK _ _ ⟨J1.ra 0,J1.ra 1,J1.ra 2,J1.rb 0,J1.rb 1,J1.rb 2⟩ ?_
 clear hK K
 intro _
 refine wpAnyH_done (by kernel_rfl) ?_ _
 go_wp2
 rw[rounds_succ]
 have c1a:W1.cell? ⟨w.heap.size,5,none⟩=some (.int .u64 (a 1).l):=J1.ra 5
 have c1b:W1.cell? ⟨w.heap.size+1,4,none⟩=some (.int .u64 (b 1).f):=J1.rb 4
 go_wp2
 refine aR 10 hm (by kernel_rfl) ?_
 simp only[List.take_succ_cons,List.take_zero,List.drop_succ_cons,List.drop_zero]
 repeat still_step
 refine wpStill_nil ?_
 go_wp2_with fail
 refine (qA pb 1 (a 1).l (b 1).f (by decide) (hl 1) (hbk 1).1 W1.drew wh tk _ (J1.pat.of_block rfl) b1 (J1.tab.of_block rfl) hpb).mono ?_
 rintro e V1 ⟨rfl,P1,f1⟩
 have f1:Fr [pb] W1 V1:=⟨f1.os,f1.tape,f1.output,f1.size,f1.block⟩
 have K1:=J1.kept f1 P1 hlt hpb
 have b2:=qB (sp:=1) (src:=(a 1).l) b1 (hbk 1).1
 clear c1a c1b
 go_wp2
 refine aE (fun w1=>w1.cell? ⟨w.heap.size,3,none⟩=some (.bool (a 1).e)∧w1.cell? ⟨w.heap.size,4,none⟩=some (.int .u64 (a 1).f)∧w1.cell? ⟨w.heap.size,5,none⟩=some (.int .u64 (a 1).l) ∧
  w1.cell? ⟨w.heap.size+1,3,none⟩=some (.bool (b 1).e)∧w1.cell? ⟨w.heap.size+1,4,none⟩=some (.int .u64 (b 1).f)∧w1.cell? ⟨w.heap.size+1,5,none⟩=some (.int .u64 (b 1).l)) hm ?_
 have hS:=AI (K1.ra 3) (AI (K1.ra 4) (AI (K1.ra 5) (AI (K1.rb 3) (AI (K1.rb 4) (K1.rb 5)))))
 refine aH (fun _ _ _ _ _ h=>h) hS [0,1,2,3,4,5,6] (by kernel_rfl) ?_
 iterate 7
  refine Yls.cons (v:=?_) rfl (.inl ⟨rfl,fun w1 hS1=>?_⟩) ?_
  rotate_left
  ·obtain⟨s1,s2,s3,s4,s5,s6⟩:=hS1
   go_simp
   rfl
  simp only[Act.put,Z1,Z2,Z3]
 refine Yls.nil ?_
 refine rd1 (r:=7) (by kernel_rfl) rfl fun K hK=>?_
 go_simp
 have hj:=sI (a 1) (b 1) (hok 1) (hbk 1) V1.drew
 unfold ev at hj
 refine hj.mono ?_
 rintro e U1 ⟨rfl,g1⟩
 have g1:Fr [] V1 U1:=⟨g1.os,g1.tape,g1.output,g1.size,g1.block⟩
 have L1:=K1.kept (g1.mono (by simp)) (K1.pat.fr g1 (by simp)) hlt hpb
 clear hj hS
 have hS:=AI (L1.ra 3) (AI (L1.ra 4) (AI (L1.ra 5) (AI (L1.rb 3) (AI (L1.rb 4) (L1.rb 5)))))
 refine hK _ _ hS ?_
 clear hK K
 intro _
 refine wpAnyH_take (i:=8) (v:=?_) rfl (by kernel_rfl) (by kernel_rfl) (by kernel_rfl) (fun _ _ _ h=>h) (.inl ⟨rfl,fun w1 hS1=>?_⟩) hS ?_
 rotate_left
 ·go_simp
  rfl
 simp only[Act.put,Z1,Z2,Z3]
 have e0:U1.cell? ⟨w.heap.size+1+1+1,3,none⟩=some (.bool false):=L1.ro 3
 have e1:U1.cell? ⟨w.heap.size+1+1+1,4,none⟩=some (.int .u64 0):=L1.ro 4
 have e2:U1.cell? ⟨w.heap.size+1+1+1,5,none⟩=some (.int .u64 0):=L1.ro 5
 have e3:=L1.zo 3
 have e4:=L1.zo 4
 have e5:=L1.zo 5
 refine rd1 (r:=9) (by kernel_rfl) rfl fun K hK=>?_
 go_simp
 clear hS e0 e1 e2 e3 e4 e5
 have J2:=((L1.set hlt 3 (by simp) (.bool (aT (a 1) (b 1)).e)).set hlt 4 (by simp) (.int .u64 (aT (a 1) (b 1)).f)).set hlt 5 (by simp) (.int .u64 (aT (a 1) (b 1)).l)
 clear J1 K1 L1
 generalize ((U1.setCell { block:=w.heap.size+1+1+1,off:=3 } (Value.bool (aT (a 1) (b 1)).e)).setCell
     { block:=w.heap.size+1+1+1,off:=4 } (Value.int IntKind.u64 ↑(aT (a 1) (b 1)).f)).setCell
   { block:=w.heap.size+1+1+1,off:=5 } (Value.int IntKind.u64 ↑(aT (a 1) (b 1)).l)=W2 at *
 refine hK _ _ ⟨J2.ra 3,J2.ra 4,J2.ra 5,J2.rb 3,J2.rb 4,J2.rb 5⟩ ?_
 clear hK K
 intro _
 refine wpAnyH_done (by kernel_rfl) ?_ _
 go_wp2
 rw[rounds_succ]
 have c2a:W2.cell? ⟨w.heap.size,8,none⟩=some (.int .u64 (a 2).l):=J2.ra 8
 have c2b:W2.cell? ⟨w.heap.size+1,7,none⟩=some (.int .u64 (b 2).f):=J2.rb 7
 go_wp2
 refine aR 10 hm (by kernel_rfl) ?_
 simp only[List.take_succ_cons,List.take_zero,List.drop_succ_cons,List.drop_zero]
 repeat still_step
 refine wpStill_nil ?_
 go_wp2_with fail
 refine (qA pb 2 (a 2).l (b 2).f (by decide) (hl 2) (hbk 2).1 W2.drew wh tk _ (J2.pat.of_block rfl) b2 (J2.tab.of_block rfl) hpb).mono ?_
 rintro e V2 ⟨rfl,P2,f2⟩
 have f2:Fr [pb] W2 V2:=⟨f2.os,f2.tape,f2.output,f2.size,f2.block⟩
 have K2:=J2.kept f2 P2 hlt hpb
 have b3:=qB (sp:=2) (src:=(a 2).l) b2 (hbk 2).1
 clear c2a c2b
 go_wp2
 refine aE (fun w1=>w1.cell? ⟨w.heap.size,6,none⟩=some (.bool (a 2).e)∧w1.cell? ⟨w.heap.size,7,none⟩=some (.int .u64 (a 2).f)∧w1.cell? ⟨w.heap.size,8,none⟩=some (.int .u64 (a 2).l) ∧
  w1.cell? ⟨w.heap.size+1,6,none⟩=some (.bool (b 2).e)∧w1.cell? ⟨w.heap.size+1,7,none⟩=some (.int .u64 (b 2).f)∧w1.cell? ⟨w.heap.size+1,8,none⟩=some (.int .u64 (b 2).l)) hm ?_
 have hS:=AI (K2.ra 6) (AI (K2.ra 7) (AI (K2.ra 8) (AI (K2.rb 6) (AI (K2.rb 7) (K2.rb 8)))))
 refine aH (fun _ _ _ _ _ h=>h) hS [0,1,2,3,4,5,6] (by kernel_rfl) ?_
 iterate 7
  refine Yls.cons (v:=?_) rfl (.inl ⟨rfl,fun w1 hS1=>?_⟩) ?_
  rotate_left
  ·obtain⟨s1,s2,s3,s4,s5,s6⟩:=hS1
   go_simp
   rfl
  simp only[Act.put,Z1,Z2,Z3]
 refine Yls.nil ?_
 refine rd1 (r:=7) (by kernel_rfl) rfl fun K hK=>?_
 go_simp
 have hj:=sI (a 2) (b 2) (hok 2) (hbk 2) V2.drew
 unfold ev at hj
 refine hj.mono ?_
 rintro e U2 ⟨rfl,g2⟩
 have g2:Fr [] V2 U2:=⟨g2.os,g2.tape,g2.output,g2.size,g2.block⟩
 have L2:=K2.kept (g2.mono (by simp)) (K2.pat.fr g2 (by simp)) hlt hpb
 clear hj hS
 have hS:=AI (L2.ra 6) (AI (L2.ra 7) (AI (L2.ra 8) (AI (L2.rb 6) (AI (L2.rb 7) (L2.rb 8)))))
 refine hK _ _ hS ?_
 clear hK K
 intro _
 refine wpAnyH_take (i:=8) (v:=?_) rfl (by kernel_rfl) (by kernel_rfl) (by kernel_rfl) (fun _ _ _ h=>h) (.inl ⟨rfl,fun w1 hS1=>?_⟩) hS ?_
 rotate_left
 ·go_simp
  rfl
 simp only[Act.put,Z1,Z2,Z3]
 have e0:U2.cell? ⟨w.heap.size+1+1+1,6,none⟩=some (.bool false):=L2.ro 6
 have e1:U2.cell? ⟨w.heap.size+1+1+1,7,none⟩=some (.int .u64 0):=L2.ro 7
 have e2:U2.cell? ⟨w.heap.size+1+1+1,8,none⟩=some (.int .u64 0):=L2.ro 8
 have e3:=L2.zo 6
 have e4:=L2.zo 7
 have e5:=L2.zo 8
 refine rd1 (r:=9) (by kernel_rfl) rfl fun K hK=>?_
 go_simp
 clear hS e0 e1 e2 e3 e4 e5
 have J3:=((L2.set hlt 6 (by simp) (.bool (aT (a 2) (b 2)).e)).set hlt 7 (by simp) (.int .u64 (aT (a 2) (b 2)).f)).set hlt 8 (by simp) (.int .u64 (aT (a 2) (b 2)).l)
 clear J2 K2 L2
 generalize ((U2.setCell { block:=w.heap.size+1+1+1,off:=6 } (Value.bool (aT (a 2) (b 2)).e)).setCell
     { block:=w.heap.size+1+1+1,off:=7 } (Value.int IntKind.u64 ↑(aT (a 2) (b 2)).f)).setCell
   { block:=w.heap.size+1+1+1,off:=8 } (Value.int IntKind.u64 ↑(aT (a 2) (b 2)).l)=W3 at *
 refine hK _ _ ⟨J3.ra 6,J3.ra 7,J3.ra 8,J3.rb 6,J3.rb 7,J3.rb 8⟩ ?_
 clear hK K
 intro _
 refine wpAnyH_done (by kernel_rfl) ?_ _
 go_wp2
 rw[rounds_succ]
 have c3a:W3.cell? ⟨w.heap.size,11,none⟩=some (.int .u64 (a 3).l):=J3.ra 11
 have c3b:W3.cell? ⟨w.heap.size+1,10,none⟩=some (.int .u64 (b 3).f):=J3.rb 10
 go_wp2
 refine aR 10 hm (by kernel_rfl) ?_
 simp only[List.take_succ_cons,List.take_zero,List.drop_succ_cons,List.drop_zero]
 repeat still_step
 refine wpStill_nil ?_
 go_wp2_with fail
 refine (qA pb 3 (a 3).l (b 3).f (by decide) (hl 3) (hbk 3).1 W3.drew wh tk _ (J3.pat.of_block rfl) b3 (J3.tab.of_block rfl) hpb).mono ?_
 rintro e V3 ⟨rfl,P3,f3⟩
 have f3:Fr [pb] W3 V3:=⟨f3.os,f3.tape,f3.output,f3.size,f3.block⟩
 have K3:=J3.kept f3 P3 hlt hpb
 have b4:=qB (sp:=3) (src:=(a 3).l) b3 (hbk 3).1
 clear c3a c3b
 go_wp2
 refine aE (fun w1=>w1.cell? ⟨w.heap.size,9,none⟩=some (.bool (a 3).e)∧w1.cell? ⟨w.heap.size,10,none⟩=some (.int .u64 (a 3).f)∧w1.cell? ⟨w.heap.size,11,none⟩=some (.int .u64 (a 3).l) ∧
  w1.cell? ⟨w.heap.size+1,9,none⟩=some (.bool (b 3).e)∧w1.cell? ⟨w.heap.size+1,10,none⟩=some (.int .u64 (b 3).f)∧w1.cell? ⟨w.heap.size+1,11,none⟩=some (.int .u64 (b 3).l)) hm ?_
 have hS:=AI (K3.ra 9) (AI (K3.ra 10) (AI (K3.ra 11) (AI (K3.rb 9) (AI (K3.rb 10) (K3.rb 11)))))
 refine aH (fun _ _ _ _ _ h=>h) hS [0,1,2,3,4,5,6] (by kernel_rfl) ?_
 iterate 7
  refine Yls.cons (v:=?_) rfl (.inl ⟨rfl,fun w1 hS1=>?_⟩) ?_
  rotate_left
  ·obtain⟨s1,s2,s3,s4,s5,s6⟩:=hS1
   go_simp
   rfl
  simp only[Act.put,Z1,Z2,Z3]
 refine Yls.nil ?_
 refine rd1 (r:=7) (by kernel_rfl) rfl fun K hK=>?_
 go_simp
 have hj:=sI (a 3) (b 3) (hok 3) (hbk 3) V3.drew
 unfold ev at hj
 refine hj.mono ?_
 rintro e U3 ⟨rfl,g3⟩
 have g3:Fr [] V3 U3:=⟨g3.os,g3.tape,g3.output,g3.size,g3.block⟩
 have L3:=K3.kept (g3.mono (by simp)) (K3.pat.fr g3 (by simp)) hlt hpb
 clear hj hS
 have hS:=AI (L3.ra 9) (AI (L3.ra 10) (AI (L3.ra 11) (AI (L3.rb 9) (AI (L3.rb 10) (L3.rb 11)))))
 refine hK _ _ hS ?_
 clear hK K
 intro _
 refine wpAnyH_take (i:=8) (v:=?_) rfl (by kernel_rfl) (by kernel_rfl) (by kernel_rfl) (fun _ _ _ h=>h) (.inl ⟨rfl,fun w1 hS1=>?_⟩) hS ?_
 rotate_left
 ·go_simp
  rfl
 simp only[Act.put,Z1,Z2,Z3]
 have e0:U3.cell? ⟨w.heap.size+1+1+1,9,none⟩=some (.bool false):=L3.ro 9
 have e1:U3.cell? ⟨w.heap.size+1+1+1,10,none⟩=some (.int .u64 0):=L3.ro 10
 have e2:U3.cell? ⟨w.heap.size+1+1+1,11,none⟩=some (.int .u64 0):=L3.ro 11
 have e3:=L3.zo 9
 have e4:=L3.zo 10
 have e5:=L3.zo 11
 refine rd1 (r:=9) (by kernel_rfl) rfl fun K hK=>?_
 go_simp
 clear hS e0 e1 e2 e3 e4 e5
 have J4:=((L3.set hlt 9 (by simp) (.bool (aT (a 3) (b 3)).e)).set hlt 10 (by simp) (.int .u64 (aT (a 3) (b 3)).f)).set hlt 11 (by simp) (.int .u64 (aT (a 3) (b 3)).l)
 clear J3 K3 L3
 generalize ((U3.setCell { block:=w.heap.size+1+1+1,off:=9 } (Value.bool (aT (a 3) (b 3)).e)).setCell
     { block:=w.heap.size+1+1+1,off:=10 } (Value.int IntKind.u64 ↑(aT (a 3) (b 3)).f)).setCell
   { block:=w.heap.size+1+1+1,off:=11 } (Value.int IntKind.u64 ↑(aT (a 3) (b 3)).l)=W4 at *
 refine hK _ _ ⟨J4.ra 9,J4.ra 10,J4.ra 11,J4.rb 9,J4.rb 10,J4.rb 11⟩ ?_
 clear hK K
 intro _
 refine wpAnyH_done (by kernel_rfl) ?_ _
 go_wp2
 rw[rounds_succ]
 have x0:W4.cell? ⟨w.heap.size+1+1+1,0,none⟩=some (.bool (aT (a 0) (b 0)).e):=J4.ro 0
 have y0:W4.cell? ⟨w.heap.size+1+1,0,none⟩=some (.bool false):=J4.rr 0
 have z0:=J4.zr 0
 have x1:W4.cell? ⟨w.heap.size+1+1+1,1,none⟩=some (.int .u64 (aT (a 0) (b 0)).f):=J4.ro 1
 have y1:W4.cell? ⟨w.heap.size+1+1,1,none⟩=some (.int .u64 0):=J4.rr 1
 have z1:=J4.zr 1
 have x2:W4.cell? ⟨w.heap.size+1+1+1,2,none⟩=some (.int .u64 (aT (a 0) (b 0)).l):=J4.ro 2
 have y2:W4.cell? ⟨w.heap.size+1+1,2,none⟩=some (.int .u64 0):=J4.rr 2
 have z2:=J4.zr 2
 have x3:W4.cell? ⟨w.heap.size+1+1+1,3,none⟩=some (.bool (aT (a 1) (b 1)).e):=J4.ro 3
 have y3:W4.cell? ⟨w.heap.size+1+1,3,none⟩=some (.bool false):=J4.rr 3
 have z3:=J4.zr 3
 have x4:W4.cell? ⟨w.heap.size+1+1+1,4,none⟩=some (.int .u64 (aT (a 1) (b 1)).f):=J4.ro 4
 have y4:W4.cell? ⟨w.heap.size+1+1,4,none⟩=some (.int .u64 0):=J4.rr 4
 have z4:=J4.zr 4
 have x5:W4.cell? ⟨w.heap.size+1+1+1,5,none⟩=some (.int .u64 (aT (a 1) (b 1)).l):=J4.ro 5
 have y5:W4.cell? ⟨w.heap.size+1+1,5,none⟩=some (.int .u64 0):=J4.rr 5
 have z5:=J4.zr 5
 have x6:W4.cell? ⟨w.heap.size+1+1+1,6,none⟩=some (.bool (aT (a 2) (b 2)).e):=J4.ro 6
 have y6:W4.cell? ⟨w.heap.size+1+1,6,none⟩=some (.bool false):=J4.rr 6
 have z6:=J4.zr 6
 have x7:W4.cell? ⟨w.heap.size+1+1+1,7,none⟩=some (.int .u64 (aT (a 2) (b 2)).f):=J4.ro 7
 have y7:W4.cell? ⟨w.heap.size+1+1,7,none⟩=some (.int .u64 0):=J4.rr 7
 have z7:=J4.zr 7
 have x8:W4.cell? ⟨w.heap.size+1+1+1,8,none⟩=some (.int .u64 (aT (a 2) (b 2)).l):=J4.ro 8
 have y8:W4.cell? ⟨w.heap.size+1+1,8,none⟩=some (.int .u64 0):=J4.rr 8
 have z8:=J4.zr 8
 have x9:W4.cell? ⟨w.heap.size+1+1+1,9,none⟩=some (.bool (aT (a 3) (b 3)).e):=J4.ro 9
 have y9:W4.cell? ⟨w.heap.size+1+1,9,none⟩=some (.bool false):=J4.rr 9
 have z9:=J4.zr 9
 have x10:W4.cell? ⟨w.heap.size+1+1+1,10,none⟩=some (.int .u64 (aT (a 3) (b 3)).f):=J4.ro 10
 have y10:W4.cell? ⟨w.heap.size+1+1,10,none⟩=some (.int .u64 0):=J4.rr 10
 have z10:=J4.zr 10
 have x11:W4.cell? ⟨w.heap.size+1+1+1,11,none⟩=some (.int .u64 (aT (a 3) (b 3)).l):=J4.ro 11
 have y11:W4.cell? ⟨w.heap.size+1+1,11,none⟩=some (.int .u64 0):=J4.rr 11
 have z11:=J4.zr 11
 go_wp2
 refine bodyPost_ret (v:=pv (joinF a b)) (by simp[results,results185,go_sem,pv,joinF,x0,x1,x2,x3,x4,x5,x6,x7,x8,x9,x10,x11,y0,y1,y2,y3,y4,y5,y6,y7,y8,y9,y10,y11]) rfl ⟨rfl,?_,?_⟩
 ·have hfr:=fJ W4 (w.heap.size+1+1) (.bool (aT (a 0) (b 0)).e) (.int .u64 (aT (a 0) (b 0)).f) (.int .u64 (aT (a 0) (b 0)).l) (.bool (aT (a 1) (b 1)).e) (.int .u64 (aT (a 1) (b 1)).f) (.int .u64 (aT (a 1) (b 1)).l) (.bool (aT (a 2) (b 2)).e) (.int .u64 (aT (a 2) (b 2)).f) (.int .u64 (aT (a 2) (b 2)).l) (.bool (aT (a 3) (b 3)).e) (.int .u64 (aT (a 3) (b 3)).f) (.int .u64 (aT (a 3) (b 3)).l)
  exact (J4.pat.fr hfr (by simp;omega)).congr (fun _ _=>rfl) (fun s c hs _=>aAy fo a b s c hs)
 ·have hfr:=fJ W4 (w.heap.size+1+1) (.bool (aT (a 0) (b 0)).e) (.int .u64 (aT (a 0) (b 0)).f) (.int .u64 (aT (a 0) (b 0)).l) (.bool (aT (a 1) (b 1)).e) (.int .u64 (aT (a 1) (b 1)).f) (.int .u64 (aT (a 1) (b 1)).l) (.bool (aT (a 2) (b 2)).e) (.int .u64 (aT (a 2) (b 2)).f) (.int .u64 (aT (a 2) (b 2)).l) (.bool (aT (a 3) (b 3)).e) (.int .u64 (aT (a 3) (b 3)).f) (.int .u64 (aT (a 3) (b 3)).l)
  exact J4.fr.trans' hfr (by simp;omega)
structure fE (w:World) (ab:Nat) (P:Nat→Bool):Prop where
 c:∀ b,b<256→w.cell? ⟨ab,b,none⟩=some (.bool (P b))
 z:∀ b,b<256→w.frozen? ⟨ab,b,none⟩=false
theorem fE.lt {w:World}{ab:Nat}{P:Nat→Bool} (h:fE w ab P):ab<w.heap.size:=aC (a:=⟨ab,0,none⟩) (h.c 0 (by decide))
theorem fE.fr {S:List Nat}{w w':World}{ab:Nat}{P:Nat→Bool} (h:fE w ab P) (hf:Fr S w w') (hn:ab ∉ S):fE w' ab P:=
 ⟨fun b hb=>(hf.cell (p:=⟨ab,b,none⟩) h.lt hn).trans (h.c b hb),fun b hb=>(hf.frozen (p:=⟨ab,b,none⟩) h.lt hn).trans (h.z b hb)⟩
theorem dS.setTake {w:World}{pb:Nat}{wh:Nat→Value}{tk:Nat→Nat}{fo:Nat→Nat→Nat} (h:dS w pb wh tk fo) (b:Nat) (hb:b<256) (v:Nat) :
  dS (w.setCell ⟨pb,12+b,none⟩ (.int .u64 v)) pb wh (fun b'=>if b'=b then v else tk b') fo:=by
 refine⟨fun i hi=>(aA (by omega)).trans (h.hw i hi),fun b' hb'=>?_,fun s a hs ha=>(aA (by omega)).trans (h.hf s a hs ha),fun i hi=>(wfz _ _ _ _).trans (h.fz i hi)⟩
 by_cases e:b'=b
 ·subst e;rw[if_pos rfl];exact World.cell?_setCell_same' _ _ _ (by rw[h.ht b' hb];rfl)
 ·rw[if_neg e];exact (aA (by omega)).trans (h.ht b' hb')
def tkK (tk:Nat→Nat) (P:Nat→Bool) (v k:Nat):Nat→Nat:=fun b=>if b<k∧P b=true then tk b ||| v else tk b
structure rS (w:World) (r pb ab:Nat) (t:ByteArray) (wh:Nat→Value) (s:St) (P:Nat→Bool) (wanted:Bool) (v k:Nat) (W:World):Prop where
 m:M W r pb t wh { s with atoms:=s.atoms+1,tk:=tkK s.tk (fun b=>P b==wanted) v k }
 by_:fE W ab P
 rr:kJ W w.heap.size [.bool false,.int .u64 0,.int .u64 0,.bool false,.int .u64 0,.int .u64 0,.bool false,.int .u64 0,.int .u64 0,.bool false,.int .u64 0,.int .u64 0]
 zr:∀ i,W.frozen? ⟨w.heap.size,i,none⟩=false
 fr:Fr [r,pb] w W
theorem aSt (a:Nat)(h:a<50):IntKind.u64.wrap (2 ^ a)=((2 ^ a:Nat):Int):=by
 have h1:2 ^ a<2 ^ 50:=Nat.pow_lt_pow_right (by decide) h
 have h2:((2:Int) ^ a)=((2 ^ a:Nat):Int):=by simp
 rw[IntKind.wrap_u64,h2]
 clear h2
 generalize (2 ^ a:Nat)=x at h1 ⊢
 omega
theorem M.setAtoms {w:World}{r pb:Nat}{t:ByteArray}{wh:Nat→Value}{s:St} (h:M w r pb t wh s):M (w.setCell ⟨r,3,none⟩ (.int .i64 ((s.atoms:Int)+1))) r pb t wh { s with atoms:=s.atoms+1 }:=by
 have hb:∀ c,c≠r→(w.setCell ⟨r,3,none⟩ (.int .i64 ((s.atoms:Int)+1))).heap[c]?=w.heap[c]?:=fun c hc=>Below.heap_setCell w ⟨r,3,none⟩ _ c hc
 exact⟨⟨(aA (by decide)).trans h.rd.c0,(aA (by decide)).trans h.rd.c1,(aA (by decide)).trans h.rd.c2,World.cell?_setCell_same' _ _ _ (by rw[h.rd.c3];rfl),(aA (by decide)).trans h.rd.c4,
  (wfz _ _ _ _).trans h.rd.f1,(wfz _ _ _ _).trans h.rd.f2,(wfz _ _ _ _).trans h.rd.f3⟩,h.pat.of_block (hb _ (fun e=>h.n1 e.symm)),h.tab.of_block (hb _ (fun e=>h.n2 e.symm)),h.n1,h.n2,h.n3⟩
theorem rS.start {w:World}{r pb ab:Nat}{t:ByteArray}{wh:Nat→Value}{s:St}{P:Nat→Bool}{wanted:Bool}{v:Nat} (h:M w r pb t wh s) (hB:fE w ab P) (n1:ab≠r) :
  rS w r pb ab t wh s P wanted v 0 ((w.setCell ⟨r,3,none⟩ (.int .i64 ((s.atoms:Int)+1))).alloc (Obj.cells #[.bool false,.int .u64 0,.int .u64 0,.bool false,.int .u64 0,.int .u64 0,.bool false,.int .u64 0,.int .u64 0,.bool false,.int .u64 0,.int .u64 0] 217)):=by
 have hr:=h.rlt
 have f1:Fr [r] w (w.setCell ⟨r,3,none⟩ (.int .i64 ((s.atoms:Int)+1))):=(Fr.refl [r] w).setCell (p:=⟨r,3,none⟩) (.inl (by simp)) _
 have f2:Fr [] (w.setCell ⟨r,3,none⟩ (.int .i64 ((s.atoms:Int)+1))) ((w.setCell ⟨r,3,none⟩ (.int .i64 ((s.atoms:Int)+1))).alloc (Obj.cells #[.bool false,.int .u64 0,.int .u64 0,.bool false,.int .u64 0,.int .u64 0,.bool false,.int .u64 0,.int .u64 0,.bool false,.int .u64 0,.int .u64 0] 217)):=(Fr.refl [] _).alloc _
 have m2:=h.setAtoms.fr f2 (by simp) (by simp) (by simp)
 have rw0:=eQ (w.setCell ⟨r,3,none⟩ (.int .i64 ((s.atoms:Int)+1))) [.bool false,.int .u64 0,.int .u64 0,.bool false,.int .u64 0,.int .u64 0,.bool false,.int .u64 0,.int .u64 0,.bool false,.int .u64 0,.int .u64 0] 217
 have sz:(w.setCell ⟨r,3,none⟩ (.int .i64 ((s.atoms:Int)+1))).heap.size=w.heap.size:=by simp[World.setCell]
 have fz:=dL (w.setCell ⟨r,3,none⟩ (.int .i64 ((s.atoms:Int)+1))) [.bool false,.int .u64 0,.int .u64 0,.bool false,.int .u64 0,.int .u64 0,.bool false,.int .u64 0,.int .u64 0,.bool false,.int .u64 0,.int .u64 0] 217
 rw[sz] at rw0 fz
 refine⟨⟨m2.rd,m2.pat.congr (fun b _=>by simp[tkK]) (fun _ _ _ _=>rfl),m2.tab,m2.n1,m2.n2,m2.n3⟩,(hB.fr f1 (by simpa using n1)).fr f2 (by simp),rw0,fz,(f1.mono (by simp)).trans (f2.mono (by simp))⟩
theorem rS.drew {w:World}{r pb ab:Nat}{t:ByteArray}{wh:Nat→Value}{s:St}{P:Nat→Bool}{wanted:Bool}{v k:Nat}{W:World} (h:rS w r pb ab t wh s P wanted v k W):rS w r pb ab t wh s P wanted v k W.drew:=
 ⟨h.m.heap rfl,⟨h.by_.c,h.by_.z⟩,h.rr,h.zr,h.fr.drew⟩
theorem rS.miss {w:World}{r pb ab:Nat}{t:ByteArray}{wh:Nat→Value}{s:St}{P:Nat→Bool}{wanted:Bool}{v k:Nat}{W:World} (h:rS w r pb ab t wh s P wanted v k W) (hk:(P k==wanted)=false):rS w r pb ab t wh s P wanted v (k+1) W:=by
 refine⟨⟨h.m.rd,h.m.pat.congr (fun b _=>?_) (fun _ _ _ _=>rfl),h.m.tab,h.m.n1,h.m.n2,h.m.n3⟩,h.by_,h.rr,h.zr,h.fr⟩
 simp only[tkK]
 by_cases e:b=k
 ·subst e;simp[hk]
 ·have:b<k+1↔b<k:=by omega
  simp[this]
theorem rS.hit {w:World}{r pb ab:Nat}{t:ByteArray}{wh:Nat→Value}{s:St}{P:Nat→Bool}{wanted:Bool}{v k:Nat}{W:World} (h:rS w r pb ab t wh s P wanted v k W) (hk:(P k==wanted)=true) (hk2:k<256) (n2:ab≠pb) (hpl:pb<w.heap.size) :
  rS w r pb ab t wh s P wanted v (k+1) (W.setCell ⟨pb,12+k,none⟩ (.int .u64 (s.tk k ||| v:Nat))):=by
 have hb:∀ c,c≠pb→(W.setCell ⟨pb,12+k,none⟩ (.int .u64 (s.tk k ||| v:Nat))).heap[c]?=W.heap[c]?:=fun c hc=>Below.heap_setCell W ⟨pb,12+k,none⟩ _ c hc
 have hf:Fr [pb] W (W.setCell ⟨pb,12+k,none⟩ (.int .u64 (s.tk k ||| v:Nat))):=(Fr.refl [pb] W).setCell (p:=⟨pb,12+k,none⟩) (.inl (by simp)) _
 refine⟨⟨h.m.rd.of_block (hb _ h.m.n1),(h.m.pat.setTake k hk2 _).congr (fun b _=>?_) (fun _ _ _ _=>rfl),h.m.tab.of_block (hb _ (fun e=>h.m.n3 e.symm)),h.m.n1,h.m.n2,h.m.n3⟩,h.by_.fr hf (by simpa using n2),fun i=>(aQ (by omega)).trans (h.rr i),
  fun i=>(wfz _ _ _ _).trans (h.zr i),h.fr.trans (hf.mono (by simp))⟩
 simp only[tkK]
 by_cases e:b=k
 ·subst e;simp[hk]
 ·have:b<k+1↔b<k:=by omega
  simp[this,e]
theorem bAw (tk:Nat→Nat)(P:Nat→Bool)(v k:Nat):tkK tk P v k k=tk k:=by simp[tkK]
theorem vE {w:World}{r pb:Nat}{t:ByteArray}{wh:Nat→Value}{s:St} (ab:Nat) (P:Nat→Bool) (wanted:Bool) (h:M w r pb t wh s) (hB:fE w ab P) (n1:ab≠r) (n2:ab≠pb) (ha:s.atoms<50) (htk:∀ b,s.tk b<18446744073709551616) :
  Calls prog 211 #[.pointer (some ⟨r,0,none⟩),.pointer (some ⟨ab,0,none⟩),.bool wanted] w fun e w'=>
   e=.returned (pv (cL s (fun b=>P b==wanted)).1)∧M w' r pb t wh (cL s (fun b=>P b==wanted)).2∧Fr [r,pb] w w':=by
 have hm:prog.follows Departure.mixedOrders=true:=by kernel_rfl
 have c3:=h.rd.c3
 have z3:=h.rd.f3
 have hlt:=h.rlt
 have plt:=h.pat.lt
 have t6:=h.tab.lt
 have l1:r<w.heap.size+1:=by omega
 have hself:=aSt s.atoms ha
 have hv64:2 ^ s.atoms<18446744073709551616:=Nat.lt_trans (Nat.pow_lt_pow_right (a:=2) (by decide) ha) (by decide)
 have hgoal:(cL s (fun b=>P b==wanted))=(fun _=>⟨false,2 ^ s.atoms,2 ^ s.atoms⟩,{ s with atoms:=s.atoms+1,tk:=fun b=>if (P b==wanted)=true then s.tk b ||| 2 ^ s.atoms else s.tk b }):=rfl
 rw[hgoal]
 clear hgoal
 have hself':∀ v:Nat,2 ^ s.atoms=v→IntKind.u64.wrap (2 ^ s.atoms)=(v:Int):=fun v e=>by rw[hself,e]
 clear hself
 obtain⟨v,hv⟩:∃ v:Nat,2 ^ s.atoms=v:=⟨_,rfl⟩
 have hw:=hself' v hv
 clear hself'
 rw[hv] at hv64 ⊢
 clear hv
 have J0:=rS.start (wanted:=wanted) (v:=v) h hB n1
 go_enter func211,ntmps211
 go_wp2
 go_loopw [8,9,25] (fun _ _ i wr=>∃ k:Nat,k≤256∧i=.int .i64 k∧rS w r pb ab t wh s P wanted v k wr) (fun _ _ i _=>256-(intOf i).toNat)
 case atStart=>exact⟨0,by decide,rfl,J0⟩
 case round=>
  obtain⟨k,hk,rfl,J⟩:=hrel
  by_cases hlt:k<256
  ·have g1:(k:Int)<256:=by omega
   have b1:=J.by_.c k hlt
   have c4:=J.m.rd.c4
   have p1:wr.cell? ⟨pb,12+k,none⟩=some (.int .u64 (s.tk k:Nat)):=by rw[J.m.pat.ht k hlt];simp only[bAw]
   have p2:=J.m.pat.fz (12+k) (by omega)
   have o1:=bits_or_u64_nat (s.tk k) v (htk k) hv64
   go_wp2
   refine mQ hm (by kernel_rfl) ?_
   repeat still_step
   refine wpStill_nil ?_
   cases hw2:(P k==wanted)
   ·go_wp2
    exact⟨⟨k+1,by omega,by go_num,J.drew.miss hw2⟩,by simp[intOf];omega⟩
   ·go_wp2
    refine aR 14 hm (by kernel_rfl) ?_
    simp only[List.take_succ_cons,List.take_zero,List.drop_succ_cons,List.drop_zero]
    repeat still_step
    refine wpStill_nil ?_
    go_wp2
    exact⟨⟨k+1,by omega,by go_num,(J.hit hw2 hlt n2 plt).drew.drew⟩,by simp[intOf];omega⟩
  ·obtain rfl:k=256:=by omega
   have q1:w.heap.size<wr.heap.size:=aC (a:=⟨w.heap.size,0,none⟩) (J.rr 0)
   have q2:w.heap.size<wr.heap.size+1:=by omega
   have y0:wr.cell? ⟨w.heap.size,0,none⟩=some (.bool false):=J.rr 0
   have y1:wr.cell? ⟨w.heap.size,1,none⟩=some (.int .u64 0):=J.rr 1
   have y2:wr.cell? ⟨w.heap.size,2,none⟩=some (.int .u64 0):=J.rr 2
   have y3:wr.cell? ⟨w.heap.size,3,none⟩=some (.bool false):=J.rr 3
   have y4:wr.cell? ⟨w.heap.size,4,none⟩=some (.int .u64 0):=J.rr 4
   have y5:wr.cell? ⟨w.heap.size,5,none⟩=some (.int .u64 0):=J.rr 5
   have y6:wr.cell? ⟨w.heap.size,6,none⟩=some (.bool false):=J.rr 6
   have y7:wr.cell? ⟨w.heap.size,7,none⟩=some (.int .u64 0):=J.rr 7
   have y8:wr.cell? ⟨w.heap.size,8,none⟩=some (.int .u64 0):=J.rr 8
   have y9:wr.cell? ⟨w.heap.size,9,none⟩=some (.bool false):=J.rr 9
   have y10:wr.cell? ⟨w.heap.size,10,none⟩=some (.int .u64 0):=J.rr 10
   have y11:wr.cell? ⟨w.heap.size,11,none⟩=some (.int .u64 0):=J.rr 11
   have z0:=J.zr 0
   have z1:=J.zr 1
   have z2:=J.zr 2
   have z3:=J.zr 3
   have z4:=J.zr 4
   have z5:=J.zr 5
   have z6:=J.zr 6
   have z7:=J.zr 7
   have z8:=J.zr 8
   have z9:=J.zr 9
   have z10:=J.zr 10
   have z11:=J.zr 11
   go_wp2
   refine wp_loop_rounds 5 ?_
   iterate 5 (rw[rounds_succ];go_wp2)
   have hfr:=(fJ wr w.heap.size (.bool false) (.int .u64 v) (.int .u64 v) (.bool false) (.int .u64 v) (.int .u64 v) (.bool false) (.int .u64 v) (.int .u64 v) (.bool false) (.int .u64 v) (.int .u64 v)).alloc (Obj.cells #[.bool false,.int .u64 v,.int .u64 v,.bool false,.int .u64 v,.int .u64 v,.bool false,.int .u64 v,.int .u64 v,.bool false,.int .u64 v,.int .u64 v] 217)
   refine bodyPost_ret (v:=pv (fun _=>⟨false,v,v⟩)) (by simp[results,results211,go_sem,pv,q1,y0,y1,y2,y3,y4,y5,y6,y7,y8,y9,y10,y11]) rfl ⟨rfl,?_,?_⟩
   ·have m2:=J.m.fr hfr (by simp;omega) (by simp;omega) (by simp;omega)
    exact⟨m2.rd,m2.pat.congr (fun b hb=>by simp[tkK,hb]) (fun _ _ _ _=>rfl),m2.tab,m2.n1,m2.n2,m2.n3⟩
   ·exact J.fr.trans' hfr (by simp)
end Go.Proofs.YtgpamchpeamnfaaGreatDoor
