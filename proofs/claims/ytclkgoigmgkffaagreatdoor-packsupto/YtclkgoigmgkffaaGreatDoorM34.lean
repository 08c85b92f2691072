/-
  Texts Lu Lv.
-/
import Derived.Test.YtclkgoigmgkffaaGreatDoorM33
set_option linter.unusedSimpArgs false
set_option linter.unusedVariables false
set_option maxRecDepth 100000
set_option maxHeartbeats 40000000
namespace Go.Proofs.YtclkgoigmgkffaaGreatDoor
open Go.RowKit
open Wire Flow Mach
theorem ScG.row3 {w0 W W':World}{b:Nat}{cc:Nat→Value}{ms:Value}{bs:ByteArray}{r d:Value}{xs ys:List Value} (h:ScG w0 W b cc ms bs r d xs ys) {r':Value}{x:Value} (ho:W'.ownsRow w0.heap.size 9 1 r' (xs.length+1) (xs++[x])) (hg:W.grownBy W' r.ownBlock) (hb:r'.ownBlock=r.ownBlock∨r'.ownBlock=some W.heap.size) :
  ScG w0 (W'.setCell ⟨b,3,none⟩ r') b cc ms bs r' d (xs++[x]) ys:=by
 have hl:=h.lt
 have eb:W'.heap[b]?=W.heap[b]?:=hg.block b hl (fun e=>h.n1 e.symm)
 have e:∀ j,W'.cell? ⟨b,j,none⟩=W.cell? ⟨b,j,none⟩:=fun j=>by unfold World.cell?;rw[eb]
 have hfz:∀ j,j<15→W'.frozen? ⟨b,j,none⟩=false:=fun j hj=>by have:=h.fz j hj;unfold World.frozen? at this ⊢;rw[eb];exact this
 have n1':r'.ownBlock≠some b:=by
  rcases hb with hb | hb
  ·rw[hb];exact h.n1
  ·rw[hb];intro e2;cases e2;omega
 have hdl:∀ g,d.ownBlock=some g→g<W.heap.size:=fun g hg2=>(h.rd.lt g hg2).2
 have low:FrB w0.heap.size W W':=⟨hg.os,hg.tape,hg.output,hg.size,fun k hk=>hg.block k (Nat.lt_of_lt_of_le hk h.fr.size) (fun e2=>by have:=(h.rr.lt k e2.symm).1;omega)⟩
 refine⟨(h.fr.trans low).trans (frB_set h.lb),(setCell_off (by decide)).trans ((e _).trans h.c0),(setCell_off (by decide)).trans ((e _).trans h.c1),(setCell_off (by decide)).trans ((e _).trans h.c2),cell_set ((e _).trans h.c3),(setCell_off (by decide)).trans ((e _).trans h.c4),fun j h1 h2=>(setCell_off (by omega)).trans ((e j).trans (h.c5 j h1 h2)),fun j hj=>by rw[World.frozen?_setCell];exact hfz j hj,h.lb,?_,?_,n1',h.n2,fun g hg2 hd=>?_,h.sz⟩
 ·rw[List.length_append]
  exact own_of_block ho (fun g hg2=>setCell_block (fun e2=>n1' (by rw[hg2,e2])))
 ·refine own_of_block h.rd (fun g hg2=>(setCell_block (fun e2=>h.n2 (by rw[hg2,e2]))).trans (hg.block g (hdl g hg2) (fun e2=>h.n3 g e2.symm hg2)))
 ·rcases hb with hb | hb
  ·rw[hb] at hg2;exact h.n3 g hg2 hd
  ·rw[hb] at hg2;cases hg2;have:=hdl _ hd;omega
theorem ScG.row4 {w0 W W':World}{b:Nat}{cc:Nat→Value}{ms:Value}{bs:ByteArray}{r d:Value}{xs ys:List Value} (h:ScG w0 W b cc ms bs r d xs ys) {d':Value}{y:Value} (ho:W'.ownsRow w0.heap.size 3 1 d' (ys.length+1) (ys++[y])) (hg:W.grownBy W' d.ownBlock) (hb:d'.ownBlock=d.ownBlock∨d'.ownBlock=some W.heap.size) :
  ScG w0 (W'.setCell ⟨b,4,none⟩ d') b cc ms bs r d' xs (ys++[y]):=by
 have hl:=h.lt
 have eb:W'.heap[b]?=W.heap[b]?:=hg.block b hl (fun e=>h.n2 e.symm)
 have e:∀ j,W'.cell? ⟨b,j,none⟩=W.cell? ⟨b,j,none⟩:=fun j=>by unfold World.cell?;rw[eb]
 have hfz:∀ j,j<15→W'.frozen? ⟨b,j,none⟩=false:=fun j hj=>by have:=h.fz j hj;unfold World.frozen? at this ⊢;rw[eb];exact this
 have n2':d'.ownBlock≠some b:=by
  rcases hb with hb | hb
  ·rw[hb];exact h.n2
  ·rw[hb];intro e2;cases e2;omega
 have hrl:∀ g,r.ownBlock=some g→g<W.heap.size:=fun g hg2=>(h.rr.lt g hg2).2
 have low:FrB w0.heap.size W W':=⟨hg.os,hg.tape,hg.output,hg.size,fun k hk=>hg.block k (Nat.lt_of_lt_of_le hk h.fr.size) (fun e2=>by have:=(h.rd.lt k e2.symm).1;omega)⟩
 refine⟨(h.fr.trans low).trans (frB_set h.lb),(setCell_off (by decide)).trans ((e _).trans h.c0),(setCell_off (by decide)).trans ((e _).trans h.c1),(setCell_off (by decide)).trans ((e _).trans h.c2),(setCell_off (by decide)).trans ((e _).trans h.c3),cell_set ((e _).trans h.c4),fun j h1 h2=>(setCell_off (by omega)).trans ((e j).trans (h.c5 j h1 h2)),fun j hj=>by rw[World.frozen?_setCell];exact hfz j hj,h.lb,?_,?_,h.n1,n2',fun g hg2 hd=>?_,h.sz⟩
 ·refine own_of_block h.rr (fun g hg2=>(setCell_block (fun e2=>h.n1 (by rw[hg2,e2]))).trans (hg.block g (hrl g hg2) (fun e2=>h.n3 g hg2 e2.symm)))
 ·rw[List.length_append]
  exact own_of_block ho (fun g hg2=>setCell_block (fun e2=>n2' (by rw[hg2,e2])))
 ·rcases hb with hb | hb
  ·rw[hb] at hd;exact h.n3 g hg2 hd
  ·rw[hb] at hd;cases hd;have:=hrl _ hg2;omega
theorem ownG_record (w0 W:World) (b:Nat) (cc:Nat→Value) (ms:Value) (bs:ByteArray) (r d:Value) (xs ys:List Value) (a b':Int) (s t u:ByteArray) (h:ScG w0 W b cc ms bs r d xs ys) (hn:xs.length≤2000000000000) :
  Calls Tryz.prog 27 #[.pointer (some ⟨b,0,none⟩),opV 5 a b' s t u] W (OwnG w0 b cc ms W r d xs.length ys.length):=by
 unfold opV
 have hm:Tryz.prog.follows Departure.mixedOrders=true:=by kernel_rfl
 obtain⟨i0,hi,hz0,hz1,hz2⟩:=info_parts infoTx
 obtain⟨W1,hW1⟩:∃ W1,W.alloc (.cells #[.int .i64 5,.int .i64 a,.int .i64 b',.string s,.string t,.string u] 61)=W1:=⟨_,rfl⟩
 have F1:Fr [] W W1:=by rw[← hW1];exact (Fr.refl [] W).alloc _
 have k1:=World.alloc_heap_new W (.cells #[.int .i64 5,.int .i64 a,.int .i64 b',.string s,.string t,.string u] 61)
 rw[hW1] at k1
 have c0:W1.cell? ⟨W.heap.size,0,none⟩=some (.int .i64 5):=by unfold World.cell?;rw[k1];rfl
 have co:W1.cell? ⟨W.heap.size,3,none⟩=some (.string s):=by unfold World.cell?;rw[k1];rfl
 have hWl:=(Array.getElem?_eq_some_iff.1 k1).1
 obtain⟨WD,hWD⟩:∃ WD,W1.drew=WD:=⟨_,rfl⟩
 have FD:Fr [] W1 WD:=by rw[← hWD];exact (Fr.refl [] W1).drew
 obtain⟨W2,hW2⟩:∃ W2,WD.alloc (.cells #[.string s] 9)=W2:=⟨_,rfl⟩
 have F2:Fr [] WD W2:=by rw[← hW2];exact (Fr.refl [] WD).alloc _
 have h2:=h.keep ((F1.trans FD).trans F2)
 obtain⟨n,hne⟩:∃ n,xs.length=n:=⟨_,rfl⟩
 obtain⟨o3,cap3,e3⟩:∃ o3 cap3,r=.slice o3 n cap3:=by
  rcases h.rr.2 with ⟨hv,h0⟩ | ⟨g,cap,cur,hv,_⟩
  ·exact⟨none,0,by rw[hv,← hne,h0]⟩
  ·exact⟨_,cap,by rw[hv,hne]⟩
 have hnews:=cell_one WD (.string s) 9
 rw[hW2] at hnews
 obtain⟨v',W3,hr3,hown',hgrow,-,hwh⟩:=run_append_own_at (P:=Tryz.prog) W2 w0.heap.size 27 27 9 i0 _ 1 16 Tryz.underlying27 hi hz0 hz1 hz2 rfl (by decide) _ _ _ h2.rr ⟨WD.heap.size,0,none⟩ 1 1 [.string s] rfl hnews (by intro u hu;simp at hu;subst hu;rfl) (by unfold maxLen;omega) (by omega) h2.fr.size
 have hfin:=h2.row3 hown' hgrow hwh
 have hb0:=h.lt
 rw[e3] at hr3
 have hS1:(fun w1:World=>w1.cell? ⟨b,3,none⟩=some (.slice o3 n cap3)∧w1.cell? ⟨W.heap.size,3,none⟩=some (.string s)) WD:=⟨by rw[← e3];exact (h.keep (F1.trans FD)).c3,(FD.cell (p:=⟨W.heap.size,3,none⟩) hWl (by simp)).trans co⟩
 have hS2:(fun w1:World=>w1.cell? ⟨b,3,none⟩=some (.slice o3 n cap3)∧w1.cell? ⟨W.heap.size,3,none⟩=some (.string s)) W2:=⟨by rw[← e3];exact h2.c3,(F2.cell (p:=⟨W.heap.size,3,none⟩) (Nat.lt_of_lt_of_le hWl FD.size) (by simp)).trans hS1.2⟩
 have hbl2:b<W2.heap.size:=h2.lt
 have hS3:(fun w1:World=>w1.cell? ⟨b,3,none⟩=some (.slice o3 n cap3)∧w1.cell? ⟨W.heap.size,3,none⟩=some (.string s)) W3:=by
  refine⟨?_,?_⟩
  ·rw[← hS2.1]
   exact World.cell?_of_block (hgrow.block b hbl2 (fun e=>h2.n1 e.symm))
  ·rw[← hS2.2]
   refine World.cell?_of_block (hgrow.block W.heap.size (Nat.lt_of_lt_of_le (Nat.lt_of_lt_of_le hWl FD.size) F2.size) (fun e=>?_))
   have:=(h.rr.lt _ e.symm).2
   omega
 have z3:W3.frozen? ⟨b,3,none⟩=false:=by
  have:=h2.fz 3 (by decide)
  rw[← this]
  exact World.frozen?_of_block (hgrow.block b hbl2 (fun e=>h2.n1 e.symm))
 have hof:=(OwK.row3 (b:=b) (r:=r) (d:=d) ((F1.trans FD).trans F2) hgrow hwh).set (i:=3) (v:=v')
 have HX:Hid _:=And.intro hfin hof
 have Hr3:Hid _:=hr3
 obtain⟨vo,vn,vc,rfl⟩:∃ vo vn vc,v'=.slice vo vn vc:=by
  rcases hown'.2 with ⟨hv,h0⟩ | ⟨g,cap,cur,hv,_⟩
  ·exact⟨none,0,0,hv⟩
  ·exact⟨_,_,cap,hv⟩
 clear hof h h2 F1 FD F2 k1 hown' hgrow hwh hfin hr3 hnews hb0 hbl2 hne e3
 obtain⟨p3,p4⟩:=hS1
 obtain⟨p5,p6⟩:=hS2
 obtain⟨p7,-⟩:=hS3
 go_enter Tryz.func27,Tryz.ntmps27
 go_wp2
 refine wp_region_heldD (fun _=>True) hm ?_
 have hS:(fun _:World=>True) W1.drew:=trivial
 rw[hWD]
 rw[hWD] at hS
 refine wpAnyH_take (i:=0) (v:=?_) rfl (by kernel_rfl) (by kernel_rfl) (by kernel_rfl) (fun _ _ _ h=>h) (.inl ⟨rfl,fun w1 hS1=>?_⟩) hS ?_
 rotate_left
 ·have q1:=hS1
  go_simp
  first | rfl | (refine (if_neg (by omega)).trans ?_;rfl)
 simp only[Act.put,List.setIfInBounds_toArray,List.set_cons_zero,List.set_cons_succ,List.getElem_toArray,List.getElem_cons_succ,List.getElem_cons_zero]
 refine wpAnyH_take (i:=1) (v:=?_) rfl (by kernel_rfl) (by kernel_rfl) (by kernel_rfl) (fun _ _ _ h=>h) (.inl ⟨rfl,fun w1 hS1=>?_⟩) hS ?_
 rotate_left
 ·have q1:=hS1
  go_simp
  first | rfl | (refine (if_neg (by omega)).trans ?_;rfl)
 simp only[Act.put,List.setIfInBounds_toArray,List.set_cons_zero,List.set_cons_succ,List.getElem_toArray,List.getElem_cons_succ,List.getElem_cons_zero]
 refine wpAnyH_take (i:=2) (v:=?_) rfl (by kernel_rfl) (by kernel_rfl) (by kernel_rfl) (fun _ _ _ h=>h) (.inl ⟨rfl,fun w1 hS1=>?_⟩) hS ?_
 rotate_left
 ·have q1:=hS1
  go_simp
  first | rfl | (refine (if_neg (by omega)).trans ?_;rfl)
 simp only[Act.put,List.setIfInBounds_toArray,List.set_cons_zero,List.set_cons_succ,List.getElem_toArray,List.getElem_cons_succ,List.getElem_cons_zero]
 refine wpAnyH_take (i:=3) (v:=?_) rfl (by kernel_rfl) (by kernel_rfl) (by kernel_rfl) (fun _ _ _ h=>h) (.inl ⟨rfl,fun w1 hS1=>?_⟩) hS ?_
 rotate_left
 ·have q1:=hS1
  go_simp
  first | rfl | (refine (if_neg (by omega)).trans ?_;rfl)
 simp only[Act.put,List.setIfInBounds_toArray,List.set_cons_zero,List.set_cons_succ,List.getElem_toArray,List.getElem_cons_succ,List.getElem_cons_zero]
 refine wpAnyH_take (i:=5) (v:=?_) rfl (by kernel_rfl) (by kernel_rfl) (by kernel_rfl) (fun _ _ _ h=>h) (.inl ⟨rfl,fun w1 hS1=>?_⟩) hS ?_
 rotate_left
 ·have q1:=hS1
  go_simp
  first | rfl | (refine (if_neg (by omega)).trans ?_;rfl)
 simp only[Act.put,List.setIfInBounds_toArray,List.set_cons_zero,List.set_cons_succ,List.getElem_toArray,List.getElem_cons_succ,List.getElem_cons_zero]
 refine wpAnyH_ready (rs:=[4,6]) (by kernel_rfl) (by simp) ?_
 refine (AllReadyH.cons rfl (fun K hK=>?_) (AllReadyH.cons rfl (fun K hK=>?_) AllReadyH.nil))
 ·go_simp
  refine hK _ _ trivial ?_
  clear hK K
  intro _
  try simp only[Act.put,List.setIfInBounds_toArray,List.set_cons_zero,List.set_cons_succ,List.getElem_toArray,List.getElem_cons_succ,List.getElem_cons_zero]
  refine wpAnyH_ready (rs:=[6]) (by kernel_rfl) (by simp) ?_
  refine AllReadyH.cons rfl (fun K hK=>?_) AllReadyH.nil
  go_simp
  refine hK _ _ trivial ?_
  clear hK K
  intro _
  try simp only[Act.put,List.setIfInBounds_toArray,List.set_cons_zero,List.set_cons_succ,List.getElem_toArray,List.getElem_cons_succ,List.getElem_cons_zero]
  refine wpAnyH_ready (rs:=[7]) (by kernel_rfl) (by simp) ?_
  refine AllReadyH.cons rfl (fun K hK=>?_) AllReadyH.nil
  go_simp
  refine hK _ _ trivial ?_
  clear hK K
  intro _
  try simp only[Act.put,List.setIfInBounds_toArray,List.set_cons_zero,List.set_cons_succ,List.getElem_toArray,List.getElem_cons_succ,List.getElem_cons_zero]
  refine wpAnyH_ready (rs:=[8]) (by kernel_rfl) (by simp) ?_
  refine AllReadyH.cons rfl (fun K hK=>?_) AllReadyH.nil
  refine oper_appendB (.tmp 89) (.tmp 92) 27 rfl _ _ _ rfl rfl Hr3.out ?_
  refine hK _ _ trivial ?_
  clear hK K
  intro _
  try simp only[Act.put,List.setIfInBounds_toArray,List.set_cons_zero,List.set_cons_succ,List.getElem_toArray,List.getElem_cons_succ,List.getElem_cons_zero]
  refine wpAnyH_take (i:=9) (v:=?_) rfl (by kernel_rfl) (by kernel_rfl) (by kernel_rfl) (fun _ _ _ h=>h) (.inl ⟨rfl,fun w1 hS1=>?_⟩) hS ?_
  rotate_left
  ·have q1:=hS1
   go_simp
   first | rfl | (refine (if_neg (by omega)).trans ?_;rfl)
  simp only[Act.put,List.setIfInBounds_toArray,List.set_cons_zero,List.set_cons_succ,List.getElem_toArray,List.getElem_cons_succ,List.getElem_cons_zero]
  refine wpAnyH_take (i:=10) (v:=?_) rfl (by kernel_rfl) (by kernel_rfl) (by kernel_rfl) (fun _ _ _ h=>h) (.inl ⟨rfl,fun w1 hS1=>?_⟩) hS ?_
  rotate_left
  ·have q1:=hS1
   go_simp
   first | rfl | (refine (if_neg (by omega)).trans ?_;rfl)
  simp only[Act.put,List.setIfInBounds_toArray,List.set_cons_zero,List.set_cons_succ,List.getElem_toArray,List.getElem_cons_succ,List.getElem_cons_zero]
  refine wpAnyH_ready (rs:=[11]) (by kernel_rfl) (by simp) ?_
  refine AllReadyH.cons rfl (fun K hK=>?_) AllReadyH.nil
  go_simp
  refine hK _ _ trivial ?_
  clear hK K
  intro _
  try simp only[Act.put,List.setIfInBounds_toArray,List.set_cons_zero,List.set_cons_succ,List.getElem_toArray,List.getElem_cons_succ,List.getElem_cons_zero]
  refine wpAnyH_done (by kernel_rfl) ?_ _
  go_wp2
  go_end0
  exact⟨rfl,bs,_,_,_,_,HX.out.1,by simp,by simp,HX.out.2⟩
 ·go_simp
  refine hK _ _ trivial ?_
  clear hK K
  intro _
  try simp only[Act.put,List.setIfInBounds_toArray,List.set_cons_zero,List.set_cons_succ,List.getElem_toArray,List.getElem_cons_succ,List.getElem_cons_zero]
  refine wpAnyH_ready (rs:=[4,7]) (by kernel_rfl) (by simp) ?_
  refine (AllReadyH.cons rfl (fun K hK=>?_) (AllReadyH.cons rfl (fun K hK=>?_) AllReadyH.nil))
  ·go_simp
   refine hK _ _ trivial ?_
   clear hK K
   intro _
   try simp only[Act.put,List.setIfInBounds_toArray,List.set_cons_zero,List.set_cons_succ,List.getElem_toArray,List.getElem_cons_succ,List.getElem_cons_zero]
   refine wpAnyH_ready (rs:=[7]) (by kernel_rfl) (by simp) ?_
   refine AllReadyH.cons rfl (fun K hK=>?_) AllReadyH.nil
   go_simp
   refine hK _ _ trivial ?_
   clear hK K
   intro _
   try simp only[Act.put,List.setIfInBounds_toArray,List.set_cons_zero,List.set_cons_succ,List.getElem_toArray,List.getElem_cons_succ,List.getElem_cons_zero]
   refine wpAnyH_ready (rs:=[8]) (by kernel_rfl) (by simp) ?_
   refine AllReadyH.cons rfl (fun K hK=>?_) AllReadyH.nil
   refine oper_appendB (.tmp 89) (.tmp 92) 27 rfl _ _ _ rfl rfl Hr3.out ?_
   refine hK _ _ trivial ?_
   clear hK K
   intro _
   try simp only[Act.put,List.setIfInBounds_toArray,List.set_cons_zero,List.set_cons_succ,List.getElem_toArray,List.getElem_cons_succ,List.getElem_cons_zero]
   refine wpAnyH_take (i:=9) (v:=?_) rfl (by kernel_rfl) (by kernel_rfl) (by kernel_rfl) (fun _ _ _ h=>h) (.inl ⟨rfl,fun w1 hS1=>?_⟩) hS ?_
   rotate_left
   ·have q1:=hS1
    go_simp
    first | rfl | (refine (if_neg (by omega)).trans ?_;rfl)
   simp only[Act.put,List.setIfInBounds_toArray,List.set_cons_zero,List.set_cons_succ,List.getElem_toArray,List.getElem_cons_succ,List.getElem_cons_zero]
   refine wpAnyH_take (i:=10) (v:=?_) rfl (by kernel_rfl) (by kernel_rfl) (by kernel_rfl) (fun _ _ _ h=>h) (.inl ⟨rfl,fun w1 hS1=>?_⟩) hS ?_
   rotate_left
   ·have q1:=hS1
    go_simp
    first | rfl | (refine (if_neg (by omega)).trans ?_;rfl)
   simp only[Act.put,List.setIfInBounds_toArray,List.set_cons_zero,List.set_cons_succ,List.getElem_toArray,List.getElem_cons_succ,List.getElem_cons_zero]
   refine wpAnyH_ready (rs:=[11]) (by kernel_rfl) (by simp) ?_
   refine AllReadyH.cons rfl (fun K hK=>?_) AllReadyH.nil
   go_simp
   refine hK _ _ trivial ?_
   clear hK K
   intro _
   try simp only[Act.put,List.setIfInBounds_toArray,List.set_cons_zero,List.set_cons_succ,List.getElem_toArray,List.getElem_cons_succ,List.getElem_cons_zero]
   refine wpAnyH_done (by kernel_rfl) ?_ _
   go_wp2
   go_end0
   exact⟨rfl,bs,_,_,_,_,HX.out.1,by simp,by simp,HX.out.2⟩
  ·go_simp
   refine hK _ _ trivial ?_
   clear hK K
   intro _
   try simp only[Act.put,List.setIfInBounds_toArray,List.set_cons_zero,List.set_cons_succ,List.getElem_toArray,List.getElem_cons_succ,List.getElem_cons_zero]
   refine wpAnyH_ready (rs:=[4]) (by kernel_rfl) (by simp) ?_
   refine AllReadyH.cons rfl (fun K hK=>?_) AllReadyH.nil
   go_simp
   refine hK _ _ trivial ?_
   clear hK K
   intro _
   try simp only[Act.put,List.setIfInBounds_toArray,List.set_cons_zero,List.set_cons_succ,List.getElem_toArray,List.getElem_cons_succ,List.getElem_cons_zero]
   refine wpAnyH_ready (rs:=[8]) (by kernel_rfl) (by simp) ?_
   refine AllReadyH.cons rfl (fun K hK=>?_) AllReadyH.nil
   refine oper_appendB (.tmp 89) (.tmp 92) 27 rfl _ _ _ rfl rfl Hr3.out ?_
   refine hK _ _ trivial ?_
   clear hK K
   intro _
   try simp only[Act.put,List.setIfInBounds_toArray,List.set_cons_zero,List.set_cons_succ,List.getElem_toArray,List.getElem_cons_succ,List.getElem_cons_zero]
   refine wpAnyH_take (i:=9) (v:=?_) rfl (by kernel_rfl) (by kernel_rfl) (by kernel_rfl) (fun _ _ _ h=>h) (.inl ⟨rfl,fun w1 hS1=>?_⟩) hS ?_
   rotate_left
   ·have q1:=hS1
    go_simp
    first | rfl | (refine (if_neg (by omega)).trans ?_;rfl)
   simp only[Act.put,List.setIfInBounds_toArray,List.set_cons_zero,List.set_cons_succ,List.getElem_toArray,List.getElem_cons_succ,List.getElem_cons_zero]
   refine wpAnyH_take (i:=10) (v:=?_) rfl (by kernel_rfl) (by kernel_rfl) (by kernel_rfl) (fun _ _ _ h=>h) (.inl ⟨rfl,fun w1 hS1=>?_⟩) hS ?_
   rotate_left
   ·have q1:=hS1
    go_simp
    first | rfl | (refine (if_neg (by omega)).trans ?_;rfl)
   simp only[Act.put,List.setIfInBounds_toArray,List.set_cons_zero,List.set_cons_succ,List.getElem_toArray,List.getElem_cons_succ,List.getElem_cons_zero]
   refine wpAnyH_ready (rs:=[11]) (by kernel_rfl) (by simp) ?_
   refine AllReadyH.cons rfl (fun K hK=>?_) AllReadyH.nil
   go_simp
   refine hK _ _ trivial ?_
   clear hK K
   intro _
   try simp only[Act.put,List.setIfInBounds_toArray,List.set_cons_zero,List.set_cons_succ,List.getElem_toArray,List.getElem_cons_succ,List.getElem_cons_zero]
   refine wpAnyH_done (by kernel_rfl) ?_ _
   go_wp2
   go_end0
   exact⟨rfl,bs,_,_,_,_,HX.out.1,by simp,by simp,HX.out.2⟩
theorem ownG_draw (w0 W:World) (b:Nat) (cc:Nat→Value) (ms:Value) (bs:ByteArray) (r d:Value) (xs ys:List Value) (a b':Int) (s t u:ByteArray) (h:ScG w0 W b cc ms bs r d xs ys) (hn:ys.length≤2000000000000) :
  Calls Tryz.prog 27 #[.pointer (some ⟨b,0,none⟩),opV 6 a b' s t u] W (OwnG w0 b cc ms W r d xs.length ys.length):=by
 unfold opV
 have hm:Tryz.prog.follows Departure.mixedOrders=true:=by kernel_rfl
 obtain⟨i0,hi,hz0,hz1,hz2⟩:=info_parts infoIt
 obtain⟨W1,hW1⟩:∃ W1,W.alloc (.cells #[.int .i64 6,.int .i64 a,.int .i64 b',.string s,.string t,.string u] 61)=W1:=⟨_,rfl⟩
 have F1:Fr [] W W1:=by rw[← hW1];exact (Fr.refl [] W).alloc _
 have k1:=World.alloc_heap_new W (.cells #[.int .i64 6,.int .i64 a,.int .i64 b',.string s,.string t,.string u] 61)
 rw[hW1] at k1
 have c0:W1.cell? ⟨W.heap.size,0,none⟩=some (.int .i64 6):=by unfold World.cell?;rw[k1];rfl
 have co:W1.cell? ⟨W.heap.size,1,none⟩=some (.int .i64 a):=by unfold World.cell?;rw[k1];rfl
 have hWl:=(Array.getElem?_eq_some_iff.1 k1).1
 obtain⟨WD,hWD⟩:∃ WD,W1.drew=WD:=⟨_,rfl⟩
 have FD:Fr [] W1 WD:=by rw[← hWD];exact (Fr.refl [] W1).drew
 obtain⟨W2,hW2⟩:∃ W2,WD.alloc (.cells #[.int .i64 a] 3)=W2:=⟨_,rfl⟩
 have F2:Fr [] WD W2:=by rw[← hW2];exact (Fr.refl [] WD).alloc _
 have h2:=h.keep ((F1.trans FD).trans F2)
 obtain⟨n,hne⟩:∃ n,ys.length=n:=⟨_,rfl⟩
 obtain⟨o3,cap3,e3⟩:∃ o3 cap3,d=.slice o3 n cap3:=by
  rcases h.rd.2 with ⟨hv,h0⟩ | ⟨g,cap,cur,hv,_⟩
  ·exact⟨none,0,by rw[hv,← hne,h0]⟩
  ·exact⟨_,cap,by rw[hv,hne]⟩
 have hnews:=cell_one WD (.int .i64 a) 3
 rw[hW2] at hnews
 obtain⟨v',W3,hr3,hown',hgrow,-,hwh⟩:=run_append_own_at (P:=Tryz.prog) W2 w0.heap.size 31 31 3 i0 _ 1 8 Tryz.underlying31 hi hz0 hz1 hz2 rfl (by decide) _ _ _ h2.rd ⟨WD.heap.size,0,none⟩ 1 1 [.int .i64 a] rfl hnews (by intro u hu;simp at hu;subst hu;rfl) (by unfold maxLen;omega) (by omega) h2.fr.size
 have hfin:=h2.row4 hown' hgrow hwh
 have hb0:=h.lt
 rw[e3] at hr3
 have hS1:(fun w1:World=>w1.cell? ⟨b,4,none⟩=some (.slice o3 n cap3)∧w1.cell? ⟨W.heap.size,1,none⟩=some (.int .i64 a)) WD:=⟨by rw[← e3];exact (h.keep (F1.trans FD)).c4,(FD.cell (p:=⟨W.heap.size,1,none⟩) hWl (by simp)).trans co⟩
 have hS2:(fun w1:World=>w1.cell? ⟨b,4,none⟩=some (.slice o3 n cap3)∧w1.cell? ⟨W.heap.size,1,none⟩=some (.int .i64 a)) W2:=⟨by rw[← e3];exact h2.c4,(F2.cell (p:=⟨W.heap.size,1,none⟩) (Nat.lt_of_lt_of_le hWl FD.size) (by simp)).trans hS1.2⟩
 have hbl2:b<W2.heap.size:=h2.lt
 have hS3:(fun w1:World=>w1.cell? ⟨b,4,none⟩=some (.slice o3 n cap3)∧w1.cell? ⟨W.heap.size,1,none⟩=some (.int .i64 a)) W3:=by
  refine⟨?_,?_⟩
  ·rw[← hS2.1]
   exact World.cell?_of_block (hgrow.block b hbl2 (fun e=>h2.n2 e.symm))
  ·rw[← hS2.2]
   refine World.cell?_of_block (hgrow.block W.heap.size (Nat.lt_of_lt_of_le (Nat.lt_of_lt_of_le hWl FD.size) F2.size) (fun e=>?_))
   have:=(h.rd.lt _ e.symm).2
   omega
 have z3:W3.frozen? ⟨b,4,none⟩=false:=by
  have:=h2.fz 4 (by decide)
  rw[← this]
  exact World.frozen?_of_block (hgrow.block b hbl2 (fun e=>h2.n2 e.symm))
 have hof:=(OwK.row4 (b:=b) (r:=r) (d:=d) ((F1.trans FD).trans F2) hgrow hwh).set (i:=4) (v:=v')
 have HX:Hid _:=And.intro hfin hof
 have Hr3:Hid _:=hr3
 obtain⟨vo,vn,vc,rfl⟩:∃ vo vn vc,v'=.slice vo vn vc:=by
  rcases hown'.2 with ⟨hv,h0⟩ | ⟨g,cap,cur,hv,_⟩
  ·exact⟨none,0,0,hv⟩
  ·exact⟨_,_,cap,hv⟩
 clear hof h h2 F1 FD F2 k1 hown' hgrow hwh hfin hr3 hnews hb0 hbl2 hne e3
 obtain⟨p3,p4⟩:=hS1
 obtain⟨p5,p6⟩:=hS2
 obtain⟨p7,-⟩:=hS3
 go_enter Tryz.func27,Tryz.ntmps27
 go_wp2
 refine wp_region_heldD (fun _=>True) hm ?_
 have hS:(fun _:World=>True) W1.drew:=trivial
 rw[hWD]
 rw[hWD] at hS
 refine wpAnyH_take (i:=0) (v:=?_) rfl (by kernel_rfl) (by kernel_rfl) (by kernel_rfl) (fun _ _ _ h=>h) (.inl ⟨rfl,fun w1 hS1=>?_⟩) hS ?_
 rotate_left
 ·have q1:=hS1
  go_simp
  first | rfl | (refine (if_neg (by omega)).trans ?_;rfl)
 simp only[Act.put,List.setIfInBounds_toArray,List.set_cons_zero,List.set_cons_succ,List.getElem_toArray,List.getElem_cons_succ,List.getElem_cons_zero]
 refine wpAnyH_take (i:=1) (v:=?_) rfl (by kernel_rfl) (by kernel_rfl) (by kernel_rfl) (fun _ _ _ h=>h) (.inl ⟨rfl,fun w1 hS1=>?_⟩) hS ?_
 rotate_left
 ·have q1:=hS1
  go_simp
  first | rfl | (refine (if_neg (by omega)).trans ?_;rfl)
 simp only[Act.put,List.setIfInBounds_toArray,List.set_cons_zero,List.set_cons_succ,List.getElem_toArray,List.getElem_cons_succ,List.getElem_cons_zero]
 refine wpAnyH_take (i:=2) (v:=?_) rfl (by kernel_rfl) (by kernel_rfl) (by kernel_rfl) (fun _ _ _ h=>h) (.inl ⟨rfl,fun w1 hS1=>?_⟩) hS ?_
 rotate_left
 ·have q1:=hS1
  go_simp
  first | rfl | (refine (if_neg (by omega)).trans ?_;rfl)
 simp only[Act.put,List.setIfInBounds_toArray,List.set_cons_zero,List.set_cons_succ,List.getElem_toArray,List.getElem_cons_succ,List.getElem_cons_zero]
 refine wpAnyH_take (i:=3) (v:=?_) rfl (by kernel_rfl) (by kernel_rfl) (by kernel_rfl) (fun _ _ _ h=>h) (.inl ⟨rfl,fun w1 hS1=>?_⟩) hS ?_
 rotate_left
 ·have q1:=hS1
  go_simp
  first | rfl | (refine (if_neg (by omega)).trans ?_;rfl)
 simp only[Act.put,List.setIfInBounds_toArray,List.set_cons_zero,List.set_cons_succ,List.getElem_toArray,List.getElem_cons_succ,List.getElem_cons_zero]
 refine wpAnyH_take (i:=5) (v:=?_) rfl (by kernel_rfl) (by kernel_rfl) (by kernel_rfl) (fun _ _ _ h=>h) (.inl ⟨rfl,fun w1 hS1=>?_⟩) hS ?_
 rotate_left
 ·have q1:=hS1
  go_simp
  first | rfl | (refine (if_neg (by omega)).trans ?_;rfl)
 simp only[Act.put,List.setIfInBounds_toArray,List.set_cons_zero,List.set_cons_succ,List.getElem_toArray,List.getElem_cons_succ,List.getElem_cons_zero]
 refine wpAnyH_ready (rs:=[4,6]) (by kernel_rfl) (by simp) ?_
 refine (AllReadyH.cons rfl (fun K hK=>?_) (AllReadyH.cons rfl (fun K hK=>?_) AllReadyH.nil))
 ·go_simp
  refine hK _ _ trivial ?_
  clear hK K
  intro _
  try simp only[Act.put,List.setIfInBounds_toArray,List.set_cons_zero,List.set_cons_succ,List.getElem_toArray,List.getElem_cons_succ,List.getElem_cons_zero]
  refine wpAnyH_ready (rs:=[6]) (by kernel_rfl) (by simp) ?_
  refine AllReadyH.cons rfl (fun K hK=>?_) AllReadyH.nil
  go_simp
  refine hK _ _ trivial ?_
  clear hK K
  intro _
  try simp only[Act.put,List.setIfInBounds_toArray,List.set_cons_zero,List.set_cons_succ,List.getElem_toArray,List.getElem_cons_succ,List.getElem_cons_zero]
  refine wpAnyH_ready (rs:=[7]) (by kernel_rfl) (by simp) ?_
  refine AllReadyH.cons rfl (fun K hK=>?_) AllReadyH.nil
  go_simp
  refine hK _ _ trivial ?_
  clear hK K
  intro _
  try simp only[Act.put,List.setIfInBounds_toArray,List.set_cons_zero,List.set_cons_succ,List.getElem_toArray,List.getElem_cons_succ,List.getElem_cons_zero]
  refine wpAnyH_ready (rs:=[8]) (by kernel_rfl) (by simp) ?_
  refine AllReadyH.cons rfl (fun K hK=>?_) AllReadyH.nil
  refine oper_appendB (.tmp 102) (.tmp 105) 31 rfl _ _ _ rfl rfl Hr3.out ?_
  refine hK _ _ trivial ?_
  clear hK K
  intro _
  try simp only[Act.put,List.setIfInBounds_toArray,List.set_cons_zero,List.set_cons_succ,List.getElem_toArray,List.getElem_cons_succ,List.getElem_cons_zero]
  refine wpAnyH_take (i:=9) (v:=?_) rfl (by kernel_rfl) (by kernel_rfl) (by kernel_rfl) (fun _ _ _ h=>h) (.inl ⟨rfl,fun w1 hS1=>?_⟩) hS ?_
  rotate_left
  ·have q1:=hS1
   go_simp
   first | rfl | (refine (if_neg (by omega)).trans ?_;rfl)
  simp only[Act.put,List.setIfInBounds_toArray,List.set_cons_zero,List.set_cons_succ,List.getElem_toArray,List.getElem_cons_succ,List.getElem_cons_zero]
  refine wpAnyH_take (i:=10) (v:=?_) rfl (by kernel_rfl) (by kernel_rfl) (by kernel_rfl) (fun _ _ _ h=>h) (.inl ⟨rfl,fun w1 hS1=>?_⟩) hS ?_
  rotate_left
  ·have q1:=hS1
   go_simp
   first | rfl | (refine (if_neg (by omega)).trans ?_;rfl)
  simp only[Act.put,List.setIfInBounds_toArray,List.set_cons_zero,List.set_cons_succ,List.getElem_toArray,List.getElem_cons_succ,List.getElem_cons_zero]
  refine wpAnyH_ready (rs:=[11]) (by kernel_rfl) (by simp) ?_
  refine AllReadyH.cons rfl (fun K hK=>?_) AllReadyH.nil
  go_simp
  refine hK _ _ trivial ?_
  clear hK K
  intro _
  try simp only[Act.put,List.setIfInBounds_toArray,List.set_cons_zero,List.set_cons_succ,List.getElem_toArray,List.getElem_cons_succ,List.getElem_cons_zero]
  refine wpAnyH_done (by kernel_rfl) ?_ _
  go_wp2
  go_end0
  exact⟨rfl,bs,_,_,_,_,HX.out.1,by simp,by simp,HX.out.2⟩
 ·go_simp
  refine hK _ _ trivial ?_
  clear hK K
  intro _
  try simp only[Act.put,List.setIfInBounds_toArray,List.set_cons_zero,List.set_cons_succ,List.getElem_toArray,List.getElem_cons_succ,List.getElem_cons_zero]
  refine wpAnyH_ready (rs:=[4,7]) (by kernel_rfl) (by simp) ?_
  refine (AllReadyH.cons rfl (fun K hK=>?_) (AllReadyH.cons rfl (fun K hK=>?_) AllReadyH.nil))
  ·go_simp
   refine hK _ _ trivial ?_
   clear hK K
   intro _
   try simp only[Act.put,List.setIfInBounds_toArray,List.set_cons_zero,List.set_cons_succ,List.getElem_toArray,List.getElem_cons_succ,List.getElem_cons_zero]
   refine wpAnyH_ready (rs:=[7]) (by kernel_rfl) (by simp) ?_
   refine AllReadyH.cons rfl (fun K hK=>?_) AllReadyH.nil
   go_simp
   refine hK _ _ trivial ?_
   clear hK K
   intro _
   try simp only[Act.put,List.setIfInBounds_toArray,List.set_cons_zero,List.set_cons_succ,List.getElem_toArray,List.getElem_cons_succ,List.getElem_cons_zero]
   refine wpAnyH_ready (rs:=[8]) (by kernel_rfl) (by simp) ?_
   refine AllReadyH.cons rfl (fun K hK=>?_) AllReadyH.nil
   refine oper_appendB (.tmp 102) (.tmp 105) 31 rfl _ _ _ rfl rfl Hr3.out ?_
   refine hK _ _ trivial ?_
   clear hK K
   intro _
   try simp only[Act.put,List.setIfInBounds_toArray,List.set_cons_zero,List.set_cons_succ,List.getElem_toArray,List.getElem_cons_succ,List.getElem_cons_zero]
   refine wpAnyH_take (i:=9) (v:=?_) rfl (by kernel_rfl) (by kernel_rfl) (by kernel_rfl) (fun _ _ _ h=>h) (.inl ⟨rfl,fun w1 hS1=>?_⟩) hS ?_
   rotate_left
   ·have q1:=hS1
    go_simp
    first | rfl | (refine (if_neg (by omega)).trans ?_;rfl)
   simp only[Act.put,List.setIfInBounds_toArray,List.set_cons_zero,List.set_cons_succ,List.getElem_toArray,List.getElem_cons_succ,List.getElem_cons_zero]
   refine wpAnyH_take (i:=10) (v:=?_) rfl (by kernel_rfl) (by kernel_rfl) (by kernel_rfl) (fun _ _ _ h=>h) (.inl ⟨rfl,fun w1 hS1=>?_⟩) hS ?_
   rotate_left
   ·have q1:=hS1
    go_simp
    first | rfl | (refine (if_neg (by omega)).trans ?_;rfl)
   simp only[Act.put,List.setIfInBounds_toArray,List.set_cons_zero,List.set_cons_succ,List.getElem_toArray,List.getElem_cons_succ,List.getElem_cons_zero]
   refine wpAnyH_ready (rs:=[11]) (by kernel_rfl) (by simp) ?_
   refine AllReadyH.cons rfl (fun K hK=>?_) AllReadyH.nil
   go_simp
   refine hK _ _ trivial ?_
   clear hK K
   intro _
   try simp only[Act.put,List.setIfInBounds_toArray,List.set_cons_zero,List.set_cons_succ,List.getElem_toArray,List.getElem_cons_succ,List.getElem_cons_zero]
   refine wpAnyH_done (by kernel_rfl) ?_ _
   go_wp2
   go_end0
   exact⟨rfl,bs,_,_,_,_,HX.out.1,by simp,by simp,HX.out.2⟩
  ·go_simp
   refine hK _ _ trivial ?_
   clear hK K
   intro _
   try simp only[Act.put,List.setIfInBounds_toArray,List.set_cons_zero,List.set_cons_succ,List.getElem_toArray,List.getElem_cons_succ,List.getElem_cons_zero]
   refine wpAnyH_ready (rs:=[4]) (by kernel_rfl) (by simp) ?_
   refine AllReadyH.cons rfl (fun K hK=>?_) AllReadyH.nil
   go_simp
   refine hK _ _ trivial ?_
   clear hK K
   intro _
   try simp only[Act.put,List.setIfInBounds_toArray,List.set_cons_zero,List.set_cons_succ,List.getElem_toArray,List.getElem_cons_succ,List.getElem_cons_zero]
   refine wpAnyH_ready (rs:=[8]) (by kernel_rfl) (by simp) ?_
   refine AllReadyH.cons rfl (fun K hK=>?_) AllReadyH.nil
   refine oper_appendB (.tmp 102) (.tmp 105) 31 rfl _ _ _ rfl rfl Hr3.out ?_
   refine hK _ _ trivial ?_
   clear hK K
   intro _
   try simp only[Act.put,List.setIfInBounds_toArray,List.set_cons_zero,List.set_cons_succ,List.getElem_toArray,List.getElem_cons_succ,List.getElem_cons_zero]
   refine wpAnyH_take (i:=9) (v:=?_) rfl (by kernel_rfl) (by kernel_rfl) (by kernel_rfl) (fun _ _ _ h=>h) (.inl ⟨rfl,fun w1 hS1=>?_⟩) hS ?_
   rotate_left
   ·have q1:=hS1
    go_simp
    first | rfl | (refine (if_neg (by omega)).trans ?_;rfl)
   simp only[Act.put,List.setIfInBounds_toArray,List.set_cons_zero,List.set_cons_succ,List.getElem_toArray,List.getElem_cons_succ,List.getElem_cons_zero]
   refine wpAnyH_take (i:=10) (v:=?_) rfl (by kernel_rfl) (by kernel_rfl) (by kernel_rfl) (fun _ _ _ h=>h) (.inl ⟨rfl,fun w1 hS1=>?_⟩) hS ?_
   rotate_left
   ·have q1:=hS1
    go_simp
    first | rfl | (refine (if_neg (by omega)).trans ?_;rfl)
   simp only[Act.put,List.setIfInBounds_toArray,List.set_cons_zero,List.set_cons_succ,List.getElem_toArray,List.getElem_cons_succ,List.getElem_cons_zero]
   refine wpAnyH_ready (rs:=[11]) (by kernel_rfl) (by simp) ?_
   refine AllReadyH.cons rfl (fun K hK=>?_) AllReadyH.nil
   go_simp
   refine hK _ _ trivial ?_
   clear hK K
   intro _
   try simp only[Act.put,List.setIfInBounds_toArray,List.set_cons_zero,List.set_cons_succ,List.getElem_toArray,List.getElem_cons_succ,List.getElem_cons_zero]
   refine wpAnyH_done (by kernel_rfl) ?_ _
   go_wp2
   go_end0
   exact⟨rfl,bs,_,_,_,_,HX.out.1,by simp,by simp,HX.out.2⟩
theorem ownG_else (w0 W:World) (b:Nat) (cc:Nat→Value) (ms:Value) (bs:ByteArray) (r d:Value) (xs ys:List Value) (k a b':Int) (s t u:ByteArray) (h:ScG w0 W b cc ms bs r d xs ys) (hk:k<1) :
  Calls Tryz.prog 27 #[.pointer (some ⟨b,0,none⟩),opV k a b' s t u] W (OwnG w0 b cc ms W r d xs.length ys.length):=by
 unfold opV
 obtain⟨W1,hW1⟩:∃ W1,W.alloc (.cells #[.int .i64 k,.int .i64 a,.int .i64 b',.string s,.string t,.string u] 61)=W1:=⟨_,rfl⟩
 have F1:Fr [] W W1:=by rw[← hW1];exact (Fr.refl [] W).alloc _
 have k1:=World.alloc_heap_new W (.cells #[.int .i64 k,.int .i64 a,.int .i64 b',.string s,.string t,.string u] 61)
 rw[hW1] at k1
 have c0:W1.cell? ⟨W.heap.size,0,none⟩=some (.int .i64 k):=by unfold World.cell?;rw[k1];rfl
 have q1:(k==1)=false:=by simp;omega
 have q2:(k==2)=false:=by simp;omega
 have q3:(k==3)=false:=by simp;omega
 have q4:(k==4)=false:=by simp;omega
 have q5:(k==5)=false:=by simp;omega
 have q6:(k==6)=false:=by simp;omega
 have q7:(k==7)=false:=by simp;omega
 have h1:=h.keep F1
 have HX:Hid _:=h1
 have HF:Hid (Fr [] W W1):=F1
 clear h h1 F1 k1
 go_enter Tryz.func27,Tryz.ntmps27
 go_wp2
 go_end0
 exact⟨rfl,bs,r,d,xs,ys,HX.out,by omega,by omega,OwK.fr HF.out⟩
theorem ownG_mar0 (w0 W:World) (b:Nat) (cc:Nat→Value) (ms:Value) (bs:ByteArray) (r d:Value) (xs ys:List Value) (a b':Int) (s t u:ByteArray) (h:ScG w0 W b cc ms bs r d xs ys) (h0:bs.size=0) :
  Calls Tryz.prog 27 #[.pointer (some ⟨b,0,none⟩),opV 3 a b' s t u] W (OwnG w0 b cc ms W r d xs.length ys.length):=by
 unfold opV
 have Ha:=h.keep ((Fr.refl [] W).alloc (Obj.cells #[.int .i64 3,.int .i64 a,.int .i64 b',.string s,.string t,.string u] 61))
 have d1:=Ha.c1
 have Hf:Hid _:=Ha
 have HF1:Hid (Fr [] W (W.alloc (Obj.cells #[.int .i64 3,.int .i64 a,.int .i64 b',.string s,.string t,.string u] 61))):=(Fr.refl [] W).alloc _
 clear h Ha
 go_enter Tryz.func27,Tryz.ntmps27
 go_wp2
 go_end0
 exact⟨rfl,bs,r,d,xs,ys,Hf.out,by omega,by omega,OwK.fr HF1.out⟩
theorem ownG_mar1 (w0 W:World) (b:Nat) (cc:Nat→Value) (ms:Value) (bs:ByteArray) (r d:Value) (xs ys:List Value) (a b':Int) (s t u:ByteArray) (h:ScG w0 W b cc ms bs r d xs ys) (h0:0<bs.size) (ha0:-9223372036854775808≤a) (ha1:a≤9223372036854775807) (hb0:-9223372036854775808≤b') (hb1:b'≤9223372036854775807) :
  Calls Tryz.prog 27 #[.pointer (some ⟨b,0,none⟩),opV 3 a b' s t u] W (OwnG w0 b cc ms W r d xs.length ys.length):=by
 unfold opV
 have hs:=h.sz
 have hm:Tryz.prog.follows .mixedOrders=true:=by kernel_rfl
 have Ha:=h.keep ((Fr.refl [] W).alloc (Obj.cells #[.int .i64 3,.int .i64 a,.int .i64 b',.string s,.string t,.string u] 61))
 have d1:=Ha.c1
 have g1:(0:Int)<bs.size:=by omega
 have Hf:Hid _:=Ha
 have HF1:Hid (Fr [] W (W.alloc (Obj.cells #[.int .i64 3,.int .i64 a,.int .i64 b',.string s,.string t,.string u] 61))):=(Fr.refl [] W).alloc _
 clear h Ha
 go_enter Tryz.func27,Tryz.ntmps27
 go_wp2
 have k1:(W.alloc (Obj.cells #[.int .i64 3,.int .i64 a,.int .i64 b',.string s,.string t,.string u] 61)).cell? ⟨W.heap.size,1,none⟩=some (.int .i64 a):=by simp
 have k2:(W.alloc (Obj.cells #[.int .i64 3,.int .i64 a,.int .i64 b',.string s,.string t,.string u] 61)).cell? ⟨W.heap.size,2,none⟩=some (.int .i64 b'):=by simp
 generalize (W.alloc (Obj.cells #[.int .i64 3,.int .i64 a,.int .i64 b',.string s,.string t,.string u] 61))=W1 at *
 generalize W.heap.size=ob at *
 have hob:=lt_of_cell k1
 obtain⟨Wb,cap,hr,fb,hcap,hcl,hfz⟩:=bytesC_of W1 bs
 rw[hr]
 simp only[Result.andThen]
 rw[Oper.upon_value]
 obtain⟨y8,hy⟩:=a_byte (IntKind.u8.wrap b') (by rw[IntKind.wrap_u8];omega) (by rw[IntKind.wrap_u8];omega)
 obtain⟨gb,hgb⟩:∃ g,W1.heap.size=g:=⟨_,rfl⟩
 rw[hgb] at hcl hfz
 have j1:=(fb.cell (p:=⟨ob,1,none⟩) hob (by simp)).trans k1
 have j2:=(fb.cell (p:=⟨ob,2,none⟩) hob (by simp)).trans k2
 have hbs:bs.data.toList.length=bs.size:=by cases bs;rfl
 have Hc:Hid _:=hcl
 have Hz:Hid _:=hfz
 have Hy:Hid _:=hy
 have Hpk:Hid _:=fun W=>pickC_any a bs.size W h0 ha0 ha1 (by omega)
 clear hr hcl hfz hy k1 k2
 rw[hgb]
 go_wp2
 refine wp_region_heldD (fun w1:World=>w1.cell? ⟨ob,1,none⟩=some (.int .i64 a)∧w1.cell? ⟨ob,2,none⟩=some (.int .i64 b')) hm ?_
 have hS:(fun w1:World=>w1.cell? ⟨ob,1,none⟩=some (.int .i64 a)∧w1.cell? ⟨ob,2,none⟩=some (.int .i64 b')) Wb.drew:=⟨j1,j2⟩
 refine wpAnyH_take (i:=0) (v:=?_) rfl (by kernel_rfl) (by kernel_rfl) (by kernel_rfl) (fun _ _ _ h=>h) (.inl ⟨rfl,fun w1 hS1=>?_⟩) hS ?_
 rotate_left
 ·obtain⟨q1,q2⟩:=hS1
  go_simp
  rfl
 simp only[Act.put,List.setIfInBounds_toArray,List.set_cons_zero,List.set_cons_succ]
 refine wpAnyH_take (i:=1) (v:=?_) rfl (by kernel_rfl) (by kernel_rfl) (by kernel_rfl) (fun _ _ _ h=>h) (.inl ⟨rfl,fun w1 hS1=>?_⟩) hS ?_
 rotate_left
 ·obtain⟨q1,q2⟩:=hS1
  go_simp
  rfl
 simp only[Act.put,List.setIfInBounds_toArray,List.set_cons_zero,List.set_cons_succ]
 refine wpAnyH_take (i:=2) (v:=?_) rfl (by kernel_rfl) (by kernel_rfl) (by kernel_rfl) (fun _ _ _ h=>h) (.inl ⟨rfl,fun w1 hS1=>?_⟩) hS ?_
 rotate_left
 ·obtain⟨q1,q2⟩:=hS1
  go_simp
  rfl
 simp only[Act.put,List.setIfInBounds_toArray,List.set_cons_zero,List.set_cons_succ]
 refine wpAnyH_take (i:=3) (v:=?_) rfl (by kernel_rfl) (by kernel_rfl) (by kernel_rfl) (fun _ _ _ h=>h) (.inl ⟨rfl,fun w1 hS1=>?_⟩) hS ?_
 rotate_left
 ·obtain⟨q1,q2⟩:=hS1
  go_simp
  rfl
 simp only[Act.put,List.setIfInBounds_toArray,List.set_cons_zero,List.set_cons_succ]
 refine wpAnyH_take (i:=4) (v:=?_) rfl (by kernel_rfl) (by kernel_rfl) (by kernel_rfl) (fun _ _ _ h=>h) (.inl ⟨rfl,fun w1 hS1=>?_⟩) hS ?_
 rotate_left
 ·obtain⟨q1,q2⟩:=hS1
  go_simp
  rfl
 simp only[Act.put,List.setIfInBounds_toArray,List.set_cons_zero,List.set_cons_succ]
 refine wpAnyH_take (i:=6) (v:=?_) rfl (by kernel_rfl) (by kernel_rfl) (by kernel_rfl) (fun _ _ _ h=>h) (.inl ⟨rfl,fun w1 hS1=>?_⟩) hS ?_
 rotate_left
 ·obtain⟨q1,q2⟩:=hS1
  go_simp
  rfl
 simp only[Act.put,List.setIfInBounds_toArray,List.set_cons_zero,List.set_cons_succ]
 refine wpAnyH_take (i:=7) (v:=?_) rfl (by kernel_rfl) (by kernel_rfl) (by kernel_rfl) (fun _ _ _ h=>h) (.inl ⟨rfl,fun w1 hS1=>?_⟩) hS ?_
 rotate_left
 ·obtain⟨q1,q2⟩:=hS1
  go_simp
  rfl
 simp only[Act.put,List.setIfInBounds_toArray,List.set_cons_zero,List.set_cons_succ]
 refine wpAnyH_take (i:=8) (v:=?_) rfl (by kernel_rfl) (by kernel_rfl) (by kernel_rfl) (fun _ _ _ h=>h) (.inl ⟨rfl,fun w1 hS1=>?_⟩) hS ?_
 rotate_left
 ·obtain⟨q1,q2⟩:=hS1
  go_simp
  rfl
 simp only[Act.put,List.setIfInBounds_toArray,List.set_cons_zero,List.set_cons_succ]
 refine wpAnyH_ready (rs:=[5]) (by kernel_rfl) (by simp) ?_
 refine AllReadyH.cons rfl (fun K hK=>?_) AllReadyH.nil
 go_simp
 refine (Hpk.out _).mono ?_
 rintro e wz ⟨⟨k,hk,rfl⟩,rfl⟩
 refine hK _ _ ⟨j1,j2⟩ ?_
 clear hK K
 intro _
 have c1:Wb.drew.cell? ⟨gb,k,none⟩=some (.int .u8 ((bs.data.toList[k]'(by omega)).toNat:Int)):=Hc.out k (by omega)
 have c2:Wb.drew.frozen? ⟨gb,k,none⟩=false:=Hz.out k hk
 have gk:(k:Int)<bs.size:=by omega
 refine wpAnyH_ready (rs:=[9]) (by kernel_rfl) (by simp) ?_
 refine AllReadyH.cons rfl (fun K hK=>?_) AllReadyH.nil
 go_simp
 refine hK _ _ ⟨j1,j2⟩ ?_
 clear hK K
 intro _
 refine wpAnyH_ready (rs:=[10]) (by kernel_rfl) (by simp) ?_
 refine AllReadyH.cons rfl (fun K hK=>?_) AllReadyH.nil
 have hne:ob≠gb:=by omega
 go_simp
 refine hK _ _ ⟨(setCell_far' (fun e=>hne e.symm)).trans j1,(setCell_far' (fun e=>hne e.symm)).trans j2⟩ ?_
 clear hK K
 intro _
 refine wpAnyH_done (by kernel_rfl) ?_ _
 have fWc:Fr [] W1 (Wb.setCell ⟨gb,k,none⟩ (.int .u8 (IntKind.u8.wrap b'))).drew:=(fb.setCell (p:=⟨gb,k,none⟩) (.inr (by simp;omega)) _).drew
 have hcells:∀ j (hj:j<(bs.data.toList.set k y8).length),(Wb.setCell ⟨gb,k,none⟩ (.int .u8 (IntKind.u8.wrap b'))).drew.cell? ⟨gb,j,none⟩=some (.int .u8 (((bs.data.toList.set k y8)[j]).toNat:Int)):=by
  intro j hj
  have hj':j<bs.data.toList.length:=by simpa using hj
  by_cases e:k=j
  ·subst e
   show (Wb.setCell ⟨gb,k,none⟩ (.int .u8 (IntKind.u8.wrap b'))).cell? ⟨gb,k,none⟩=_
   rw[World.cell?_setCell_same' _ _ _ (by rw[show Wb.cell? ⟨gb,k,none⟩=_ from c1];rfl),← Hy.out]
   simp
  ·show (Wb.setCell ⟨gb,k,none⟩ (.int .u8 (IntKind.u8.wrap b'))).cell? ⟨gb,j,none⟩=_
   rw[setCell_off e,Hc.out j hj',List.getElem_set_ne e]
 have hll:(bs.data.toList.set k y8).length=bs.size:=by rw[List.length_set,hbs]
 generalize (Wb.setCell ⟨gb,k,none⟩ (.int .u8 (IntKind.u8.wrap b'))).drew=Wc at *
 have hcv:=convC_bytes Wc gb cap bs.size (bs.data.toList.set k y8) hll hcells
 have Hcv:Hid _:=hcv
 have hl2:(⟨(bs.data.toList.set k y8).toArray⟩:ByteArray).size≤9223372036854775807:=by
  have:(⟨(bs.data.toList.set k y8).toArray⟩:ByteArray).size=(bs.data.toList.set k y8).length:=rfl
  omega
 have I2:=Hf.out.keep fWc
 have HG:Hid (Fr [] W Wc):=HF1.out.trans fWc
 have HF:Hid _:=I2.bytes ⟨(bs.data.toList.set k y8).toArray⟩ hl2
 have d1c:=I2.c1
 have z1c:=I2.fz 1 (by decide)
 clear I2 hcv hcells hl2 hll c1 c2 Hc Hz Hy Hf d1 j1 j2
 go_wp2
 rw[Hcv.out]
 simp only[Result.andThen]
 rw[Oper.upon_value]
 go_wp2
 go_end0
 exact⟨rfl,_,r,d,xs,ys,HF.out,by omega,by omega,(OwK.fr HG.out).set⟩
end Go.Proofs.YtclkgoigmgkffaaGreatDoor
