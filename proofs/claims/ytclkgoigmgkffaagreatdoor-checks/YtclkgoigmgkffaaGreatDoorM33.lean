/-
  Texts Jn.
-/
import Derived.Test.YtclkgoigmgkffaaGreatDoorMA
import Derived.Test.YtclkgoigmgkffaaGreatDoorM32
import Derived.Test.YtclkgoigmgkffaaGreatDoorM27
set_option linter.unusedSimpArgs false
set_option linter.unusedVariables false
set_option maxRecDepth 100000
set_option maxHeartbeats 40000000
namespace Go.Proofs.YtclkgoigmgkffaaGreatDoor
open Go.RowKit
open Wire Flow Mach
theorem infoFl:(Tryz.prog.info? 179).map (fun i=>(i.zero,i.size))=some (some (.agg #[.slice none 0 0,.slice none 0 0,.int .i64 0,.int .i64 0,.slice none 0 0,.slice none 0 0,.slice none 0 0,.slice none 0 0,.bool false,.bool false]),10):=by kernel_rfl
theorem infoPt:(Tryz.prog.info? 181).map (fun i=>(i.zero,i.size,i.bytes))=some (some (.pointer none),1,8):=by kernel_rfl
theorem mkPtrs (n:Nat)(hn:n≤100000)(W:World):(Instr.makeSlice 176 (.int .i64 (n:Int)) (.int .i64 (n:Int))).run Tryz.prog W=.ok (.slice (some ⟨W.heap.size,0,none⟩) n n) (W.alloc (.cells (madeCells #[.pointer none] n) 181)):=by
 obtain⟨i0,hi,hz0,hz1,hz2⟩:=info_parts infoPt
 have:=run_make (P:=Tryz.prog) W 176 181 i0 (.pointer none) Tryz.underlying176 hi hz0 .i64 .i64 n n (by omega) (by omega) (by rw[hz2];omega) (by omega)
 simp only[Int.toNat_natCast,hz1,Nat.mul_one] at this
 exact this
theorem oper_makeB {o:Oper}{a:Act}{w w':World}{K:Act→World→Prop}{Q:Exit→Act→World→Prop} (t:TypeId) (x y:Operand) (ho:o.op=.makeSlice t x y) (u v r:Value) (hx:a.eval x=u) (hy:a.eval y=v) (hrun:(Instr.makeSlice t u v).run Tryz.prog w=.ok r w')
  (h:K (a.put o.dst r) w'):o.wp Tryz.prog a w K Q:=by
 unfold Oper.wp execOp
 simp only[ho,Sem.run_bind,Sem.run_pure,Result.andThen_ok,hx,hy,hrun]
 exact h
theorem floC_start {W:World}{B fb kb qb n:Nat}{tv pv gv arv mf av:Value} (hfb:W.heap[fb]?=some (.cells #[tv,pv,gv,arv,mf,av,.slice (some ⟨kb,0,none⟩) n n,.slice (some ⟨qb,0,none⟩) n n,.bool false,.bool false] 179))
  (hkb:W.heap[kb]?=some (.cells (madeCells #[.pointer none] n) 181)) (hqb:W.heap[qb]?=some (.cells (madeCells #[.bool false] n) 4)) (n1:fb≠kb) (n2:fb≠qb) (n3:kb≠qb) (b1:B≤fb) (b2:B≤kb) (b3:B≤qb) :
  FloC W B fb kb qb n av mf (List.replicate n none) (List.replicate n false) false false (fun _=>0):=by
 have ef:∀ j,W.cell? ⟨fb,j,none⟩=(#[tv,pv,gv,arv,mf,av,.slice (some ⟨kb,0,none⟩) n n,.slice (some ⟨qb,0,none⟩) n n,.bool false,.bool false]:Array Value)[j]?:=fun j=>by unfold World.cell?;rw[hfb];simp
 have hm:∀ (z:Value) (k:Nat),k<n→(madeCells #[z] n)[k]?=some z:=fun z k hk=>by rw[← Array.getElem?_toList,toList_madeCells_one,List.getElem?_replicate,if_pos hk]
 have hno:∀ (i:Nat) (s:List Nat),(List.replicate n (none:Option (List Nat)))[i]?=some (some s)→False:=fun i s h=>by
  rw[List.getElem?_replicate] at h
  split at h <;> cases h
 have hl:∀ {α:Type}{z x:α}{i:Nat},(List.replicate n z)[i]?=some x→x=z∧i<n:=fun {α z x i} h=>by
  rw[List.getElem?_replicate] at h
  split at h
  ·cases h;exact⟨rfl,by assumption⟩
  ·cases h
 refine⟨by rw[ef];rfl,by rw[ef];rfl,by rw[ef];rfl,by rw[ef];rfl,by rw[ef];rfl,by rw[ef];rfl,by simp,by simp,fun i hi=>?_,fun i s hi=>(hno i s hi).elim,fun i j s t hi=>(hno i s hi).elim,fun i b hi=>?_,fun i=>?_,fun i=>?_,fun i=>?_,n1,n2,n3,b1,b2,b3,(Age.1 hkb).1,(Age.1 hqb).1,fun i s hi=>(hno i s hi).elim⟩
 ·unfold World.cell?
  rw[hkb]
  exact hm _ i (hl hi).2
 ·obtain⟨rfl,h2⟩:=hl hi
  unfold World.cell?
  rw[hqb]
  exact hm _ i h2
 ·unfold World.frozen?;rw[hfb];simp
 ·unfold World.frozen?;rw[hkb];simp
 ·unfold World.frozen?;rw[hqb];simp
def LpP (par:Nat→Nat) (l:List Stp) (B fb kb qb n:Nat) (av mf:Value) (wc:World) (gk:Nat) (W:World):Prop:=
 FrB B wc W∧∃ G Q more wrong P,FloC W B fb kb qb n av mf G Q more wrong P∧((wrong=true∧¬ Flow.Safe par l)∨(wrong=false∧FSt par l G Q∧(more=false→∀ j:Nat,j<n→Q[j]?≠some true)∧2*leftB G+more.toNat≤gk))
theorem abG_none (n:Nat):abG (List.replicate n none)=List.replicate n none:=by simp[abG]
theorem fst_start {par:Nat→Nat}{l:List Stp}{n:Nat} (hln:l.length=n) {G:List (Option (List Nat))}{Q:List Bool}{more:Bool} (g:GoAll (List.replicate n none) (List.replicate n false) false 0 [] G Q more):FSt par l G Q:=by
 have h0:0<n:=by have:=g.hk;simpa using this
 refine⟨?_,?_,fun j hj=>?_,?_⟩
 ·rw[g.lay,abG_none]
  have:=Low.start par l
  rw[hln] at this
  exact this
 ·rw[g.lay,abG_none]
  exact start_first h0
 ·have:=(g.no j hj).2
  have hx:G[j]?=some none:=by
   rw[this,List.getElem?_replicate,if_pos]
   have h1:=(Lgs.1 hj).1
   rw[g.ql] at h1
   simpa using h1
  exact Done.of_none (by rw[abG_get,hx];rfl)
 ·refine g.known (fun j hj=>?_)
  rw[List.getElem?_replicate] at hj
  split at hj <;> cases hj
theorem fst_end {par:Nat→Nat}{l:List Stp}{n:Nat} (hln:l.length=n) {G:List (Option (List Nat))}{Q:List Bool} (h:FSt par l G Q) (hgl:G.length=n) (hql:Q.length=n) (hq:∀ j:Nat,j<n→Q[j]?≠some true):Flow.Safe par l:=by
 refine safe_of_done (G:=abG G) (by rw[abG_length];omega) h.z (fun j hj=>h.done j ?_)
 have hj':j<Q.length:=by omega
 rw[Lge hj']
 have:=hq j (by omega)
 rw[Lge hj'] at this
 cases hx:Q[j] with
 | false=>rfl
 | true=>rw[hx] at this;exact absurd rfl this
def CouP (par:Nat→Nat) (l:List Stp) (e:Ending):Prop:=∃ b,e=.returned (.bool b)∧(b=true↔¬ Flow.Safe par l)
theorem could_any (w:World)(ta pa:Option Addr)(tn tc pn pc:Nat)(m:Mo)(gf off nf cap n acap:Nat)(aa:Option Addr)(hn:n≤100000)(l:List Stp)(T:List Nat)(hln:l.length=n)(hA:0<n→∃ ga,aa=some ⟨ga,0,none⟩∧ga<w.heap.size∧InsM w ga l T)(hJ:Joined l T n)
  (hnf:nf=m.fns.length) (hpar:∀ a,a<nf→w.cell? ⟨gf,off+a*3,none⟩=some (.int .i64 (parOf m a:Nat))∧parOf m a≤8) (hgf:gf<w.heap.size) (hnf2:nf≤1000) (hok:∀ s ∈ l,StpOk m s) :
  Calls Tryz.prog 41 #[.agg #[.slice ta tn tc,.slice pa pn pc,.int .i64 m.globs,.int .i64 m.arrs,.slice (some ⟨gf,off,none⟩) nf cap],.slice aa n acap] w fun e w'=>CouP (parOf m) l e∧Fr [] w w':=by
 have HALL:Hid _:=AI hln (AI hA (AI hJ (AI hnf (AI hpar (AI hgf (AI hnf2 hok))))))
 clear hln hA hJ hnf hpar hgf hnf2 hok
 have hm:Tryz.prog.follows Departure.mixedOrders=true:=by kernel_rfl
 obtain⟨W0,hW0⟩:∃ W0,w.alloc (.cells #[.slice ta tn tc,.slice pa pn pc,.int .i64 m.globs,.int .i64 m.arrs,.slice (some ⟨gf,off,none⟩) nf cap] 30)=W0:=⟨_,rfl⟩
 have F0:Fr [] w W0:=by rw[← hW0];exact (Fr.refl [] w).alloc _
 have k0:=wan w (.cells #[.slice ta tn tc,.slice pa pn pc,.int .i64 m.globs,.int .i64 m.arrs,.slice (some ⟨gf,off,none⟩) nf cap] 30)
 rw[hW0] at k0
 have kl:=(Age.1 k0).1
 have hSt:∀ W,Fr [] W0 W→(fun w1:World=>w1.cell? ⟨w.heap.size,0,none⟩=some (.slice ta tn tc)∧w1.cell? ⟨w.heap.size,1,none⟩=some (.slice pa pn pc)∧w1.cell? ⟨w.heap.size,2,none⟩=some (.int .i64 m.globs)∧w1.cell? ⟨w.heap.size,3,none⟩=some (.int .i64 m.arrs)∧w1.cell? ⟨w.heap.size,4,none⟩=some (.slice (some ⟨gf,off,none⟩) nf cap)) W:=fun W hW=>by
  have e1:∀ j v,(#[.slice ta tn tc,.slice pa pn pc,.int .i64 m.globs,.int .i64 m.arrs,.slice (some ⟨gf,off,none⟩) nf cap]:Array Value)[j]?=some v→W.cell? ⟨w.heap.size,j,none⟩=some v:=fun j v hv=>by
   unfold World.cell?
   rw[hW.block _ kl (by simp),k0]
   exact hv
  exact⟨e1 0 _ rfl,e1 1 _ rfl,e1 2 _ rfl,e1 3 _ rfl,e1 4 _ rfl⟩
 have HSt:Hid _:=hSt
 have HF0:Hid _:=AI F0 kl
 clear hSt k0 F0 kl
 go_enter Tryz.func41,Tryz.ntmps41
 go_upto_region 1 with fail
 go_cut[5] from 6 to 14 (fun x wx=>∃ fb kb qb:Nat,x=.pointer (some ⟨fb,0,none⟩)∧Fr [] w wx∧FloC wx w.heap.size fb kb qb n (.slice aa n acap) (.slice (some ⟨gf,off,none⟩) nf cap) (List.replicate n none) (List.replicate n false) false false (fun _=>0))
 case first=>
  refine wp_region_heldD (fun w1:World=>w1.cell? ⟨w.heap.size,0,none⟩=some (.slice ta tn tc)∧w1.cell? ⟨w.heap.size,1,none⟩=some (.slice pa pn pc)∧w1.cell? ⟨w.heap.size,2,none⟩=some (.int .i64 m.globs)∧w1.cell? ⟨w.heap.size,3,none⟩=some (.int .i64 m.arrs)∧w1.cell? ⟨w.heap.size,4,none⟩=some (.slice (some ⟨gf,off,none⟩) nf cap)) hm ?_
  have hS:(fun w1:World=>w1.cell? ⟨w.heap.size,0,none⟩=some (.slice ta tn tc)∧w1.cell? ⟨w.heap.size,1,none⟩=some (.slice pa pn pc)∧w1.cell? ⟨w.heap.size,2,none⟩=some (.int .i64 m.globs)∧w1.cell? ⟨w.heap.size,3,none⟩=some (.int .i64 m.arrs)∧w1.cell? ⟨w.heap.size,4,none⟩=some (.slice (some ⟨gf,off,none⟩) nf cap)) W0.drew:=HSt.out W0.drew (Fr.refl [] W0).drew
  refine wpAnyH_take (i:=0) (v:=.agg #[.slice ta tn tc,.slice pa pn pc,.int .i64 m.globs,.int .i64 m.arrs,.slice (some ⟨gf,off,none⟩) nf cap]) rfl (by kernel_rfl) (by kernel_rfl) (by kernel_rfl) (fun _ _ _ h=>h) (.inl ⟨rfl,fun w1 hS1=>?_⟩) hS ?_
  ·obtain⟨p0,p1,p2,p3,p4⟩:=hS1
   go_simp
   (try rfl)
  simp only[Act.put,Z1,Z2,Z3,Z4,Z5,Z6]
  refine tkH (i:=1) (v:=?_) rfl (.inl ⟨rfl,fun w1 hS1=>?_⟩) hS ?_
  rotate_left
  ·obtain⟨p0,p1,p2,p3,p4⟩:=hS1
   go_simp
   first | rfl | (refine (if_neg (by omega)).trans ?_;rfl)
  simp only[Act.put,Z1,Z2,Z3,Z4,Z5,Z6]
  refine tkH (i:=2) (v:=?_) rfl (.inl ⟨rfl,fun w1 hS1=>?_⟩) hS ?_
  rotate_left
  ·obtain⟨p0,p1,p2,p3,p4⟩:=hS1
   go_simp
   first | rfl | (refine (if_neg (by omega)).trans ?_;rfl)
  simp only[Act.put,Z1,Z2,Z3,Z4,Z5,Z6]
  refine tkH (i:=3) (v:=?_) rfl (.inl ⟨rfl,fun w1 hS1=>?_⟩) hS ?_
  rotate_left
  ·obtain⟨p0,p1,p2,p3,p4⟩:=hS1
   go_simp
   first | rfl | (refine (if_neg (by omega)).trans ?_;rfl)
  simp only[Act.put,Z1,Z2,Z3,Z4,Z5,Z6]
  refine tkH (i:=5) (v:=?_) rfl (.inl ⟨rfl,fun w1 hS1=>?_⟩) hS ?_
  rotate_left
  ·obtain⟨p0,p1,p2,p3,p4⟩:=hS1
   go_simp
   first | rfl | (refine (if_neg (by omega)).trans ?_;rfl)
  simp only[Act.put,Z1,Z2,Z3,Z4,Z5,Z6]
  refine tkH (i:=6) (v:=?_) rfl (.inl ⟨rfl,fun w1 hS1=>?_⟩) hS ?_
  rotate_left
  ·obtain⟨p0,p1,p2,p3,p4⟩:=hS1
   go_simp
   first | rfl | (refine (if_neg (by omega)).trans ?_;rfl)
  simp only[Act.put,Z1,Z2,Z3,Z4,Z5,Z6]
  obtain⟨WD,hWD⟩:∃ WD,W0.drew=WD:=⟨_,rfl⟩
  have FD:Fr [] W0 WD:=by rw[← hWD];exact (Fr.refl [] W0).drew
  rw[hWD]
  rw[hWD] at hS
  have hDs:WD.heap.size=W0.heap.size:=by rw[← hWD];rfl
  obtain⟨hz1,hi1⟩:=zero_of_info infoFl
  have hw0:w.heap.size<W0.heap.size:=HF0.out.2
  clear hW0 hWD hS
  refine wpAnyH_ready (rs:=[4,7,9]) (by kernel_rfl) (by simp) ?_
  refine (AllReadyH.cons rfl (fun K hK=>?_) (AllReadyH.cons rfl (fun K hK=>?_) (AllReadyH.cons rfl (fun K hK=>?_) AllReadyH.nil)))
  ·refine oper_makeB 176 (.tmp 9) (.tmp 9) rfl _ _ _ rfl rfl (mkPtrs n hn _) ?_
   obtain⟨W1,hW1⟩:∃ W1,WD.alloc (.cells (madeCells #[.pointer none] n) 181)=W1:=⟨_,rfl⟩
   rw[hW1]
   have k4:=wan WD (.cells (madeCells #[.pointer none] n) 181)
   rw[hW1] at k4
   have GW1:Fr [] WD W1:=by rw[← hW1];exact (Fr.refl [] WD).alloc _
   have FW1:=FD.trans GW1
   have sW1:W1.heap.size=WD.heap.size+1:=by rw[← hW1];simp
   refine hK _ _ (HSt.out _ FW1) ?_
   clear hK K
   intro _
   simp only[Act.put,Z1,Z2,Z3,Z4,Z5,Z6]
   refine wpAnyH_ready (rs:=[7,9]) (by kernel_rfl) (by simp) ?_
   refine (AllReadyH.cons rfl (fun K hK=>?_) (AllReadyH.cons rfl (fun K hK=>?_) AllReadyH.nil))
   ·refine oper_makeB 177 (.tmp 12) (.tmp 12) rfl _ _ _ rfl rfl (mkBools n hn _) ?_
    obtain⟨W2,hW2⟩:∃ W2,W1.alloc (.cells (madeCells #[.bool false] n) 4)=W2:=⟨_,rfl⟩
    rw[hW2]
    have k7:=wan W1 (.cells (madeCells #[.bool false] n) 4)
    rw[hW2] at k7
    have GW2:Fr [] W1 W2:=by rw[← hW2];exact (Fr.refl [] W1).alloc _
    have FW2:=FW1.trans GW2
    have sW2:W2.heap.size=W1.heap.size+1:=by rw[← hW2];simp
    replace k4:=(GW2.block _ (by omega) (by simp)).trans k4
    refine hK _ _ (HSt.out _ FW2) ?_
    clear hK K
    intro _
    simp only[Act.put,Z1,Z2,Z3,Z4,Z5,Z6]
    have hSW2:=HSt.out _ FW2
    refine wpAnyH_take (i:=8) (v:=.agg #[.slice ta tn tc,.slice pa pn pc,.int .i64 m.globs,.int .i64 m.arrs,.slice (some ⟨gf,off,none⟩) nf cap,.slice aa n acap,.slice (some ⟨WD.heap.size,0,none⟩) n n,.slice (some ⟨W1.heap.size,0,none⟩) n n,.bool false,.bool false]) rfl (by kernel_rfl) (by kernel_rfl) (by kernel_rfl) (fun _ _ _ h=>h) (.inl ⟨rfl,fun w1 hS1=>?_⟩) hSW2 ?_
    ·obtain⟨p0,p1,p2,p3,p4⟩:=hS1
     go_simp
     (try rfl)
    simp only[Act.put,Z1,Z2,Z3,Z4,Z5,Z6]
    refine rdH (r:=9) ?_
    refine AllReadyH.cons rfl (fun K hK=>?_) AllReadyH.nil
    refine oper_allocB 179 rfl _ (hz1 _) ?_
    simp only[Value.cells]
    obtain⟨W3,hW3⟩:∃ W3,W2.alloc (.cells (#[.slice none 0 0,.slice none 0 0,.int .i64 0,.int .i64 0,.slice none 0 0,.slice none 0 0,.slice none 0 0,.slice none 0 0,.bool false,.bool false]) 179)=W3:=⟨_,rfl⟩
    rw[hW3]
    have k9:=wan W2 (.cells (#[.slice none 0 0,.slice none 0 0,.int .i64 0,.int .i64 0,.slice none 0 0,.slice none 0 0,.slice none 0 0,.slice none 0 0,.bool false,.bool false]) 179)
    rw[hW3] at k9
    have GW3:Fr [] W2 W3:=by rw[← hW3];exact (Fr.refl [] W2).alloc _
    have FW3:=FW2.trans GW3
    have sW3:W3.heap.size=W2.heap.size+1:=by rw[← hW3];simp
    replace k4:=(GW3.block _ (by omega) (by simp)).trans k4
    replace k7:=(GW3.block _ (by omega) (by simp)).trans k7
    refine hK _ _ (HSt.out _ FW3) ?_
    clear hK K
    intro _
    simp only[Act.put,Z1,Z2,Z3,Z4,Z5,Z6]
    refine rdH (r:=10) ?_
    refine AllReadyH.cons rfl (fun K hK=>?_) AllReadyH.nil
    refine oper_storeB 179 (.tmp 5) (.tmp 14) rfl rfl ⟨W2.heap.size,0,none⟩ rfl (.agg #[.slice ta tn tc,.slice pa pn pc,.int .i64 m.globs,.int .i64 m.arrs,.slice (some ⟨gf,off,none⟩) nf cap,.slice aa n acap,.slice (some ⟨WD.heap.size,0,none⟩) n n,.slice (some ⟨W1.heap.size,0,none⟩) n n,.bool false,.bool false]) rfl (run_storeVar_row _ _ 179 179 _ _ k9 (by rw[hi1];rfl) rfl (by simp[Value.oneCell'])) ?_
    obtain⟨WR,hWR⟩:∃ WR,W3.setRow W2.heap.size #[.slice ta tn tc,.slice pa pn pc,.int .i64 m.globs,.int .i64 m.arrs,.slice (some ⟨gf,off,none⟩) nf cap,.slice aa n acap,.slice (some ⟨WD.heap.size,0,none⟩) n n,.slice (some ⟨W1.heap.size,0,none⟩) n n,.bool false,.bool false]=WR:=⟨_,rfl⟩
    rw[hWR]
    have k10:=setRow_at (c':=#[.slice ta tn tc,.slice pa pn pc,.int .i64 m.globs,.int .i64 m.arrs,.slice (some ⟨gf,off,none⟩) nf cap,.slice aa n acap,.slice (some ⟨WD.heap.size,0,none⟩) n n,.slice (some ⟨W1.heap.size,0,none⟩) n n,.bool false,.bool false]) k9
    rw[hWR] at k10
    have k11:=(setRow_off (w:=W3) (g:=W2.heap.size) (c':=#[.slice ta tn tc,.slice pa pn pc,.int .i64 m.globs,.int .i64 m.arrs,.slice (some ⟨gf,off,none⟩) nf cap,.slice aa n acap,.slice (some ⟨WD.heap.size,0,none⟩) n n,.slice (some ⟨W1.heap.size,0,none⟩) n n,.bool false,.bool false]) (show WD.heap.size≠W2.heap.size by omega)).trans k4
    rw[hWR] at k11
    have k12:=(setRow_off (w:=W3) (g:=W2.heap.size) (c':=#[.slice ta tn tc,.slice pa pn pc,.int .i64 m.globs,.int .i64 m.arrs,.slice (some ⟨gf,off,none⟩) nf cap,.slice aa n acap,.slice (some ⟨WD.heap.size,0,none⟩) n n,.slice (some ⟨W1.heap.size,0,none⟩) n n,.bool false,.bool false]) (show W1.heap.size≠W2.heap.size by omega)).trans k7
    rw[hWR] at k12
    have FR:Fr [] W0 WR:=by rw[← hWR];exact setRow_fr FW3 (by omega)
    refine hK _ _ (HSt.out _ FR) ?_
    clear hK K
    intro _
    refine wpAnyH_done (by kernel_rfl) ?_ _
    have HFin:Hid _:=AI (floC_start (B:=w.heap.size) k10 k11 k12 (by omega) (by omega) (by omega) (by omega) (by omega) (by omega)) (HF0.out.1.trans FR)
    clear sW1 sW2 sW3 hDs hw0
    go_wp2_with fail
    go_meet
    exact⟨_,_,_,rfl,HFin.out.2,HFin.out.1⟩
   ·refine oper_allocB 179 rfl _ (hz1 _) ?_
    simp only[Value.cells]
    obtain⟨W2,hW2⟩:∃ W2,W1.alloc (.cells (#[.slice none 0 0,.slice none 0 0,.int .i64 0,.int .i64 0,.slice none 0 0,.slice none 0 0,.slice none 0 0,.slice none 0 0,.bool false,.bool false]) 179)=W2:=⟨_,rfl⟩
    rw[hW2]
    have k9:=wan W1 (.cells (#[.slice none 0 0,.slice none 0 0,.int .i64 0,.int .i64 0,.slice none 0 0,.slice none 0 0,.slice none 0 0,.slice none 0 0,.bool false,.bool false]) 179)
    rw[hW2] at k9
    have GW2:Fr [] W1 W2:=by rw[← hW2];exact (Fr.refl [] W1).alloc _
    have FW2:=FW1.trans GW2
    have sW2:W2.heap.size=W1.heap.size+1:=by rw[← hW2];simp
    replace k4:=(GW2.block _ (by omega) (by simp)).trans k4
    refine hK _ _ (HSt.out _ FW2) ?_
    clear hK K
    intro _
    simp only[Act.put,Z1,Z2,Z3,Z4,Z5,Z6]
    refine rdH (r:=7) ?_
    refine AllReadyH.cons rfl (fun K hK=>?_) AllReadyH.nil
    refine oper_makeB 177 (.tmp 12) (.tmp 12) rfl _ _ _ rfl rfl (mkBools n hn _) ?_
    obtain⟨W3,hW3⟩:∃ W3,W2.alloc (.cells (madeCells #[.bool false] n) 4)=W3:=⟨_,rfl⟩
    rw[hW3]
    have k7:=wan W2 (.cells (madeCells #[.bool false] n) 4)
    rw[hW3] at k7
    have GW3:Fr [] W2 W3:=by rw[← hW3];exact (Fr.refl [] W2).alloc _
    have FW3:=FW2.trans GW3
    have sW3:W3.heap.size=W2.heap.size+1:=by rw[← hW3];simp
    replace k4:=(GW3.block _ (by omega) (by simp)).trans k4
    replace k9:=(GW3.block _ (by omega) (by simp)).trans k9
    refine hK _ _ (HSt.out _ FW3) ?_
    clear hK K
    intro _
    simp only[Act.put,Z1,Z2,Z3,Z4,Z5,Z6]
    have hSW3:=HSt.out _ FW3
    refine wpAnyH_take (i:=8) (v:=.agg #[.slice ta tn tc,.slice pa pn pc,.int .i64 m.globs,.int .i64 m.arrs,.slice (some ⟨gf,off,none⟩) nf cap,.slice aa n acap,.slice (some ⟨WD.heap.size,0,none⟩) n n,.slice (some ⟨W2.heap.size,0,none⟩) n n,.bool false,.bool false]) rfl (by kernel_rfl) (by kernel_rfl) (by kernel_rfl) (fun _ _ _ h=>h) (.inl ⟨rfl,fun w1 hS1=>?_⟩) hSW3 ?_
    ·obtain⟨p0,p1,p2,p3,p4⟩:=hS1
     go_simp
     (try rfl)
    simp only[Act.put,Z1,Z2,Z3,Z4,Z5,Z6]
    refine rdH (r:=10) ?_
    refine AllReadyH.cons rfl (fun K hK=>?_) AllReadyH.nil
    refine oper_storeB 179 (.tmp 5) (.tmp 14) rfl rfl ⟨W1.heap.size,0,none⟩ rfl (.agg #[.slice ta tn tc,.slice pa pn pc,.int .i64 m.globs,.int .i64 m.arrs,.slice (some ⟨gf,off,none⟩) nf cap,.slice aa n acap,.slice (some ⟨WD.heap.size,0,none⟩) n n,.slice (some ⟨W2.heap.size,0,none⟩) n n,.bool false,.bool false]) rfl (run_storeVar_row _ _ 179 179 _ _ k9 (by rw[hi1];rfl) rfl (by simp[Value.oneCell'])) ?_
    obtain⟨WR,hWR⟩:∃ WR,W3.setRow W1.heap.size #[.slice ta tn tc,.slice pa pn pc,.int .i64 m.globs,.int .i64 m.arrs,.slice (some ⟨gf,off,none⟩) nf cap,.slice aa n acap,.slice (some ⟨WD.heap.size,0,none⟩) n n,.slice (some ⟨W2.heap.size,0,none⟩) n n,.bool false,.bool false]=WR:=⟨_,rfl⟩
    rw[hWR]
    have k10:=setRow_at (c':=#[.slice ta tn tc,.slice pa pn pc,.int .i64 m.globs,.int .i64 m.arrs,.slice (some ⟨gf,off,none⟩) nf cap,.slice aa n acap,.slice (some ⟨WD.heap.size,0,none⟩) n n,.slice (some ⟨W2.heap.size,0,none⟩) n n,.bool false,.bool false]) k9
    rw[hWR] at k10
    have k11:=(setRow_off (w:=W3) (g:=W1.heap.size) (c':=#[.slice ta tn tc,.slice pa pn pc,.int .i64 m.globs,.int .i64 m.arrs,.slice (some ⟨gf,off,none⟩) nf cap,.slice aa n acap,.slice (some ⟨WD.heap.size,0,none⟩) n n,.slice (some ⟨W2.heap.size,0,none⟩) n n,.bool false,.bool false]) (show WD.heap.size≠W1.heap.size by omega)).trans k4
    rw[hWR] at k11
    have k12:=(setRow_off (w:=W3) (g:=W1.heap.size) (c':=#[.slice ta tn tc,.slice pa pn pc,.int .i64 m.globs,.int .i64 m.arrs,.slice (some ⟨gf,off,none⟩) nf cap,.slice aa n acap,.slice (some ⟨WD.heap.size,0,none⟩) n n,.slice (some ⟨W2.heap.size,0,none⟩) n n,.bool false,.bool false]) (show W2.heap.size≠W1.heap.size by omega)).trans k7
    rw[hWR] at k12
    have FR:Fr [] W0 WR:=by rw[← hWR];exact setRow_fr FW3 (by omega)
    refine hK _ _ (HSt.out _ FR) ?_
    clear hK K
    intro _
    refine wpAnyH_done (by kernel_rfl) ?_ _
    have HFin:Hid _:=AI (floC_start (B:=w.heap.size) k10 k11 k12 (by omega) (by omega) (by omega) (by omega) (by omega) (by omega)) (HF0.out.1.trans FR)
    clear sW1 sW2 sW3 hDs hw0
    go_wp2_with fail
    go_meet
    exact⟨_,_,_,rfl,HFin.out.2,HFin.out.1⟩
  ·refine oper_makeB 177 (.tmp 12) (.tmp 12) rfl _ _ _ rfl rfl (mkBools n hn _) ?_
   obtain⟨W1,hW1⟩:∃ W1,WD.alloc (.cells (madeCells #[.bool false] n) 4)=W1:=⟨_,rfl⟩
   rw[hW1]
   have k7:=wan WD (.cells (madeCells #[.bool false] n) 4)
   rw[hW1] at k7
   have GW1:Fr [] WD W1:=by rw[← hW1];exact (Fr.refl [] WD).alloc _
   have FW1:=FD.trans GW1
   have sW1:W1.heap.size=WD.heap.size+1:=by rw[← hW1];simp
   refine hK _ _ (HSt.out _ FW1) ?_
   clear hK K
   intro _
   simp only[Act.put,Z1,Z2,Z3,Z4,Z5,Z6]
   refine wpAnyH_ready (rs:=[4,9]) (by kernel_rfl) (by simp) ?_
   refine (AllReadyH.cons rfl (fun K hK=>?_) (AllReadyH.cons rfl (fun K hK=>?_) AllReadyH.nil))
   ·refine oper_makeB 176 (.tmp 9) (.tmp 9) rfl _ _ _ rfl rfl (mkPtrs n hn _) ?_
    obtain⟨W2,hW2⟩:∃ W2,W1.alloc (.cells (madeCells #[.pointer none] n) 181)=W2:=⟨_,rfl⟩
    rw[hW2]
    have k4:=wan W1 (.cells (madeCells #[.pointer none] n) 181)
    rw[hW2] at k4
    have GW2:Fr [] W1 W2:=by rw[← hW2];exact (Fr.refl [] W1).alloc _
    have FW2:=FW1.trans GW2
    have sW2:W2.heap.size=W1.heap.size+1:=by rw[← hW2];simp
    replace k7:=(GW2.block _ (by omega) (by simp)).trans k7
    refine hK _ _ (HSt.out _ FW2) ?_
    clear hK K
    intro _
    simp only[Act.put,Z1,Z2,Z3,Z4,Z5,Z6]
    have hSW2:=HSt.out _ FW2
    refine wpAnyH_take (i:=8) (v:=.agg #[.slice ta tn tc,.slice pa pn pc,.int .i64 m.globs,.int .i64 m.arrs,.slice (some ⟨gf,off,none⟩) nf cap,.slice aa n acap,.slice (some ⟨W1.heap.size,0,none⟩) n n,.slice (some ⟨WD.heap.size,0,none⟩) n n,.bool false,.bool false]) rfl (by kernel_rfl) (by kernel_rfl) (by kernel_rfl) (fun _ _ _ h=>h) (.inl ⟨rfl,fun w1 hS1=>?_⟩) hSW2 ?_
    ·obtain⟨p0,p1,p2,p3,p4⟩:=hS1
     go_simp
     (try rfl)
    simp only[Act.put,Z1,Z2,Z3,Z4,Z5,Z6]
    refine rdH (r:=9) ?_
    refine AllReadyH.cons rfl (fun K hK=>?_) AllReadyH.nil
    refine oper_allocB 179 rfl _ (hz1 _) ?_
    simp only[Value.cells]
    obtain⟨W3,hW3⟩:∃ W3,W2.alloc (.cells (#[.slice none 0 0,.slice none 0 0,.int .i64 0,.int .i64 0,.slice none 0 0,.slice none 0 0,.slice none 0 0,.slice none 0 0,.bool false,.bool false]) 179)=W3:=⟨_,rfl⟩
    rw[hW3]
    have k9:=wan W2 (.cells (#[.slice none 0 0,.slice none 0 0,.int .i64 0,.int .i64 0,.slice none 0 0,.slice none 0 0,.slice none 0 0,.slice none 0 0,.bool false,.bool false]) 179)
    rw[hW3] at k9
    have GW3:Fr [] W2 W3:=by rw[← hW3];exact (Fr.refl [] W2).alloc _
    have FW3:=FW2.trans GW3
    have sW3:W3.heap.size=W2.heap.size+1:=by rw[← hW3];simp
    replace k7:=(GW3.block _ (by omega) (by simp)).trans k7
    replace k4:=(GW3.block _ (by omega) (by simp)).trans k4
    refine hK _ _ (HSt.out _ FW3) ?_
    clear hK K
    intro _
    simp only[Act.put,Z1,Z2,Z3,Z4,Z5,Z6]
    refine rdH (r:=10) ?_
    refine AllReadyH.cons rfl (fun K hK=>?_) AllReadyH.nil
    refine oper_storeB 179 (.tmp 5) (.tmp 14) rfl rfl ⟨W2.heap.size,0,none⟩ rfl (.agg #[.slice ta tn tc,.slice pa pn pc,.int .i64 m.globs,.int .i64 m.arrs,.slice (some ⟨gf,off,none⟩) nf cap,.slice aa n acap,.slice (some ⟨W1.heap.size,0,none⟩) n n,.slice (some ⟨WD.heap.size,0,none⟩) n n,.bool false,.bool false]) rfl (run_storeVar_row _ _ 179 179 _ _ k9 (by rw[hi1];rfl) rfl (by simp[Value.oneCell'])) ?_
    obtain⟨WR,hWR⟩:∃ WR,W3.setRow W2.heap.size #[.slice ta tn tc,.slice pa pn pc,.int .i64 m.globs,.int .i64 m.arrs,.slice (some ⟨gf,off,none⟩) nf cap,.slice aa n acap,.slice (some ⟨W1.heap.size,0,none⟩) n n,.slice (some ⟨WD.heap.size,0,none⟩) n n,.bool false,.bool false]=WR:=⟨_,rfl⟩
    rw[hWR]
    have k10:=setRow_at (c':=#[.slice ta tn tc,.slice pa pn pc,.int .i64 m.globs,.int .i64 m.arrs,.slice (some ⟨gf,off,none⟩) nf cap,.slice aa n acap,.slice (some ⟨W1.heap.size,0,none⟩) n n,.slice (some ⟨WD.heap.size,0,none⟩) n n,.bool false,.bool false]) k9
    rw[hWR] at k10
    have k11:=(setRow_off (w:=W3) (g:=W2.heap.size) (c':=#[.slice ta tn tc,.slice pa pn pc,.int .i64 m.globs,.int .i64 m.arrs,.slice (some ⟨gf,off,none⟩) nf cap,.slice aa n acap,.slice (some ⟨W1.heap.size,0,none⟩) n n,.slice (some ⟨WD.heap.size,0,none⟩) n n,.bool false,.bool false]) (show W1.heap.size≠W2.heap.size by omega)).trans k4
    rw[hWR] at k11
    have k12:=(setRow_off (w:=W3) (g:=W2.heap.size) (c':=#[.slice ta tn tc,.slice pa pn pc,.int .i64 m.globs,.int .i64 m.arrs,.slice (some ⟨gf,off,none⟩) nf cap,.slice aa n acap,.slice (some ⟨W1.heap.size,0,none⟩) n n,.slice (some ⟨WD.heap.size,0,none⟩) n n,.bool false,.bool false]) (show WD.heap.size≠W2.heap.size by omega)).trans k7
    rw[hWR] at k12
    have FR:Fr [] W0 WR:=by rw[← hWR];exact setRow_fr FW3 (by omega)
    refine hK _ _ (HSt.out _ FR) ?_
    clear hK K
    intro _
    refine wpAnyH_done (by kernel_rfl) ?_ _
    have HFin:Hid _:=AI (floC_start (B:=w.heap.size) k10 k11 k12 (by omega) (by omega) (by omega) (by omega) (by omega) (by omega)) (HF0.out.1.trans FR)
    clear sW1 sW2 sW3 hDs hw0
    go_wp2_with fail
    go_meet
    exact⟨_,_,_,rfl,HFin.out.2,HFin.out.1⟩
   ·refine oper_allocB 179 rfl _ (hz1 _) ?_
    simp only[Value.cells]
    obtain⟨W2,hW2⟩:∃ W2,W1.alloc (.cells (#[.slice none 0 0,.slice none 0 0,.int .i64 0,.int .i64 0,.slice none 0 0,.slice none 0 0,.slice none 0 0,.slice none 0 0,.bool false,.bool false]) 179)=W2:=⟨_,rfl⟩
    rw[hW2]
    have k9:=wan W1 (.cells (#[.slice none 0 0,.slice none 0 0,.int .i64 0,.int .i64 0,.slice none 0 0,.slice none 0 0,.slice none 0 0,.slice none 0 0,.bool false,.bool false]) 179)
    rw[hW2] at k9
    have GW2:Fr [] W1 W2:=by rw[← hW2];exact (Fr.refl [] W1).alloc _
    have FW2:=FW1.trans GW2
    have sW2:W2.heap.size=W1.heap.size+1:=by rw[← hW2];simp
    replace k7:=(GW2.block _ (by omega) (by simp)).trans k7
    refine hK _ _ (HSt.out _ FW2) ?_
    clear hK K
    intro _
    simp only[Act.put,Z1,Z2,Z3,Z4,Z5,Z6]
    refine rdH (r:=4) ?_
    refine AllReadyH.cons rfl (fun K hK=>?_) AllReadyH.nil
    refine oper_makeB 176 (.tmp 9) (.tmp 9) rfl _ _ _ rfl rfl (mkPtrs n hn _) ?_
    obtain⟨W3,hW3⟩:∃ W3,W2.alloc (.cells (madeCells #[.pointer none] n) 181)=W3:=⟨_,rfl⟩
    rw[hW3]
    have k4:=wan W2 (.cells (madeCells #[.pointer none] n) 181)
    rw[hW3] at k4
    have GW3:Fr [] W2 W3:=by rw[← hW3];exact (Fr.refl [] W2).alloc _
    have FW3:=FW2.trans GW3
    have sW3:W3.heap.size=W2.heap.size+1:=by rw[← hW3];simp
    replace k7:=(GW3.block _ (by omega) (by simp)).trans k7
    replace k9:=(GW3.block _ (by omega) (by simp)).trans k9
    refine hK _ _ (HSt.out _ FW3) ?_
    clear hK K
    intro _
    simp only[Act.put,Z1,Z2,Z3,Z4,Z5,Z6]
    have hSW3:=HSt.out _ FW3
    refine wpAnyH_take (i:=8) (v:=.agg #[.slice ta tn tc,.slice pa pn pc,.int .i64 m.globs,.int .i64 m.arrs,.slice (some ⟨gf,off,none⟩) nf cap,.slice aa n acap,.slice (some ⟨W2.heap.size,0,none⟩) n n,.slice (some ⟨WD.heap.size,0,none⟩) n n,.bool false,.bool false]) rfl (by kernel_rfl) (by kernel_rfl) (by kernel_rfl) (fun _ _ _ h=>h) (.inl ⟨rfl,fun w1 hS1=>?_⟩) hSW3 ?_
    ·obtain⟨p0,p1,p2,p3,p4⟩:=hS1
     go_simp
     (try rfl)
    simp only[Act.put,Z1,Z2,Z3,Z4,Z5,Z6]
    refine rdH (r:=10) ?_
    refine AllReadyH.cons rfl (fun K hK=>?_) AllReadyH.nil
    refine oper_storeB 179 (.tmp 5) (.tmp 14) rfl rfl ⟨W1.heap.size,0,none⟩ rfl (.agg #[.slice ta tn tc,.slice pa pn pc,.int .i64 m.globs,.int .i64 m.arrs,.slice (some ⟨gf,off,none⟩) nf cap,.slice aa n acap,.slice (some ⟨W2.heap.size,0,none⟩) n n,.slice (some ⟨WD.heap.size,0,none⟩) n n,.bool false,.bool false]) rfl (run_storeVar_row _ _ 179 179 _ _ k9 (by rw[hi1];rfl) rfl (by simp[Value.oneCell'])) ?_
    obtain⟨WR,hWR⟩:∃ WR,W3.setRow W1.heap.size #[.slice ta tn tc,.slice pa pn pc,.int .i64 m.globs,.int .i64 m.arrs,.slice (some ⟨gf,off,none⟩) nf cap,.slice aa n acap,.slice (some ⟨W2.heap.size,0,none⟩) n n,.slice (some ⟨WD.heap.size,0,none⟩) n n,.bool false,.bool false]=WR:=⟨_,rfl⟩
    rw[hWR]
    have k10:=setRow_at (c':=#[.slice ta tn tc,.slice pa pn pc,.int .i64 m.globs,.int .i64 m.arrs,.slice (some ⟨gf,off,none⟩) nf cap,.slice aa n acap,.slice (some ⟨W2.heap.size,0,none⟩) n n,.slice (some ⟨WD.heap.size,0,none⟩) n n,.bool false,.bool false]) k9
    rw[hWR] at k10
    have k11:=(setRow_off (w:=W3) (g:=W1.heap.size) (c':=#[.slice ta tn tc,.slice pa pn pc,.int .i64 m.globs,.int .i64 m.arrs,.slice (some ⟨gf,off,none⟩) nf cap,.slice aa n acap,.slice (some ⟨W2.heap.size,0,none⟩) n n,.slice (some ⟨WD.heap.size,0,none⟩) n n,.bool false,.bool false]) (show W2.heap.size≠W1.heap.size by omega)).trans k4
    rw[hWR] at k11
    have k12:=(setRow_off (w:=W3) (g:=W1.heap.size) (c':=#[.slice ta tn tc,.slice pa pn pc,.int .i64 m.globs,.int .i64 m.arrs,.slice (some ⟨gf,off,none⟩) nf cap,.slice aa n acap,.slice (some ⟨W2.heap.size,0,none⟩) n n,.slice (some ⟨WD.heap.size,0,none⟩) n n,.bool false,.bool false]) (show WD.heap.size≠W1.heap.size by omega)).trans k7
    rw[hWR] at k12
    have FR:Fr [] W0 WR:=by rw[← hWR];exact setRow_fr FW3 (by omega)
    refine hK _ _ (HSt.out _ FR) ?_
    clear hK K
    intro _
    refine wpAnyH_done (by kernel_rfl) ?_ _
    have HFin:Hid _:=AI (floC_start (B:=w.heap.size) k10 k11 k12 (by omega) (by omega) (by omega) (by omega) (by omega) (by omega)) (HF0.out.1.trans FR)
    clear sW1 sW2 sW3 hDs hw0
    go_wp2_with fail
    go_meet
    exact⟨_,_,_,rfl,HFin.out.2,HFin.out.1⟩
  ·refine oper_allocB 179 rfl _ (hz1 _) ?_
   simp only[Value.cells]
   obtain⟨W1,hW1⟩:∃ W1,WD.alloc (.cells (#[.slice none 0 0,.slice none 0 0,.int .i64 0,.int .i64 0,.slice none 0 0,.slice none 0 0,.slice none 0 0,.slice none 0 0,.bool false,.bool false]) 179)=W1:=⟨_,rfl⟩
   rw[hW1]
   have k9:=wan WD (.cells (#[.slice none 0 0,.slice none 0 0,.int .i64 0,.int .i64 0,.slice none 0 0,.slice none 0 0,.slice none 0 0,.slice none 0 0,.bool false,.bool false]) 179)
   rw[hW1] at k9
   have GW1:Fr [] WD W1:=by rw[← hW1];exact (Fr.refl [] WD).alloc _
   have FW1:=FD.trans GW1
   have sW1:W1.heap.size=WD.heap.size+1:=by rw[← hW1];simp
   refine hK _ _ (HSt.out _ FW1) ?_
   clear hK K
   intro _
   simp only[Act.put,Z1,Z2,Z3,Z4,Z5,Z6]
   refine wpAnyH_ready (rs:=[4,7]) (by kernel_rfl) (by simp) ?_
   refine (AllReadyH.cons rfl (fun K hK=>?_) (AllReadyH.cons rfl (fun K hK=>?_) AllReadyH.nil))
   ·refine oper_makeB 176 (.tmp 9) (.tmp 9) rfl _ _ _ rfl rfl (mkPtrs n hn _) ?_
    obtain⟨W2,hW2⟩:∃ W2,W1.alloc (.cells (madeCells #[.pointer none] n) 181)=W2:=⟨_,rfl⟩
    rw[hW2]
    have k4:=wan W1 (.cells (madeCells #[.pointer none] n) 181)
    rw[hW2] at k4
    have GW2:Fr [] W1 W2:=by rw[← hW2];exact (Fr.refl [] W1).alloc _
    have FW2:=FW1.trans GW2
    have sW2:W2.heap.size=W1.heap.size+1:=by rw[← hW2];simp
    replace k9:=(GW2.block _ (by omega) (by simp)).trans k9
    refine hK _ _ (HSt.out _ FW2) ?_
    clear hK K
    intro _
    simp only[Act.put,Z1,Z2,Z3,Z4,Z5,Z6]
    refine rdH (r:=7) ?_
    refine AllReadyH.cons rfl (fun K hK=>?_) AllReadyH.nil
    refine oper_makeB 177 (.tmp 12) (.tmp 12) rfl _ _ _ rfl rfl (mkBools n hn _) ?_
    obtain⟨W3,hW3⟩:∃ W3,W2.alloc (.cells (madeCells #[.bool false] n) 4)=W3:=⟨_,rfl⟩
    rw[hW3]
    have k7:=wan W2 (.cells (madeCells #[.bool false] n) 4)
    rw[hW3] at k7
    have GW3:Fr [] W2 W3:=by rw[← hW3];exact (Fr.refl [] W2).alloc _
    have FW3:=FW2.trans GW3
    have sW3:W3.heap.size=W2.heap.size+1:=by rw[← hW3];simp
    replace k9:=(GW3.block _ (by omega) (by simp)).trans k9
    replace k4:=(GW3.block _ (by omega) (by simp)).trans k4
    refine hK _ _ (HSt.out _ FW3) ?_
    clear hK K
    intro _
    simp only[Act.put,Z1,Z2,Z3,Z4,Z5,Z6]
    have hSW3:=HSt.out _ FW3
    refine wpAnyH_take (i:=8) (v:=.agg #[.slice ta tn tc,.slice pa pn pc,.int .i64 m.globs,.int .i64 m.arrs,.slice (some ⟨gf,off,none⟩) nf cap,.slice aa n acap,.slice (some ⟨W1.heap.size,0,none⟩) n n,.slice (some ⟨W2.heap.size,0,none⟩) n n,.bool false,.bool false]) rfl (by kernel_rfl) (by kernel_rfl) (by kernel_rfl) (fun _ _ _ h=>h) (.inl ⟨rfl,fun w1 hS1=>?_⟩) hSW3 ?_
    ·obtain⟨p0,p1,p2,p3,p4⟩:=hS1
     go_simp
     (try rfl)
    simp only[Act.put,Z1,Z2,Z3,Z4,Z5,Z6]
    refine rdH (r:=10) ?_
    refine AllReadyH.cons rfl (fun K hK=>?_) AllReadyH.nil
    refine oper_storeB 179 (.tmp 5) (.tmp 14) rfl rfl ⟨WD.heap.size,0,none⟩ rfl (.agg #[.slice ta tn tc,.slice pa pn pc,.int .i64 m.globs,.int .i64 m.arrs,.slice (some ⟨gf,off,none⟩) nf cap,.slice aa n acap,.slice (some ⟨W1.heap.size,0,none⟩) n n,.slice (some ⟨W2.heap.size,0,none⟩) n n,.bool false,.bool false]) rfl (run_storeVar_row _ _ 179 179 _ _ k9 (by rw[hi1];rfl) rfl (by simp[Value.oneCell'])) ?_
    obtain⟨WR,hWR⟩:∃ WR,W3.setRow WD.heap.size #[.slice ta tn tc,.slice pa pn pc,.int .i64 m.globs,.int .i64 m.arrs,.slice (some ⟨gf,off,none⟩) nf cap,.slice aa n acap,.slice (some ⟨W1.heap.size,0,none⟩) n n,.slice (some ⟨W2.heap.size,0,none⟩) n n,.bool false,.bool false]=WR:=⟨_,rfl⟩
    rw[hWR]
    have k10:=setRow_at (c':=#[.slice ta tn tc,.slice pa pn pc,.int .i64 m.globs,.int .i64 m.arrs,.slice (some ⟨gf,off,none⟩) nf cap,.slice aa n acap,.slice (some ⟨W1.heap.size,0,none⟩) n n,.slice (some ⟨W2.heap.size,0,none⟩) n n,.bool false,.bool false]) k9
    rw[hWR] at k10
    have k11:=(setRow_off (w:=W3) (g:=WD.heap.size) (c':=#[.slice ta tn tc,.slice pa pn pc,.int .i64 m.globs,.int .i64 m.arrs,.slice (some ⟨gf,off,none⟩) nf cap,.slice aa n acap,.slice (some ⟨W1.heap.size,0,none⟩) n n,.slice (some ⟨W2.heap.size,0,none⟩) n n,.bool false,.bool false]) (show W1.heap.size≠WD.heap.size by omega)).trans k4
    rw[hWR] at k11
    have k12:=(setRow_off (w:=W3) (g:=WD.heap.size) (c':=#[.slice ta tn tc,.slice pa pn pc,.int .i64 m.globs,.int .i64 m.arrs,.slice (some ⟨gf,off,none⟩) nf cap,.slice aa n acap,.slice (some ⟨W1.heap.size,0,none⟩) n n,.slice (some ⟨W2.heap.size,0,none⟩) n n,.bool false,.bool false]) (show W2.heap.size≠WD.heap.size by omega)).trans k7
    rw[hWR] at k12
    have FR:Fr [] W0 WR:=by rw[← hWR];exact setRow_fr FW3 (by omega)
    refine hK _ _ (HSt.out _ FR) ?_
    clear hK K
    intro _
    refine wpAnyH_done (by kernel_rfl) ?_ _
    have HFin:Hid _:=AI (floC_start (B:=w.heap.size) k10 k11 k12 (by omega) (by omega) (by omega) (by omega) (by omega) (by omega)) (HF0.out.1.trans FR)
    clear sW1 sW2 sW3 hDs hw0
    go_wp2_with fail
    go_meet
    exact⟨_,_,_,rfl,HFin.out.2,HFin.out.1⟩
   ·refine oper_makeB 177 (.tmp 12) (.tmp 12) rfl _ _ _ rfl rfl (mkBools n hn _) ?_
    obtain⟨W2,hW2⟩:∃ W2,W1.alloc (.cells (madeCells #[.bool false] n) 4)=W2:=⟨_,rfl⟩
    rw[hW2]
    have k7:=wan W1 (.cells (madeCells #[.bool false] n) 4)
    rw[hW2] at k7
    have GW2:Fr [] W1 W2:=by rw[← hW2];exact (Fr.refl [] W1).alloc _
    have FW2:=FW1.trans GW2
    have sW2:W2.heap.size=W1.heap.size+1:=by rw[← hW2];simp
    replace k9:=(GW2.block _ (by omega) (by simp)).trans k9
    refine hK _ _ (HSt.out _ FW2) ?_
    clear hK K
    intro _
    simp only[Act.put,Z1,Z2,Z3,Z4,Z5,Z6]
    refine rdH (r:=4) ?_
    refine AllReadyH.cons rfl (fun K hK=>?_) AllReadyH.nil
    refine oper_makeB 176 (.tmp 9) (.tmp 9) rfl _ _ _ rfl rfl (mkPtrs n hn _) ?_
    obtain⟨W3,hW3⟩:∃ W3,W2.alloc (.cells (madeCells #[.pointer none] n) 181)=W3:=⟨_,rfl⟩
    rw[hW3]
    have k4:=wan W2 (.cells (madeCells #[.pointer none] n) 181)
    rw[hW3] at k4
    have GW3:Fr [] W2 W3:=by rw[← hW3];exact (Fr.refl [] W2).alloc _
    have FW3:=FW2.trans GW3
    have sW3:W3.heap.size=W2.heap.size+1:=by rw[← hW3];simp
    replace k9:=(GW3.block _ (by omega) (by simp)).trans k9
    replace k7:=(GW3.block _ (by omega) (by simp)).trans k7
    refine hK _ _ (HSt.out _ FW3) ?_
    clear hK K
    intro _
    simp only[Act.put,Z1,Z2,Z3,Z4,Z5,Z6]
    have hSW3:=HSt.out _ FW3
    refine wpAnyH_take (i:=8) (v:=.agg #[.slice ta tn tc,.slice pa pn pc,.int .i64 m.globs,.int .i64 m.arrs,.slice (some ⟨gf,off,none⟩) nf cap,.slice aa n acap,.slice (some ⟨W2.heap.size,0,none⟩) n n,.slice (some ⟨W1.heap.size,0,none⟩) n n,.bool false,.bool false]) rfl (by kernel_rfl) (by kernel_rfl) (by kernel_rfl) (fun _ _ _ h=>h) (.inl ⟨rfl,fun w1 hS1=>?_⟩) hSW3 ?_
    ·obtain⟨p0,p1,p2,p3,p4⟩:=hS1
     go_simp
     (try rfl)
    simp only[Act.put,Z1,Z2,Z3,Z4,Z5,Z6]
    refine rdH (r:=10) ?_
    refine AllReadyH.cons rfl (fun K hK=>?_) AllReadyH.nil
    refine oper_storeB 179 (.tmp 5) (.tmp 14) rfl rfl ⟨WD.heap.size,0,none⟩ rfl (.agg #[.slice ta tn tc,.slice pa pn pc,.int .i64 m.globs,.int .i64 m.arrs,.slice (some ⟨gf,off,none⟩) nf cap,.slice aa n acap,.slice (some ⟨W2.heap.size,0,none⟩) n n,.slice (some ⟨W1.heap.size,0,none⟩) n n,.bool false,.bool false]) rfl (run_storeVar_row _ _ 179 179 _ _ k9 (by rw[hi1];rfl) rfl (by simp[Value.oneCell'])) ?_
    obtain⟨WR,hWR⟩:∃ WR,W3.setRow WD.heap.size #[.slice ta tn tc,.slice pa pn pc,.int .i64 m.globs,.int .i64 m.arrs,.slice (some ⟨gf,off,none⟩) nf cap,.slice aa n acap,.slice (some ⟨W2.heap.size,0,none⟩) n n,.slice (some ⟨W1.heap.size,0,none⟩) n n,.bool false,.bool false]=WR:=⟨_,rfl⟩
    rw[hWR]
    have k10:=setRow_at (c':=#[.slice ta tn tc,.slice pa pn pc,.int .i64 m.globs,.int .i64 m.arrs,.slice (some ⟨gf,off,none⟩) nf cap,.slice aa n acap,.slice (some ⟨W2.heap.size,0,none⟩) n n,.slice (some ⟨W1.heap.size,0,none⟩) n n,.bool false,.bool false]) k9
    rw[hWR] at k10
    have k11:=(setRow_off (w:=W3) (g:=WD.heap.size) (c':=#[.slice ta tn tc,.slice pa pn pc,.int .i64 m.globs,.int .i64 m.arrs,.slice (some ⟨gf,off,none⟩) nf cap,.slice aa n acap,.slice (some ⟨W2.heap.size,0,none⟩) n n,.slice (some ⟨W1.heap.size,0,none⟩) n n,.bool false,.bool false]) (show W2.heap.size≠WD.heap.size by omega)).trans k4
    rw[hWR] at k11
    have k12:=(setRow_off (w:=W3) (g:=WD.heap.size) (c':=#[.slice ta tn tc,.slice pa pn pc,.int .i64 m.globs,.int .i64 m.arrs,.slice (some ⟨gf,off,none⟩) nf cap,.slice aa n acap,.slice (some ⟨W2.heap.size,0,none⟩) n n,.slice (some ⟨W1.heap.size,0,none⟩) n n,.bool false,.bool false]) (show W1.heap.size≠WD.heap.size by omega)).trans k7
    rw[hWR] at k12
    have FR:Fr [] W0 WR:=by rw[← hWR];exact setRow_fr FW3 (by omega)
    refine hK _ _ (HSt.out _ FR) ?_
    clear hK K
    intro _
    refine wpAnyH_done (by kernel_rfl) ?_ _
    have HFin:Hid _:=AI (floC_start (B:=w.heap.size) k10 k11 k12 (by omega) (by omega) (by omega) (by omega) (by omega) (by omega)) (HF0.out.1.trans FR)
    clear sW1 sW2 sW3 hDs hw0
    go_wp2_with fail
    go_meet
    exact⟨_,_,_,rfl,HFin.out.2,HFin.out.1⟩
 case rest=>
  obtain⟨fb,kb,qb,rfl,FW,hFl⟩:=hcut
  have hzv:=(zero_of_info infoK).1
  obtain⟨Z,hZ⟩:∃ Z,(stkV [] false).toArray=Z:=⟨_,rfl⟩
  rw[hZ] at hzv
  have HX:Hid _:=AI hFl (AI FW hZ)
  clear hFl FW hZ hW0
  obtain⟨W5,hW5⟩:∃ W5,wc.alloc (.cells Z 185)=W5:=⟨_,rfl⟩
  have F5:Fr [] wc W5:=by rw[← hW5];exact (Fr.refl [] wc).alloc _
  have k5:=wan wc (.cells Z 185)
  rw[hW5] at k5
  obtain⟨hFl,FW,hZ⟩:=HX.out
  have S5:StkC W5 wc.heap.size [] false:=stkC_of_block (by rw[k5,← hZ]) (by simp) (fun x hx=>by cases hx)
  have hl1:=hFl.lt
  have hl2:=hFl.lk
  have hl3:=hFl.lq
  have hFl5:=hFl.fr F5 (by simp) (by simp) (by simp) (fun _ _ _=>by simp)
  have hno:∀ (j:Nat) (s:List Nat),(List.replicate n (none:Option (List Nat)))[j]?=some (some s)→(0:Nat)≠wc.heap.size:=fun j s hj=>by
   rw[List.getElem?_replicate] at hj
   split at hj <;> cases hj
  have hgo:=goTo_any W5 w.heap.size fb kb qb n aa acap _ _ _ false false _ hFl5 hn wc.heap.size (some []) S5 (by omega) (by omega) (by omega) hno 0 (by omega) (fun x hx=>by cases hx;exact BitsL.nil)
  have HGo:Hid _:=fun (_:Unit)=>hgo
  have HX2:Hid _:=AI F5 FW
  clear hgo hFl5 S5 k5 F5 hFl FW hZ hl1 hl2 hl3 hno HX
  go_wp2_with fail
  refine (HGo.out ()).mono ?_
  rintro e w6 ⟨rfl,R6,-,G1,Q1,m1,wr1,P1,F6,-,hR⟩
  obtain⟨hln,hA,hJ,hnf,hpar,hgf,hnf2,hok⟩:=HALL.out
  have R56:FrB w.heap.size wc w6:=(FrB.of (S:=[]) HX2.out.1 HX2.out.2.size (by simp)).trans R6
  have hLp:LpP (parOf m) l w.heap.size fb kb qb n (.slice aa n acap) (.slice (some ⟨gf,off,none⟩) nf cap) wc (2*leftB G1+1) w6:=by
   refine⟨R56,G1,Q1,m1,wr1,P1,F6,?_⟩
   rcases goR_cases hR (by simp) with ⟨rfl,rfl,rfl,rfl,hb⟩ | ⟨rfl,hgk⟩
   ·left
    refine⟨rfl,?_⟩
    rcases hb with hb | ⟨t,ht,-⟩
    ·have:l=[]:=List.eq_nil_of_length_eq_zero (by omega)
     rw[this]
     exact not_safe_nil _
    ·rw[List.getElem?_replicate] at ht
     split at ht <;> cases ht
   ·right
    have g:=hgk.all (fun i s hi=>by rw[List.getElem?_replicate] at hi;split at hi <;> cases hi) BitsL.nil (by simp) (by simp)
    refine⟨rfl,fst_start hln g,fun hm1=>?_,by cases m1 <;> simp⟩
    rcases g.same with ⟨-,rfl,-⟩ | ⟨h1,-⟩
    ·intro j hj hq
     rw[List.getElem?_replicate] at hq
     split at hq <;> cases hq
    ·rw[hm1] at h1;cases h1
  generalize 2*leftB G1+1=gk0 at hLp
  have HLp:Hid _:=hLp
  have HFc:Hid _:=HX2.out.2
  clear hLp hR F6 R6 R56 HGo hln hA hJ hnf hpar hgf hnf2 hok HX2 hW5
  go_wp2
  go_loopg [] gk0 (fun gk wr=>LpP (parOf m) l w.heap.size fb kb qb n (.slice aa n acap) (.slice (some ⟨gf,off,none⟩) nf cap) wc gk wr)
  case atStart=>exact HLp.out
  case round=>
   clear HLp
   obtain⟨R,G,Q,more,wrong,P,F,hst⟩:=hrel
   have d8:=F.c8
   have d9:=F.c9
   have z8:=F.zf 8
   have hFr:=FrB.to_fr HFc.out (Nat.le_refl _) R
   have HFr:Hid _:=hFr
   obtain⟨hln,hA,hJ,hnf,hpar,hgf,hnf2,hok⟩:=HALL.out
   cases wrong with
   | true=>
    have hno:¬ Flow.Safe (parOf m) l:=by
     rcases hst with ⟨-,h⟩ | ⟨h,-⟩
     ·exact h
     ·cases h
    have HN:Hid _:=hno
    clear hno hst F R hFr hln hA hJ hnf hpar hgf hnf2 hok
    cases more with
    | true=>
     go_wp2
     go_ret
     exact⟨⟨true,rfl,fun _=>HN.out,fun _=>rfl⟩,HFr.out⟩
    | false=>
     go_wp2
     go_ret
     exact⟨⟨true,rfl,fun _=>HN.out,fun _=>rfl⟩,HFr.out⟩
   | false=>
    obtain⟨hFs,hq,hgk⟩:FSt (parOf m) l G Q∧(more=false→∀ j:Nat,j<n→Q[j]?≠some true)∧2*leftB G+more.toNat≤gk:=by
     rcases hst with ⟨h,-⟩ | ⟨-,h⟩
     ·cases h
     ·exact h
    cases more with
    | false=>
     have hsafe:=fst_end hln hFs F.gl F.ql (hq rfl)
     have HN:Hid _:=hsafe
     clear hsafe hst F R hFr hln hA hJ hnf hpar hgf hnf2 hok hFs hq hgk
     go_wp2
     go_ret
     exact⟨⟨false,rfl,fun h=>(by cases h),fun h=>absurd HN.out h⟩,HFr.out⟩
    | true=>
     have h0:0<n:=by
      have:=hFs.z
      have h1:=(Lgs.1 this).1
      rw[abG_length,F.gl] at h1
      exact h1
     obtain⟨ga,rfl,hga,hI⟩:=hA h0
     have F2:=F.setMore false
     have R2:=R.trans (frB_set (W:=wr) (j:=8) (v:=.bool false) F.bf)
     have hB:∀ k,k<w.heap.size→(wr.setCell ⟨fb,8,none⟩ (.bool false)).heap[k]?=w.heap[k]?:=fun k hk=>(R2.block k hk).trans (HFc.out.block k hk (by simp))
     have hrn:=round_any _ w.heap.size fb kb qb n ga acap gf off nf cap m l T G Q P F2 hn hln (hI.of_block (hB ga hga)) hga hJ hnf (fun a ha=>⟨by unfold World.cell?;rw[hB gf hgf];exact (hpar a ha).1,(hpar a ha).2⟩) hgf hnf2 hok hFs
     have HRn:Hid _:=fun (_:Unit)=>hrn
     have HX3:Hid _:=AI R2 hgk
     clear hrn R2 hgk hB F2 hI hga hst F R hFr hln hA hJ hnf hpar hgf hnf2 hok hFs hq h0
     go_wp2_with fail
     refine (HRn.out ()).mono ?_
     rintro e w7 ⟨rfl,R7,G2,Q2,m2,wr2,P2,F7,hR7⟩
     have hnew:∃ gk',gk'<gk∧LpP (parOf m) l w.heap.size fb kb qb n (.slice (some ⟨ga,0,none⟩) n acap) (.slice (some ⟨gf,off,none⟩) nf cap) wc gk' w7:=by
      have hg:=HX3.out.2
      simp only[Bool.toNat_true] at hg
      rcases hR7 with ⟨h1,h2⟩ | ⟨h1,h2,h3⟩
      ·exact⟨0,by omega,HX3.out.1.trans R7,G2,Q2,m2,wr2,P2,F7,.inl ⟨h1,h2⟩⟩
      ·rcases h3 with ⟨h3,rfl,h5⟩ | ⟨h3,h4⟩
       ·exact⟨2*leftB G2,by omega,HX3.out.1.trans R7,G2,Q2,m2,wr2,P2,F7,.inr ⟨h1,h2,fun _=>h5,by rw[h3];simp⟩⟩
       ·exact⟨2*leftB G2+1,by omega,HX3.out.1.trans R7,G2,Q2,m2,wr2,P2,F7,.inr ⟨h1,h2,fun h=>(by rw[h3] at h;cases h),(by rw[h3];simp)⟩⟩
     obtain⟨gk',hlt',hnew⟩:=hnew
     have HNw:Hid _:=AI hlt' hnew
     clear hlt' hnew hR7 F7 R7 HX3 HRn
     go_wp2
     go_roundg gk'
     case measure=>exact HNw.out.1
     case rel=>exact HNw.out.2
end Go.Proofs.YtclkgoigmgkffaaGreatDoor
