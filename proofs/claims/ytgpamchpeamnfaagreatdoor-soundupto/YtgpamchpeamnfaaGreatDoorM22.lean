/-
  Texts Jm Jn Gf Gg Gh Gb Pg Pe Pf.
-/
import Derived.Test.YtgpamchpeamnfaaGreatDoorMA
import Derived.Test.YtgpamchpeamnfaaGreatDoorM21
import Derived.Test.YtgpamchpeamnfaaGreatDoorM00
import Derived.Test.YtgpamchpeamnfaaGreatDoorM18
import Derived.Test.YtgpamchpeamnfaaGreatDoorM06
import Derived.Test.YtgpamchpeamnfaaGreatDoorM13
import Derived.Test.YtgpamchpeamnfaaGreatDoorM04
import Derived.Test.YtgpamchpeamnfaaGreatDoorM03
import Derived.Test.YtgpamchpeamnfaaGreatDoorM09
set_option linter.unusedSimpArgs false
set_option linter.unusedVariables false
set_option maxRecDepth 100000
set_option maxHeartbeats 40000000
open _root_.Go.Proofs.Tryz
namespace Go.Proofs.YtgpamchpeamnfaaGreatDoor
open Go.RowKit
open Wire Flow Mach
theorem rV.of_block {W W':World}{g:Nat}{L:List Stp}{T:List Nat} (h:rV W g L T) (hb:W'.heap[g]?=W.heap[g]?):rV W' g L T:=by
 have e:∀ j,W'.cell? ⟨g,j,none⟩=W.cell? ⟨g,j,none⟩:=fun j=>by unfold World.cell?;rw[hb]
 refine⟨h.len,fun i s t hs ht=>?_,fun k=>?_⟩
 ·obtain⟨h0,h1,h2,h3,h4⟩:=h.cell i s t hs ht
  exact⟨(e _).trans h0,(e _).trans h1,(e _).trans h2,(e _).trans h3,(e _).trans h4⟩
 ·have:=h.fz k
  unfold World.frozen? at this ⊢
  rw[hb]
  exact this
def RnR (par:Nat→Nat) (l:List Stp) (G0 G:List (Option (List Nat))) (Q:List Bool) (more wrong:Bool) (i:Nat):Prop:=
 (wrong=true∧¬ Flow.Safe par l)∨(wrong=false∧FSt par l G Q∧((more=false∧G=G0∧∀ j:Nat,j<i→Q[j]?≠some true)∨(more=true∧lA G<lA G0)))
theorem RnR.skip {par:Nat→Nat}{l:List Stp}{G0 G:List (Option (List Nat))}{Q:List Bool}{more wrong:Bool}{i:Nat} (h:RnR par l G0 G Q more wrong i) (hq:wrong=true∨Q[i]?=some false):RnR par l G0 G Q more wrong (i+1):=by
 rcases h with h | ⟨h1,h2,h3⟩
 ·exact .inl h
 ·refine .inr ⟨h1,h2,?_⟩
  rcases h3 with ⟨a,b,c⟩ | h3
  ·refine .inl ⟨a,b,fun j hj=>?_⟩
   by_cases e:j<i
   ·exact c j e
   ·have e2:j=i:=by omega
    subst e2
    rcases hq with hq | hq
    ·rw[h1] at hq;cases hq
    ·rw[hq];simp
  ·exact .inr h3
theorem FSt.at_ {par:Nat→Nat}{l:List Stp}{G:List (Option (List Nat))}{Q:List Bool} (h:FSt par l G Q) (i:Nat):FSi par l G (Q.set i false) i:=by
 refine⟨h.low,h.z,fun j hj hq=>?_,fun j hq=>?_⟩
 ·rw[List.getElem?_set_ne (fun e=>hj e.symm)] at hq
  exact h.done j hq
 ·by_cases e:j=i
  ·subst e
   rw[List.getElem?_set] at hq
   split at hq
   ·split at hq
    ·cases hq
    ·cases hq
   ·rename_i hx;exact absurd rfl hx
  ·rw[List.getElem?_set_ne (fun e2=>e e2.symm)] at hq
   exact h.known j hq
theorem RnR.pass {par:Nat→Nat}{l:List Stp}{G0 G G':List (Option (List Nat))}{Q Q':List Bool}{more more' wrong':Bool}{i:Nat} (h:RnR par l G0 G Q more false i) (hl:i<Q.length) (hp:PsR par l G (Q.set i false) more false G' Q' more' wrong'):RnR par l G0 G' Q' more' wrong' (i+1):=by
 rcases h with ⟨h,-⟩ | ⟨-,h2,h3⟩
 ·cases h
 ·rcases hp with hp | ⟨p1,p2,p3⟩
  ·exact .inl hp
  ·refine .inr ⟨p1,p2,?_⟩
   rcases p3 with ⟨rfl,rfl,rfl⟩ | ⟨p3,p4⟩
   ·rcases h3 with ⟨a,b,c⟩ | h3
    ·refine .inl ⟨a,b,fun j hj=>?_⟩
     by_cases e:j=i
     ·subst e
      rw[List.getElem?_set_self hl]
      simp
     ·rw[List.getElem?_set_ne (fun e2=>e e2.symm)]
      exact c j (by omega)
    ·exact .inr h3
   ·right
    refine⟨p3,?_⟩
    rcases h3 with ⟨a,rfl,c⟩ | ⟨a,b⟩
    ·exact p4
    ·omega
def bHy (B fb kb qb n:Nat) (av mf:Value) (par:Nat→Nat) (l:List Stp) (G:List (Option (List Nat))) (W':World):Prop:=
 ∃ G' Q' more' wrong' P',iN W' B fb kb qb n av mf G' Q' more' wrong' P'∧RnR par l G G' Q' more' wrong' n
theorem aPj (W:World)(B fb kb qb n ga acap gf off nf cap:Nat)(m:Mo)(l:List Stp)(T:List Nat)(G:List (Option (List Nat)))(Q:List Bool)(P:Nat→Nat)
  (h:iN W B fb kb qb n (.slice (some ⟨ga,0,none⟩) n acap) (.slice (some ⟨gf,off,none⟩) nf cap) G Q false false P) (hn:n≤100000) (hln:l.length=n) (hI:rV W ga l T) (hga:ga<B) (hJ:vV l T n)
  (hnf:nf=m.fns.length) (hpar:∀ a,a<nf→W.cell? ⟨gf,off+a*3,none⟩=some (.int .i64 (bD m a:Nat))∧bD m a≤8) (hgf:gf<B) (hnf2:nf≤1000) (hok:∀ s ∈ l,uA m s) (hF:FSt (bD m) l G Q) :
  Calls prog 106 #[.pointer (some ⟨fb,0,none⟩)] W fun e W'=>e=.returned (.tuple #[])∧FrB B W W'∧bHy B fb kb qb n (.slice (some ⟨ga,0,none⟩) n acap) (.slice (some ⟨gf,off,none⟩) nf cap) (bD m) l G W':=by
 have hps:=fun (W1:World) (G1:List (Option (List Nat))) (Q1:List Bool) (m1 w1:Bool) (P1:Nat→Nat) (h1:iN W1 B fb kb qb n (.slice (some ⟨ga,0,none⟩) n acap) (.slice (some ⟨gf,off,none⟩) nf cap) G1 Q1 m1 w1 P1) (hFr:FrB B W W1) (i:Nat) (hi:i<n) (st:List Nat) (hG:G1[i]?=some (some st)) (hFi:FSi (bD m) l G1 Q1 i)=>
  aUh W1 B fb kb qb n ga acap gf off nf cap m l T G1 Q1 m1 w1 P1 h1 hn hln (hI.of_block (hFr.block ga hga)) hga hJ hnf (fun a ha=>⟨by unfold World.cell?;rw[hFr.block gf hgf];exact (hpar a ha).1,(hpar a ha).2⟩) hgf hnf2 hok i hi st hG hFi
 have HPs:Hid _:=fun (_:Unit)=>hps
 have c5:=h.c5
 have HF:Hid _:=AI h hF
 clear hps h hI hJ hpar hok hF hnf hln hga hgf hnf2
 go_enter func106,ntmps106
 go_wp2
 go_loopw [8] (fun j wr=>∃ (i:Nat) (G1:List (Option (List Nat))) (Q1:List Bool) (m1 w1:Bool) (P1:Nat→Nat),j=.int .i64 (i:Nat)∧i≤n∧FrB B W wr∧iN wr B fb kb qb n (.slice (some ⟨ga,0,none⟩) n acap) (.slice (some ⟨gf,off,none⟩) nf cap) G1 Q1 m1 w1 P1∧Hid (RnR (bD m) l G G1 Q1 m1 w1 i)) (fun j _=>n-(intOf j).toNat)
 case atStart=>exact⟨0,G,Q,false,false,P,rfl,by omega,FrB.refl _ _,HF.out.1,.inr ⟨rfl,HF.out.2,.inl ⟨rfl,rfl,fun j hj=>absurd hj (by omega)⟩⟩⟩
 case round=>
  clear c5
  obtain⟨i,G1,Q1,m1,w1,P1,rfl,hi,R1,F1,hR⟩:=hrel
  have d7:=F1.c7
  have d9:=F1.c9
  by_cases hlt:i<n
  ·have g1:(i:Int)<(n:Int):=by omega
   obtain⟨b,hb⟩:∃ b,Q1[i]?=some b:=⟨_,Lge (by rw[F1.ql];exact hlt)⟩
   have di:=F1.qs i b hb
   have zi:=F1.zq i
   cases b with
   | false=>
    have HX:Hid _:=AI F1 (AI R1 hb)
    clear F1 R1 hb HPs
    go_wp2
    refine⟨⟨i+1,G1,Q1,m1,w1,P1,by go_num,by omega,HX.out.2.1,HX.out.1,hR.out.skip (.inr HX.out.2.2)⟩,?_⟩
    simp[intOf]
    omega
   | true=>
    cases w1 with
    | true=>
     have HX:Hid _:=AI F1 R1
     clear F1 R1 hb HPs
     go_wp2
     refine⟨⟨i+1,G1,Q1,m1,true,P1,by go_num,by omega,HX.out.2,HX.out.1,hR.out.skip (.inl rfl)⟩,?_⟩
     simp[intOf]
     omega
    | false=>
     have hFs:FSt (bD m) l G1 Q1:=by
      rcases hR.out with ⟨h,-⟩ | ⟨-,h,-⟩
      ·cases h
      ·exact h
     obtain⟨st,hst⟩:=hFs.known i hb
     have F2:=F1.setWait hlt false
     have R2:=R1.trans (fX (W:=wr) (j:=i) (v:=.bool false) F1.bq)
     have HP:Hid _:=fun (_:Unit)=>HPs.out () _ G1 (Q1.set i false) m1 false P1 F2 R2 i hlt st hst (hFs.at_ i)
     have HX:Hid _:=AI F1 R2
     clear F1 R1 hb HPs hFs hst F2 R2
     go_wp2_with fail
     refine (HP.out ()).mono ?_
     rintro e w2 ⟨rfl,R3,G2,Q2,m2,w2',P2,F3,hp⟩
     have hql:=HX.out.1.ql
     go_wp2
     refine⟨⟨i+1,G2,Q2,m2,w2',P2,by go_num,by omega,HX.out.2.trans R3,F3,hR.out.pass (by omega) hp⟩,?_⟩
     simp[intOf]
     omega
  ·have g1:¬ (i:Int)<(n:Int):=by omega
   have HX:Hid _:=AI F1 R1
   clear F1 R1
   go_wp2
   go_end0
   have e:i=n:=by omega
   subst e
   exact⟨rfl,HX.out.2,G1,Q1,m1,w1,P1,HX.out.1,hR.out⟩
theorem bCd:(prog.info? 159).map (fun i=>(i.zero,i.size))=some (some (.agg #[.slice none 0 0,.slice none 0 0,.int .i64 0,.int .i64 0,.slice none 0 0,.slice none 0 0,.slice none 0 0,.slice none 0 0,.bool false,.bool false]),10):=by kernel_rfl
theorem bBz:(prog.info? 161).map (fun i=>(i.zero,i.size,i.bytes))=some (some (.pointer none),1,8):=by kernel_rfl
theorem bBq (n:Nat)(hn:n≤100000)(W:World):(Instr.makeSlice 157 (.int .i64 (n:Int)) (.int .i64 (n:Int))).run prog W=.ok (.slice (some ⟨W.heap.size,0,none⟩) n n) (W.alloc (.cells (madeCells #[.pointer none] n) 161)):=by
 obtain⟨i0,hi,hz0,hz1,hz2⟩:=info_parts bBz
 have:=run_make (P:=prog) W 157 161 i0 (.pointer none) underlying157 hi hz0 .i64 .i64 n n (by omega) (by omega) (by rw[hz2];omega) (by omega)
 simp only[Int.toNat_natCast,hz1,Nat.mul_one] at this
 exact this
theorem N6 {o:Oper}{a:Act}{w w':World}{K:Act→World→Prop}{Q:Exit→Act→World→Prop} (t:TypeId) (x y:Operand) (ho:o.op=.makeSlice t x y) (u v r:Value) (hx:a.eval x=u) (hy:a.eval y=v) (hrun:(Instr.makeSlice t u v).run prog w=.ok r w')
  (h:K (a.put o.dst r) w'):o.wp prog a w K Q:=by
 unfold Oper.wp execOp
 simp only[ho,Sem.run_bind,Sem.run_pure,Result.andThen_ok,hx,hy,hrun]
 exact h
theorem zN {W W1:World}{o:Obj} (h:W.alloc o=W1):W1.heap[W.heap.size]?=some o∧Fr [] W W1∧W.heap.size<W1.heap.size:=by
 subst h
 exact⟨wan W o,(Fr.refl [] W).alloc _,by simp⟩
theorem aXq {w WR:World}{g:Nat}{c c':Array Value}{t:TypeId} (h:w.setRow g c'=WR) (k:w.heap[g]?=some (.cells c t)):WR.heap[g]?=some (.cells c' t)∧(∀ x,x≠g→WR.heap[x]?=w.heap[x]?)∧∀ w0:World,Fr [] w0 w→w0.heap.size≤g→Fr [] w0 WR:=by
 subst h
 exact⟨rE k,fun x hx=>mC hx,fun w0 hf hg=>rD hf hg⟩
theorem aLu {W:World}{B fb kb qb n:Nat}{tv pv gv arv mf av:Value} (hfb:W.heap[fb]?=some (.cells #[tv,pv,gv,arv,mf,av,.slice (some ⟨kb,0,none⟩) n n,.slice (some ⟨qb,0,none⟩) n n,.bool false,.bool false] 159))
  (hkb:W.heap[kb]?=some (.cells (madeCells #[.pointer none] n) 161)) (hqb:W.heap[qb]?=some (.cells (madeCells #[.bool false] n) 4)) (n1:fb≠kb) (n2:fb≠qb) (n3:kb≠qb) (b1:B≤fb) (b2:B≤kb) (b3:B≤qb) :
  iN W B fb kb qb n av mf (List.replicate n none) (List.replicate n false) false false (fun _=>0):=by
 have ef:∀ j,W.cell? ⟨fb,j,none⟩=(#[tv,pv,gv,arv,mf,av,.slice (some ⟨kb,0,none⟩) n n,.slice (some ⟨qb,0,none⟩) n n,.bool false,.bool false]:Array Value)[j]?:=fun j=>by unfold World.cell?;rw[hfb];simp
 have hm:∀ (z:Value) (k:Nat),k<n→(madeCells #[z] n)[k]?=some z:=fun z k hk=>by rw[← Array.getElem?_toList,toList_madeCells_one,List.getElem?_replicate,if_pos hk]
 have hno:∀ (i:Nat) (s:List Nat),(List.replicate n (none:Option (List Nat)))[i]?=some (some s)→False:=fun i s h=>by
  rw[List.getElem?_replicate] at h
  split at h <;> cases h
 have hl:∀ {α:Type}{z x:α}{i:Nat},(List.replicate n z)[i]?=some x→x=z∧i<n:=fun {α z x i} h=>by
  rw[List.getElem?_replicate] at h
  split at h
  ·cases h;exact⟨rfl,by assumption⟩
  ·cases h
 refine⟨by rw[ef];rfl,by rw[ef];rfl,by rw[ef];rfl,by rw[ef];rfl,by rw[ef];rfl,by rw[ef];rfl,by simp,by simp,fun i hi=>?_,fun i s hi=>(hno i s hi).elim,fun i j s t hi=>(hno i s hi).elim,fun i b hi=>?_,fun i=>?_,fun i=>?_,fun i=>?_,n1,n2,n3,b1,b2,b3,(Age.1 hkb).1,(Age.1 hqb).1,fun i s hi=>(hno i s hi).elim⟩
 ·unfold World.cell?
  rw[hkb]
  exact hm _ i (hl hi).2
 ·obtain⟨rfl,h2⟩:=hl hi
  unfold World.cell?
  rw[hqb]
  exact hm _ i h2
 ·unfold World.frozen?;rw[hfb];simp
 ·unfold World.frozen?;rw[hkb];simp
 ·unfold World.frozen?;rw[hqb];simp
def LpP (par:Nat→Nat) (l:List Stp) (B fb kb qb n:Nat) (av mf:Value) (wc:World) (gk:Nat) (W:World):Prop:=
 FrB B wc W∧∃ G Q more wrong P,iN W B fb kb qb n av mf G Q more wrong P∧((wrong=true∧¬ Flow.Safe par l)∨(wrong=false∧FSt par l G Q∧(more=false→∀ j:Nat,j<n→Q[j]?≠some true)∧2*lA G+more.toNat≤gk))
theorem aJu (n:Nat):abG (List.replicate n none)=List.replicate n none:=by simp[abG]
theorem aRd {par:Nat→Nat}{l:List Stp}{n:Nat} (hln:l.length=n) {G:List (Option (List Nat))}{Q:List Bool}{more:Bool} (g:aCi (List.replicate n none) (List.replicate n false) false 0 [] G Q more):FSt par l G Q:=by
 have h0:0<n:=by have:=g.hk;simpa using this
 refine⟨?_,?_,fun j hj=>?_,?_⟩
 ·rw[g.lay,aJu]
  have:=Low.start par l
  rw[hln] at this
  exact this
 ·rw[g.lay,aJu]
  exact tF h0
 ·have:=(g.no j hj).2
  have hx:G[j]?=some none:=by
   rw[this,List.getElem?_replicate,if_pos]
   have h1:=(Lgs.1 hj).1
   rw[g.ql] at h1
   simpa using h1
  exact oH.of_none (by rw[qL,hx];rfl)
 ·refine g.known (fun j hj=>?_)
  rw[List.getElem?_replicate] at hj
  split at hj <;> cases hj
theorem aYw {par:Nat→Nat}{l:List Stp}{n:Nat} (hln:l.length=n) {G:List (Option (List Nat))}{Q:List Bool} (h:FSt par l G Q) (hgl:G.length=n) (hql:Q.length=n) (hq:∀ j:Nat,j<n→Q[j]?≠some true):Flow.Safe par l:=by
 refine rZ (G:=abG G) (by rw[mP];omega) h.z (fun j hj=>h.done j ?_)
 have hj':j<Q.length:=by omega
 rw[Lge hj']
 have:=hq j (by omega)
 rw[Lge hj'] at this
 cases hx:Q[j] with
 | false=>rfl
 | true=>rw[hx] at this;exact absurd rfl this
def bGj (par:Nat→Nat) (l:List Stp) (e:Ending):Prop:=∃ b,e=.returned (.bool b)∧(b=true↔¬ Flow.Safe par l)
theorem aRs (w:World)(ta pa:Option Addr)(tn tc pn pc:Nat)(m:Mo)(gf off nf cap n acap:Nat)(aa:Option Addr)(hn:n≤100000)(l:List Stp)(T:List Nat)(hln:l.length=n)(hA:0<n→∃ ga,aa=some ⟨ga,0,none⟩∧ga<w.heap.size∧rV w ga l T)(hJ:vV l T n)
  (hnf:nf=m.fns.length) (hpar:∀ a,a<nf→w.cell? ⟨gf,off+a*3,none⟩=some (.int .i64 (bD m a:Nat))∧bD m a≤8) (hgf:gf<w.heap.size) (hnf2:nf≤1000) (hok:∀ s ∈ l,uA m s) :
  Calls prog 46 #[.agg #[.slice ta tn tc,.slice pa pn pc,.int .i64 m.globs,.int .i64 m.arrs,.slice (some ⟨gf,off,none⟩) nf cap],.slice aa n acap] w fun e w'=>bGj (bD m) l e∧Fr [] w w':=by
 have HALL:Hid _:=AI hln (AI hA (AI hJ (AI hnf (AI hpar (AI hgf (AI hnf2 hok))))))
 clear hln hA hJ hnf hpar hgf hnf2 hok
 have hm:prog.follows Departure.mixedOrders=true:=by kernel_rfl
 obtain⟨W0,hW0⟩:=eX (w.alloc (.cells #[.slice ta tn tc,.slice pa pn pc,.int .i64 m.globs,.int .i64 m.arrs,.slice (some ⟨gf,off,none⟩) nf cap] 25))
 have F0:Fr [] w W0:=by rw[← hW0];exact (Fr.refl [] w).alloc _
 have k0:=wan w (.cells #[.slice ta tn tc,.slice pa pn pc,.int .i64 m.globs,.int .i64 m.arrs,.slice (some ⟨gf,off,none⟩) nf cap] 25)
 rw[hW0] at k0
 have kl:=(Age.1 k0).1
 have hSt:∀ W,Fr [] W0 W→(fun w1:World=>w1.cell? ⟨w.heap.size,0,none⟩=some (.slice ta tn tc)∧w1.cell? ⟨w.heap.size,1,none⟩=some (.slice pa pn pc)∧w1.cell? ⟨w.heap.size,2,none⟩=some (.int .i64 m.globs)∧w1.cell? ⟨w.heap.size,3,none⟩=some (.int .i64 m.arrs)∧w1.cell? ⟨w.heap.size,4,none⟩=some (.slice (some ⟨gf,off,none⟩) nf cap)) W:=fun W hW=>by
  have e1:∀ j v,(#[.slice ta tn tc,.slice pa pn pc,.int .i64 m.globs,.int .i64 m.arrs,.slice (some ⟨gf,off,none⟩) nf cap]:Array Value)[j]?=some v→W.cell? ⟨w.heap.size,j,none⟩=some v:=fun j v hv=>by
   unfold World.cell?
   rw[hW.block _ kl (by simp),k0]
   exact hv
  exact⟨e1 0 _ rfl,e1 1 _ rfl,e1 2 _ rfl,e1 3 _ rfl,e1 4 _ rfl⟩
 have HSt:Hid _:=hSt
 have HF0:Hid _:=AI F0 kl
 clear hSt k0 F0 kl
 go_enter func46,ntmps46
 go_upto_region 1 with fail
 go_cut[5] from 6 to 14 (fun x wx=>∃ fb kb qb:Nat,x=.pointer (some ⟨fb,0,none⟩)∧Fr [] w wx∧iN wx w.heap.size fb kb qb n (.slice aa n acap) (.slice (some ⟨gf,off,none⟩) nf cap) (List.replicate n none) (List.replicate n false) false false (fun _=>0))
 case first=>
  refine aE (fun w1:World=>w1.cell? ⟨w.heap.size,0,none⟩=some (.slice ta tn tc)∧w1.cell? ⟨w.heap.size,1,none⟩=some (.slice pa pn pc)∧w1.cell? ⟨w.heap.size,2,none⟩=some (.int .i64 m.globs)∧w1.cell? ⟨w.heap.size,3,none⟩=some (.int .i64 m.arrs)∧w1.cell? ⟨w.heap.size,4,none⟩=some (.slice (some ⟨gf,off,none⟩) nf cap)) hm ?_
  have hS:(fun w1:World=>w1.cell? ⟨w.heap.size,0,none⟩=some (.slice ta tn tc)∧w1.cell? ⟨w.heap.size,1,none⟩=some (.slice pa pn pc)∧w1.cell? ⟨w.heap.size,2,none⟩=some (.int .i64 m.globs)∧w1.cell? ⟨w.heap.size,3,none⟩=some (.int .i64 m.arrs)∧w1.cell? ⟨w.heap.size,4,none⟩=some (.slice (some ⟨gf,off,none⟩) nf cap)) W0.drew:=HSt.out W0.drew (Fr.refl [] W0).drew
  refine wpAnyH_take (i:=0) (v:=.agg #[.slice ta tn tc,.slice pa pn pc,.int .i64 m.globs,.int .i64 m.arrs,.slice (some ⟨gf,off,none⟩) nf cap]) rfl (by kernel_rfl) (by kernel_rfl) (by kernel_rfl) (fun _ _ _ h=>h) (.inl ⟨rfl,fun w1 hS1=>?_⟩) hS ?_
  ·obtain⟨p0,p1,p2,p3,p4⟩:=hS1
   go_simp
   (try rfl)
  simp only[Act.put,Z1,Z2,Z3,Z4,Z5,Z6]
  refine aH (fun _ _ _ _ _ h=>h) hS [1,2,3,5,6] (by kernel_rfl) ?_
  iterate 5
   refine Yls.cons (v:=?_) rfl (.inl ⟨rfl,fun w1 hS1=>?_⟩) ?_
   rotate_left
   ·obtain⟨p0,p1,p2,p3,p4⟩:=hS1
    go_simp
    first | rfl | (refine (if_neg (by omega)).trans ?_;rfl)
   simp only[Act.put,Z1,Z2,Z3,Z4,Z5,Z6]
  refine Yls.nil ?_
  obtain⟨WD,hWD⟩:=eX (W0.drew)
  have FD:Fr [] W0 WD:=by rw[← hWD];exact (Fr.refl [] W0).drew
  rw[hWD]
  rw[hWD] at hS
  have hDs:=FD.size
  obtain⟨hz1,hi1⟩:=zero_of_info bCd
  have hw0:w.heap.size<W0.heap.size:=HF0.out.2
  clear hW0 hWD hS
  iterate 3
   all_goals
    try
     refine wpAnyH_take (i:=8) (v:=?_) rfl (by kernel_rfl) (by kernel_rfl) (by decide +kernel) (fun _ _ _ h=>h) (.inl ⟨rfl,fun w1 hS1=>?_⟩) (HSt.out _ FD) ?_
     rotate_left
     ·obtain⟨p0,p1,p2,p3,p4⟩:=hS1
      go_simp
      rfl
     simp only[Act.put,Z1,Z2,Z3,Z4,Z5,Z6]
    first
     | (refine wpAnyH_ready (rs:=[4,7,9]) (by decide +kernel) (by simp) ?_
        refine AllReadyH.cons rfl (fun K hK=>?_) (AllReadyH.cons rfl (fun K hK=>?_) (AllReadyH.cons rfl (fun K hK=>?_) AllReadyH.nil)))
     | (first | refine wpAnyH_ready (rs:=[7,9]) (by decide +kernel) (by simp) ?_ | refine wpAnyH_ready (rs:=[4,9]) (by decide +kernel) (by simp) ?_ | refine wpAnyH_ready (rs:=[4,7]) (by decide +kernel) (by simp) ?_
        refine AllReadyH.cons rfl (fun K hK=>?_) (AllReadyH.cons rfl (fun K hK=>?_) AllReadyH.nil))
     | (first | refine wpAnyH_ready (rs:=[9]) (by decide +kernel) (by simp) ?_ | refine wpAnyH_ready (rs:=[7]) (by decide +kernel) (by simp) ?_ | refine wpAnyH_ready (rs:=[4]) (by decide +kernel) (by simp) ?_
        refine AllReadyH.cons rfl (fun K hK=>?_) AllReadyH.nil)
   all_goals
    first
     | (refine N6 157 (.tmp 9) (.tmp 9) rfl _ _ _ rfl rfl (bBq n hn _) ?_
        generalize hW1:World.alloc _ _=W1
        obtain⟨kk,G,s1⟩:=zN hW1
        (try replace k7:=(G.block _ (by omega) (by simp)).trans k7)
        (try replace k9:=(G.block _ (by omega) (by simp)).trans k9)
        have k4:=kk)
     | (refine N6 108 (.tmp 12) (.tmp 12) rfl _ _ _ rfl rfl (aNy n hn _) ?_
        generalize hW1:World.alloc _ _=W1
        obtain⟨kk,G,s1⟩:=zN hW1
        (try replace k4:=(G.block _ (by omega) (by simp)).trans k4)
        (try replace k9:=(G.block _ (by omega) (by simp)).trans k9)
        have k7:=kk)
     | (refine mY 159 rfl _ (hz1 _) ?_
        simp only[Value.cells]
        generalize hW1:World.alloc _ _=W1
        obtain⟨kk,G,s1⟩:=zN hW1
        (try replace k4:=(G.block _ (by omega) (by simp)).trans k4)
        (try replace k7:=(G.block _ (by omega) (by simp)).trans k7)
        have k9:=kk)
    replace FD:=FD.trans G
    refine hK _ _ (HSt.out _ FD) ?_
    clear hK K hW1 kk G
    intro _
    simp only[Act.put,Z1,Z2,Z3,Z4,Z5,Z6]
  all_goals
   try
    refine wpAnyH_take (i:=8) (v:=?_) rfl (by kernel_rfl) (by kernel_rfl) (by decide +kernel) (fun _ _ _ h=>h) (.inl ⟨rfl,fun w1 hS1=>?_⟩) (HSt.out _ FD) ?_
    rotate_left
    ·obtain⟨p0,p1,p2,p3,p4⟩:=hS1
     go_simp
     rfl
    simp only[Act.put,Z1,Z2,Z3,Z4,Z5,Z6]
   refine rd1 (r:=10) (by kernel_rfl) rfl fun K hK=>?_
   refine mX 159 (.tmp 5) (.tmp 14) rfl rfl ⟨_,0,none⟩ rfl _ rfl (run_storeVar_row _ _ 159 159 _ _ k9 (by rw[hi1];rfl) rfl (by simp[Value.oneCell'])) ?_
   generalize hWR:World.setRow _ _ _=WR
   obtain⟨k10,ko,kf⟩:=aXq hWR k9
   have FR:=kf _ FD (by omega)
   refine hK _ _ (HSt.out _ FR) ?_
   clear hK K
   intro _
   refine wpAnyH_done (by kernel_rfl) ?_ _
   have HFin:Hid _:=AI (aLu (B:=w.heap.size) k10 ((ko _ (by omega)).trans k4) ((ko _ (by omega)).trans k7) (by omega) (by omega) (by omega) (by omega) (by omega) (by omega)) (HF0.out.1.trans FR)
   clear s1 hDs hw0 k4 k7 k9 k10 ko kf hWR
   go_wp2_with fail
   go_meet
   exact⟨_,_,_,rfl,HFin.out.2,HFin.out.1⟩
 case rest=>
  obtain⟨fb,kb,qb,rfl,FW,hFl⟩:=hcut
  have hzv:=(zero_of_info aIl).1
  obtain⟨Z,hZ⟩:=eX ((iK [] false).toArray)
  rw[hZ] at hzv
  have HX:Hid _:=AI hFl (AI FW hZ)
  clear hFl FW hZ hW0
  obtain⟨W5,hW5⟩:=eX (wc.alloc (.cells Z 165))
  have F5:Fr [] wc W5:=by rw[← hW5];exact (Fr.refl [] wc).alloc _
  have k5:=wan wc (.cells Z 165)
  rw[hW5] at k5
  obtain⟨hFl,FW,hZ⟩:=HX.out
  have S5:eP W5 wc.heap.size [] false:=mS (by rw[k5,← hZ]) (by simp) (fun x hx=>by cases hx)
  have hl1:=hFl.lt
  have hl2:=hFl.lk
  have hl3:=hFl.lq
  have hFl5:=hFl.fr F5 (by simp) (by simp) (by simp) (fun _ _ _=>by simp)
  have hno:∀ (j:Nat) (s:List Nat),(List.replicate n (none:Option (List Nat)))[j]?=some (some s)→(0:Nat)≠wc.heap.size:=fun j s hj=>by
   rw[List.getElem?_replicate] at hj
   split at hj <;> cases hj
  have hgo:=rP W5 w.heap.size fb kb qb n aa acap _ _ _ false false _ hFl5 hn wc.heap.size (some []) S5 (by omega) (by omega) (by omega) hno 0 (by omega) (fun x hx=>by cases hx;exact bU.nil)
  have HGo:Hid _:=fun (_:Unit)=>hgo
  have HX2:Hid _:=AI F5 FW
  clear hgo hFl5 S5 k5 F5 hFl FW hZ hl1 hl2 hl3 hno HX
  go_wp2_with fail
  refine (HGo.out ()).mono ?_
  rintro e w6 ⟨rfl,R6,-,G1,Q1,m1,wr1,P1,F6,-,hR⟩
  obtain⟨hln,hA,hJ,hnf,hpar,hgf,hnf2,hok⟩:=HALL.out
  have R56:FrB w.heap.size wc w6:=(FrB.of (S:=[]) HX2.out.1 HX2.out.2.size (by simp)).trans R6
  have hLp:LpP (bD m) l w.heap.size fb kb qb n (.slice aa n acap) (.slice (some ⟨gf,off,none⟩) nf cap) wc (2*lA G1+1) w6:=by
   refine⟨R56,G1,Q1,m1,wr1,P1,F6,?_⟩
   rcases mL hR (by simp) with ⟨rfl,rfl,rfl,rfl,hb⟩ | ⟨rfl,hgk⟩
   ·left
    refine⟨rfl,?_⟩
    rcases hb with hb | ⟨t,ht,-⟩
    ·have:l=[]:=List.eq_nil_of_length_eq_zero (by omega)
     rw[this]
     exact sE _
    ·rw[List.getElem?_replicate] at ht
     split at ht <;> cases ht
   ·right
    have g:=hgk.all (fun i s hi=>by rw[List.getElem?_replicate] at hi;split at hi <;> cases hi) bU.nil (by simp) (by simp)
    refine⟨rfl,aRd hln g,fun hm1=>?_,by cases m1 <;> simp⟩
    rcases g.same with ⟨-,rfl,-⟩ | ⟨h1,-⟩
    ·intro j hj hq
     rw[List.getElem?_replicate] at hq
     split at hq <;> cases hq
    ·rw[hm1] at h1;cases h1
  generalize 2*lA G1+1=gk0 at hLp
  have HLp:Hid _:=hLp
  have HFc:Hid _:=HX2.out.2
  clear hLp hR F6 R6 R56 HGo hln hA hJ hnf hpar hgf hnf2 hok HX2 hW5
  go_wp2
  go_loopg [] gk0 (fun gk wr=>LpP (bD m) l w.heap.size fb kb qb n (.slice aa n acap) (.slice (some ⟨gf,off,none⟩) nf cap) wc gk wr)
  case atStart=>exact HLp.out
  case round=>
   clear HLp
   obtain⟨R,G,Q,more,wrong,P,F,hst⟩:=hrel
   have d8:=F.c8
   have d9:=F.c9
   have z8:=F.zf 8
   have hFr:=FrB.to_fr HFc.out (Nat.le_refl _) R
   have HFr:Hid _:=hFr
   obtain⟨hln,hA,hJ,hnf,hpar,hgf,hnf2,hok⟩:=HALL.out
   cases wrong with
   | true=>
    have hno:¬ Flow.Safe (bD m) l:=by
     rcases hst with ⟨-,h⟩ | ⟨h,-⟩
     ·exact h
     ·cases h
    have HN:Hid _:=hno
    clear hno hst F R hFr hln hA hJ hnf hpar hgf hnf2 hok
    cases more with
    | true=>
     go_wp2
     go_ret
     exact⟨⟨true,rfl,fun _=>HN.out,fun _=>rfl⟩,HFr.out⟩
    | false=>
     go_wp2
     go_ret
     exact⟨⟨true,rfl,fun _=>HN.out,fun _=>rfl⟩,HFr.out⟩
   | false=>
    obtain⟨hFs,hq,hgk⟩:FSt (bD m) l G Q∧(more=false→∀ j:Nat,j<n→Q[j]?≠some true)∧2*lA G+more.toNat≤gk:=by
     rcases hst with ⟨h,-⟩ | ⟨-,h⟩
     ·cases h
     ·exact h
    cases more with
    | false=>
     have hsafe:=aYw hln hFs F.gl F.ql (hq rfl)
     have HN:Hid _:=hsafe
     clear hsafe hst F R hFr hln hA hJ hnf hpar hgf hnf2 hok hFs hq hgk
     go_wp2
     go_ret
     exact⟨⟨false,rfl,fun h=>(by cases h),fun h=>absurd HN.out h⟩,HFr.out⟩
    | true=>
     have h0:0<n:=by
      have:=hFs.z
      have h1:=(Lgs.1 this).1
      rw[mP,F.gl] at h1
      exact h1
     obtain⟨ga,rfl,hga,hI⟩:=hA h0
     have F2:=F.setMore false
     have R2:=R.trans (fX (W:=wr) (j:=8) (v:=.bool false) F.bf)
     have hB:∀ k,k<w.heap.size→(wr.setCell ⟨fb,8,none⟩ (.bool false)).heap[k]?=w.heap[k]?:=fun k hk=>(R2.block k hk).trans (HFc.out.block k hk (by simp))
     have hrn:=aPj _ w.heap.size fb kb qb n ga acap gf off nf cap m l T G Q P F2 hn hln (hI.of_block (hB ga hga)) hga hJ hnf (fun a ha=>⟨by unfold World.cell?;rw[hB gf hgf];exact (hpar a ha).1,(hpar a ha).2⟩) hgf hnf2 hok hFs
     have HRn:Hid _:=fun (_:Unit)=>hrn
     have HX3:Hid _:=AI R2 hgk
     clear hrn R2 hgk hB F2 hI hga hst F R hFr hln hA hJ hnf hpar hgf hnf2 hok hFs hq h0
     go_wp2_with fail
     refine (HRn.out ()).mono ?_
     rintro e w7 ⟨rfl,R7,G2,Q2,m2,wr2,P2,F7,hR7⟩
     have hnew:∃ gk',gk'<gk∧LpP (bD m) l w.heap.size fb kb qb n (.slice (some ⟨ga,0,none⟩) n acap) (.slice (some ⟨gf,off,none⟩) nf cap) wc gk' w7:=by
      have hg:=HX3.out.2
      simp only[Bool.toNat_true] at hg
      rcases hR7 with ⟨h1,h2⟩ | ⟨h1,h2,h3⟩
      ·exact⟨0,by omega,HX3.out.1.trans R7,G2,Q2,m2,wr2,P2,F7,.inl ⟨h1,h2⟩⟩
      ·rcases h3 with ⟨h3,rfl,h5⟩ | ⟨h3,h4⟩
       ·exact⟨2*lA G2,by omega,HX3.out.1.trans R7,G2,Q2,m2,wr2,P2,F7,.inr ⟨h1,h2,fun _=>h5,by rw[h3];simp⟩⟩
       ·exact⟨2*lA G2+1,by omega,HX3.out.1.trans R7,G2,Q2,m2,wr2,P2,F7,.inr ⟨h1,h2,fun h=>(by rw[h3] at h;cases h),(by rw[h3];simp)⟩⟩
     obtain⟨gk',hlt',hnew⟩:=hnew
     have HNw:Hid _:=AI hlt' hnew
     clear hlt' hnew hR7 F7 R7 HX3 HRn
     go_wp2
     go_roundg gk'
     case measure=>exact HNw.out.1
     case rel=>exact HNw.out.2
open Wire
theorem aId (p l:Int)(c:ByteArray)(i:Nat)(w:World)(hc:c.size≤9223372036854775807)(hi:i≤1000000000) :
  Calls prog 21 #[.agg #[.int .i64 p,.int .i64 l,.string c],.int .i64 i] w fun e w'=>e=.returned (.bool (fI ⟨p,l,c⟩ i))∧Fr [] w w':=by
 have hL:=sH (f:=⟨p,l,c⟩) (i:=i)
 simp only at hL
 generalize fI ⟨p,l,c⟩ i=R at *
 by_cases h1:p<0
 ·have hR:R=false:=by cases R <;> simp at hL ⊢ <;> omega
  subst hR
  clear hL
  go_enter func21,ntmps21
  go_wp2
  go_ret
  exact⟨rfl,(Fr.refl [] w).alloc _⟩
 ·skip
  by_cases h2:8<p
  ·have hR:R=false:=by cases R <;> simp at hL ⊢ <;> omega
   subst hR
   clear hL
   go_enter func21,ntmps21
   go_wp2
   go_ret
   exact⟨rfl,(Fr.refl [] w).alloc _⟩
  ·skip
   by_cases h3:l<p
   ·have hR:R=false:=by cases R <;> simp at hL ⊢ <;> omega
    subst hR
    clear hL
    go_enter func21,ntmps21
    go_wp2
    go_ret
    exact⟨rfl,(Fr.refl [] w).alloc _⟩
   ·skip
    by_cases h4:16<l
    ·have hR:R=false:=by cases R <;> simp at hL ⊢ <;> omega
     subst hR
     clear hL
     go_enter func21,ntmps21
     go_wp2
     go_ret
     exact⟨rfl,(Fr.refl [] w).alloc _⟩
    ·skip
     by_cases h5:(20000:Int)<c.size
     ·have hR:R=false:=by cases R <;> simp at hL ⊢ <;> omega
      subst hR
      clear hL
      go_enter func21,ntmps21
      go_wp2
      go_ret
      exact⟨rfl,(Fr.refl [] w).alloc _⟩
     ·skip
      by_cases h6:(2:Int)<i
      ·have hR:R=true:=by cases R <;> simp at hL ⊢ <;> omega
       subst hR
       clear hL
       go_enter func21,ntmps21
       go_wp2
       go_ret
       exact⟨rfl,(Fr.refl [] w).alloc _⟩
      ·skip
       by_cases h7:p=0
       ·subst h7
        have hR:R=true:=by cases R <;> simp at hL ⊢ <;> omega
        subst hR
        clear hL
        go_enter func21,ntmps21
        go_wp2
        go_ret
        exact⟨rfl,(Fr.refl [] w).alloc _⟩
       ·have h8:(p==0)=false:=by simpa using h7
        have hR:R=false:=by cases R <;> simp at hL ⊢ <;> omega
        subst hR
        clear hL
        go_enter func21,ntmps21
        go_wp2
        go_ret
        exact⟨rfl,(Fr.refl [] w).alloc _⟩
theorem pO (n:Nat)(h:n<9223372036854775808):∃ D:ByteArray,mkR (aY n)=D∧D.size≤10∧Hid (∀ W:World,Calls prog 22 #[.int .i64 n] W fun e w'=>e=.returned (.string D)∧Fr [] W w'):=
 ⟨_,rfl,by rw[eJ];exact fK n,fun W=>lE n W h⟩
theorem aDg (k:Nat)(C A B:ByteArray)(w:World)(hk:k<128)(hC:C.size≤1000000000)(hA:A.size≤10)(hB:B.size≤10)
  (H1:Hid (∀ W:World,Calls prog 22 #[.int .i64 k] W fun e w'=>e=.returned (.string A)∧Fr [] W w')) (H2:Hid (∀ W:World,Calls prog 22 #[.int .i64 C.size] W fun e w'=>e=.returned (.string B)∧Fr [] W w')) :
  Calls prog 23 #[.int .i64 k,.string C] w fun e w'=>e=.returned (.string (A++B++C))∧Fr [] w w':=by
 have z3:(A++B).size=A.size+B.size:=ByteArray.size_append
 go_enter func23,ntmps23
 go_wp2_with fail
 refine (H1.out _).mono ?_
 rintro e w1 ⟨rfl,f1⟩
 go_wp2_with fail
 refine (H2.out _).mono ?_
 rintro e w2 ⟨rfl,f2⟩
 go_wp2
 go_ret
 exact⟨rfl,f1.trans f2⟩
theorem lL (k:Nat)(c:List UInt8)(w:World)(hk:k<128)(hc:c.length≤1000000000):Calls prog 23 #[.int .i64 k,.string (mkR c)] w fun e w'=>e=.returned (.string (mkR (bR k c)))∧Fr [] w w':=by
 obtain⟨A,hA,zA,H1⟩:=pO k (by omega)
 obtain⟨B,hB,zB,H2⟩:=pO (mkR c).size (by rw[eJ];omega)
 have h:=aDg k (mkR c) A B w hk (by rw[eJ];exact hc) zA zB H1 H2
 have e1:A++B++mkR c=mkR (bR k c):=by
  rw[← hA,← hB,gY,gY,eJ,yF hk,bR]
  simp
 rw[e1] at h
 exact h
theorem zW (L:List ByteArray)(k:Nat)(x:ByteArray)(h:L[k]?=some x):cB (L.take (k+1))=cB (L.take k)++(aY x.size++bl x):=by
 obtain⟨hk,rfl⟩:=Lgs.1 h
 rw[List.take_succ_eq_append_getElem hk,cB,List.flatMap_append]
 simp[cB,fP]
theorem aFt (L:List ByteArray)(k:Nat)(hs:∀ s ∈ L,s.size≤100):(cB (L.take k)).length≤110*k:=by
 induction k with
 | zero=>simp[cB]
 | succ k ih=>
  cases hx:L[k]? with
  | none=>
   have:L.length≤k:=by simpa using hx
   rw[List.take_of_length_le (by omega)] at ih ⊢
   omega
  | some x=>
   rw[zW L k x hx,Lla,Lla,aD]
   have:=hs x (List.mem_of_getElem? hx)
   have:=fK x.size
   omega
theorem xY (tv:Value)(L:List ByteArray)(w:World)(hs:∀ s ∈ L,s.size≤100)(hn:L.length≤1000)(hL:nO w tv L) :
  Calls prog 24 #[tv] w fun e w'=>e=.returned (.string (mkR (aZ L)))∧Fr [] w w':=by
 have hm:prog.follows .mixedOrders=true:=by kernel_rfl
 obtain⟨a0,cap,g,off,rfl,hc,ha,hx⟩:=hL
 have H1:Hid _:=fun W=>lE L.length W (by omega)
 have HD:Hid _:=fun (n:Nat) (W:World) (h:n<9223372036854775808)=>lE n W h
 have l1:=fK L.length
 have HX:Hid _:=hx
 have HA:Hid _:=ha
 have HS:Hid _:=hs
 clear hx ha hs
 go_enter func24,ntmps24
 go_wp2_with fail
 refine (H1.out _).mono ?_
 rintro e w1 ⟨rfl,f1⟩
 clear H1
 go_wp2
 go_loopw [3,4] (fun s i wr=>∃ k:Nat,k≤L.length∧i=.int .i64 k∧s=.string (mkR (aY L.length++cB (L.take k)))∧Fr [] w wr) (fun _ i _=>L.length-(intOf i).toNat)
 case atStart=>exact⟨0,by omega,rfl,by simp[cB],f1⟩
 case round=>
  obtain⟨k,hk,rfl,rfl,fr⟩:=hrel
  by_cases hlt:k<L.length
  ·have g1:(k:Int)<L.length:=by omega
   obtain⟨rfl,hgl⟩:=HA.out (by omega)
   obtain⟨x,hx⟩:∃ x,L[k]?=some x:=⟨_,Lge hlt⟩
   have hxs:=HS.out x (List.mem_of_getElem? hx)
   have c0:wr.cell? ⟨g,off+k,none⟩=some (.string x):=(fr.cell (p:=⟨g,off+k,none⟩) hgl (by simp)).trans (HX.out k x hx)
   have hts:=aFt L k HS.out
   have hsn:=zW L k x hx
   have e1:mkR (aY L.length++cB (L.take k))++mkR (aY x.size)++x=mkR (aY L.length++cB (L.take (k+1))):=by
    conv=>lhs;rhs;rw[← aUq x]
    rw[gY,gY,hsn]
    simp
   have hd:=fK x.size
   have z0:(mkR (aY L.length++cB (L.take k))).size≤200000:=by rw[eJ,Lla];omega
   have z1:(mkR (aY x.size)).size≤10:=by rw[eJ];exact hd
   have z2:(mkR (aY L.length++cB (L.take k))++mkR (aY x.size)).size=(mkR (aY L.length++cB (L.take k))).size+(mkR (aY x.size)).size:=ByteArray.size_append
   have hdg:=fun W=>HD.out x.size W (by omega)
   have HDG:Hid _:=hdg
   have E1:Hid _:=e1
   have hgr:=Nll hgl fr.size
   clear hx hsn hts e1 hd hdg
   generalize mkR (aY L.length++cB (L.take k))=T at *
   generalize mkR (aY x.size)=D at *
   go_wp2
   refine aE (fun w1=>w1.cell? ⟨g,off+k,none⟩=some (.string x)) hm ?_
   have hS:(fun w1=>w1.cell? ⟨g,off+k,none⟩=some (.string x)) wr.drew:=c0
   refine aH (fun _ _ _ _ _ h=>h) hS [0,1,2,3,4,5,8,9,10,11] (by kernel_rfl) ?_
   iterate 10
    refine Yls.cons (v:=?_) rfl (.inl ⟨rfl,fun w1 hS1=>?_⟩) ?_
    rotate_left
    ·have q1:=hS1
     go_simp
     first | rfl | (refine (if_neg (by omega)).trans ?_;rfl)
    simp only[Act.put,Z1,Z2,Z3,Z4,Z5,Z6]
   refine Yls.nil ?_
   refine rd1 (r:=6) (by kernel_rfl) rfl fun K hK=>?_
   go_simp
   refine (HDG.out _).mono ?_
   rintro e W2 ⟨rfl,f2⟩
   refine hK _ _ ((f2.cell (p:=⟨g,off+k,none⟩) hgr (by simp)).trans c0) ?_
   clear hK K
   intro hS2
   refine aH (fun _ _ _ _ _ h=>h) hS2 [7,12,13] (by kernel_rfl) ?_
   iterate 3
    refine Yls.cons (v:=?_) rfl (.inl ⟨rfl,fun w1 hS1=>?_⟩) ?_
    rotate_left
    ·have q1:=hS1
     go_simp
     first | rfl | (refine (if_neg (by omega)).trans ?_;rfl)
    simp only[Act.put,Z1,Z2,Z3,Z4,Z5,Z6]
   refine Yls.nil ?_
   refine wpAnyH_done (by kernel_rfl) ?_ _
   have f3:Fr [] w W2:=fr.drew.trans f2
   clear hS hS2 c0 HDG
   go_wp2
   refine⟨⟨k+1,by omega,by go_num,congrArg Value.string E1.out,f3⟩,by simp[intOf];omega⟩
  ·have g1:¬ ((k:Int)<L.length):=by omega
   have e1:mkR (aY L.length++cB (L.take k))=mkR (aZ L):=by rw[List.take_of_length_le (by omega),aZ]
   rw[e1]
   go_wp2
   go_ret
   exact⟨rfl,fr⟩
variable {t : ByteArray}
def qD (place length:Nat):Nat:=(if place=0 then 1 else 0)+(if place=length then 2 else 0)
theorem bEo (p l:Nat):qD p l<4:=by unfold qD;split <;> split <;> decide
def aO (x:ByteArray) (k:Nat):Nat:=if h:k<x.size then x[k].toNat else 0
theorem rQ {t:ByteArray}{k:Nat} (h:k<t.size):dZ t k=aO t k:=by unfold dZ aO;rw[dif_pos h,dif_pos h]
theorem vR {t:ByteArray}{k:Nat} (h:t.size≤k):dZ t k = -1:=by unfold dZ;rw[dif_neg (by omega)]
theorem kH (a:ByteArray)(s e i:Nat)(h:s+i<e)(he:e≤a.size):aO (a.extract s e) i=aO a (s+i):=by
 have h2:i<(a.extract s e).size:=by rw[ByteArray.size_extract];omega
 unfold aO
 rw[dif_pos h2,dif_pos (by omega),ByteArray.getElem_extract]
theorem aJg (t:ByteArray)(k:Nat):aO t k<256:=by
 unfold aO
 split
 ·exact UInt8.toNat_lt _
 ·decide
section
variable {lit t : ByteArray} {k m : Nat} {q : Piece} {s : St}
end
section
variable {lit x : ByteArray} {q : Piece} {s : St}
end
end Go.Proofs.YtgpamchpeamnfaaGreatDoor
