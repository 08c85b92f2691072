/-
  Texts Jj Jk Hc Sr Hd.
-/
import Derived.Lib.ReflectliteSwap
import Derived.Shelf.Strings.Repeat
import Derived.Test.YtclkgoigmgkffaaGreatDoorProg
import Derived.Deep.RegionHeld
import Derived.Test.YtclkgoigmgkffaaGreatDoorMA
import Derived.Test.YtclkgoigmgkffaaGreatDoorM28
import Derived.Test.YtclkgoigmgkffaaGreatDoorM25
import Derived.Test.YtclkgoigmgkffaaGreatDoorM02
import Derived.Test.YtclkgoigmgkffaaGreatDoorM04
set_option linter.unusedSimpArgs false
set_option linter.unusedVariables false
set_option maxRecDepth 100000
set_option maxHeartbeats 40000000
namespace Go.Proofs.YtclkgoigmgkffaaGreatDoor
open Go.RowKit
open Wire Flow Mach
theorem aggK:∀ w,(isAgg 185).run Tryz.prog w=.ok true w:=fun w=>by
 simp[isAgg,go_sem,Tryz.underlying185]
theorem load_stk (W:World)(sb:Nat)(s:List Nat)(wr:Bool)(h:StkC W sb s wr):(loadVar 185 ⟨sb,0,none⟩).run Tryz.prog W=.ok (.agg (stkV s wr).toArray) W:=by
 have hi:=infoK
 cases hq:Tryz.prog.info? 185 with
 | none=>rw[hq] at hi;simp at hi
 | some ie=>
  rw[hq] at hi
  simp only[Option.map_some,Option.some.injEq,Prod.mk.injEq] at hi
  have:=Lib.rl_loadVar_cells (P:=Tryz.prog) 185 ie hq aggK sb 0 (stkV s wr) (by rw[stkV_len,hi.2]) W (fun j v hv=>by rw[Nat.zero_add];exact h.all j v hv)
  exact this
theorem store_stk (W:World)(s:List Nat)(wr:Bool):(storeVar 185 ⟨W.heap.size,0,none⟩ (.agg (stkV s wr).toArray)).run Tryz.prog (W.alloc (.cells (stkV [] false).toArray 185))=.ok () (W.alloc (.cells (stkV s wr).toArray 185)):=
 run_storeVar_new (P:=Tryz.prog) W 185 (stkV [] false).toArray (stkV s wr).toArray (by rw[(zero_of_info infoK).2];simp[stkV_len]) (by simp[stkV_len]) (by simp;exact stkV_one s wr)
theorem wpList_loadB {ops:Array Oper}{rest:List Oper}{o:Oper}{a:Act}{w:World}{Q:Exit→Act→World→Prop} (hgd:o.guard=none) (t:TypeId) (x:Operand) (ho:o.op=.load t x) (ad:Addr) (hx:a.eval x=.pointer (some ad)) (v:Value)
  (hrun:(loadVar t ad).run Tryz.prog w=.ok v w) (h:wpList Tryz.prog ops Q rest (a.put o.dst v) w):wpList Tryz.prog ops Q (o :: rest) a w:=by
 refine wpList_plain hgd fun K hK=>?_
 unfold Oper.wp execOp
 simp only[ho,Sem.run_bind,Sem.run_pure,Result.andThen_ok,hx,Instr.loadAt,Instr.sureAddr,hrun]
 exact hK _ _ h
theorem wpList_storeB {ops:Array Oper}{rest:List Oper}{o:Oper}{a:Act}{w w':World}{Q:Exit→Act→World→Prop} (hgd:o.guard=none) (t:TypeId) (p x:Operand) (ho:o.op=.store t p x) (hd:o.dst=none) (ad:Addr) (hp:a.eval p=.pointer (some ad)) (v:Value) (hx:a.eval x=v)
  (hrun:(storeVar t ad v).run Tryz.prog w=.ok () w') (h:wpList Tryz.prog ops Q rest a w'):wpList Tryz.prog ops Q (o :: rest) a w:=by
 refine wpList_plain hgd fun K hK=>?_
 unfold Oper.wp execOp
 simp only[ho,Sem.run_bind,Sem.run_pure,Result.andThen_ok,hp,hx,Instr.storeAt,Instr.sureAddr,hrun]
 refine hK _ _ ?_
 rw[hd]
 exact h
theorem wpList_allocB {ops:Array Oper}{rest:List Oper}{o:Oper}{a:Act}{w:World}{Q:Exit→Act→World→Prop} (hgd:o.guard=none) (t:TypeId) (ho:o.op=.alloc t) (z:Value) (hz:(zeroValue t).run Tryz.prog w=.ok z w)
  (h:wpList Tryz.prog ops Q rest (a.put o.dst (.pointer (some ⟨w.heap.size,0,none⟩))) (w.alloc (.cells z.cells t))):wpList Tryz.prog ops Q (o :: rest) a w:=by
 refine wpList_plain hgd fun K hK=>?_
 unfold Oper.wp execOp
 simp only[ho,Sem.run_bind,Sem.run_pure,Result.andThen_ok]
 have hr:(Instr.alloc t true (.tuple #[])).run Tryz.prog w=.ok (.pointer (some ⟨w.heap.size,0,none⟩)) (w.alloc (.cells z.cells t)):=by
  unfold Instr.alloc
  simp[go_sem,hz,Result.andThen]
 rw[hr]
 exact hK _ _ h
theorem go_new (W:World)(B fb kb qb n:Nat)(aa:Option Addr)(acap:Nat)(mf:Value)(G:List (Option (List Nat)))(Q:List Bool)(more wrong:Bool)(P:Nat→Nat)(h:FloC W B fb kb qb n (.slice aa n acap) mf G Q more wrong P)(hn:n≤100000)
  (sb:Nat) (s:List Nat) (hs:StkO W sb (some s)) (h1:sb≠fb) (h2:sb≠qb) (h3:sb≠kb) (hP:∀ j s,G[j]?=some (some s)→P j≠sb) (i:Nat) (hi:i<n) (hG:G[i]?=some none) (hbs:BitsL s) :
  Calls Tryz.prog 112 #[.pointer (some ⟨fb,0,none⟩),.int .i64 i,.pointer (some ⟨sb,0,none⟩)] W (GoP B fb kb qb n (.slice aa n acap) mf W sb (some s) G Q more wrong i):=by
 have hst:StkC W sb s false:=hs
 have s0:=hst.c0
 have s1:=hst.c1
 have c5:=h.c5
 have c6:=h.c6
 have q1:((i:Int)==(n:Int))=false:=by simp;omega
 have g1:(i:Int)<(n:Int):=by omega
 have k1:=h.ks i hG
 have HF:Hid _:=AI h (AI hG hst)
 clear h hst hs hG
 go_enter Tryz.func112,Tryz.ntmps112
 go_wp2
 go_quiet (fail)
 go_upto_if 48 with fail
 obtain⟨WD,hWD⟩:∃ WD,W.drewN nq=WD:=⟨_,rfl⟩
 have stD:StkC WD sb s false:=by rw[← hWD];exact HF.out.2.2.of_block rfl
 have c6:WD.cell? ⟨fb,6,none⟩=some (.slice (some ⟨kb,0,none⟩) n n):=by rw[← hWD];exact HF.out.1.c6
 have Fq:Fr [] W WD:=by rw[← hWD];exact (Fr.refl [] W).drewN nq
 rw[hWD]
 have hld:=load_stk WD sb s false stD
 have hzv:=(zero_of_info infoK).1 WD
 have hsv:=store_stk WD s false
 generalize hV:stkV s false=V at *
 generalize hZ:stkV [] false=Z at *
 obtain⟨W5,hW5⟩:∃ W5,WD.alloc (.cells V.toArray 185)=W5:=⟨_,rfl⟩
 have F5:Fr [] WD W5:=by rw[← hW5];exact (Fr.refl [] WD).alloc _
 have k5:=wan WD (.cells V.toArray 185)
 rw[hW5] at k5
 have st5:StkC W5 WD.heap.size s false:=stkC_of_block (by rw[hV];exact k5) stD.hi stD.sm
 have hf:=HF.out.1
 have hB1:B≤W.heap.size:=Nat.le_trans hf.bf (Nat.le_of_lt hf.lt)
 have hNew:=hf.new HF.out.2.1 (nb:=WD.heap.size) Fq.size hB1 (Fq.trans F5) st5 hbs
 have hf5:=hf.fr (Fq.trans F5) (by simp) (by simp) (by simp) (fun _ _ _=>by simp)
 have c6':=hf5.c6
 have e1:=hf5.ks i HF.out.2.1
 have zk:=hf5.zk i
 obtain⟨W6,hW6⟩:∃ W6,W5.setCell ⟨kb,i,none⟩ (.pointer (some ⟨WD.heap.size,0,none⟩))=W6:=⟨_,rfl⟩
 rw[hW6] at hNew
 have d7:=hNew.c7
 have d8:=hNew.c8
 have zi:=hNew.zq i
 obtain⟨b0,hb0⟩:∃ b0,Q[i]?=some b0:=⟨_,Lge (by rw[hNew.ql];exact hi)⟩
 have di:=hNew.qs i b0 hb0
 have d8':(W6.setCell ⟨qb,i,none⟩ (.bool true)).cell? ⟨fb,8,none⟩=some (.bool more):=(hNew.setWait hi true).c8
 have z8':(W6.setCell ⟨qb,i,none⟩ (.bool true)).frozen? ⟨fb,8,none⟩=false:=(hNew.setWait hi true).zf 8
 have hsbl:W5.heap[sb]?=W.heap[sb]?:=(Fq.trans F5).block sb HF.out.2.2.lt (by simp)
 have hBW:FrB B W W6:=by
  rw[← hW6]
  exact (FrB.of (S:=[]) (Fq.trans F5) hB1 (by simp)).trans (frB_set hf.bk)
 have hsb6:W6.heap[sb]?=W.heap[sb]?:=by rw[← hW6,setCell_block h3,hsbl]
 have hne:WD.heap.size≠sb:=by have:=HF.out.2.2.lt;have:=Fq.size;omega
 have HX:Hid _:=AI hNew (AI hBW (AI hsb6 (AI hne (AI hf HF.out.2.1))))
 clear stD Fq hWD hV hZ F5 k5 st5 hf hB1 hNew hf5 hsbl hBW hsb6 hne hb0 c5 s0 s1 k1
 go_wp2_with (first | (refine wpList_loadB rfl 185 _ rfl _ rfl _ hld ?_) | (refine wpList_allocB rfl 185 rfl _ hzv ?_;simp only[Value.cells]) | (refine wpList_storeB rfl 185 _ _ rfl rfl _ rfl _ rfl hsv ?_))
 go_end0
 obtain⟨x1,x2,x3,x4,x5,x6⟩:=HX.out
 refine⟨rfl,(x2.trans (frB_set x5.bq)).trans (frB_set x5.bf),?_,_,_,true,wrong,_,(x1.setWait hi true).setMore true,fun j s' hj=>?_,.inr ⟨rfl,s,rfl,hi,.inl ⟨x6,rfl,rfl,rfl⟩⟩⟩
 ·rw[setCell_block h1,setCell_block h2,x3]
 ·by_cases e:j=i
  ·subst e
   simp only[if_true]
   exact x4
  ·rw[List.getElem?_set_ne (fun e2=>e e2.symm)] at hj
   simp only[e,if_false]
   exact hP j s' hj
theorem goTo_any (W:World)(B fb kb qb n:Nat)(aa:Option Addr)(acap:Nat)(mf:Value)(G:List (Option (List Nat)))(Q:List Bool)(more wrong:Bool)(P:Nat→Nat)(h:FloC W B fb kb qb n (.slice aa n acap) mf G Q more wrong P)(hn:n≤100000)
  (sb:Nat) (o:Option (List Nat)) (hs:StkO W sb o) (h1:sb≠fb) (h2:sb≠qb) (h3:sb≠kb) (hP:∀ j s,G[j]?=some (some s)→P j≠sb) (i:Nat) (hi:i≤n) (hbs:∀ s,o=some s→BitsL s) :
  Calls Tryz.prog 112 #[.pointer (some ⟨fb,0,none⟩),.int .i64 i,.pointer (some ⟨sb,0,none⟩)] W (GoP B fb kb qb n (.slice aa n acap) mf W sb o G Q more wrong i):=by
 by_cases e:i=n
 ·subst e
  exact go_end W B fb kb qb i aa acap mf G Q more wrong P h hn sb o hs h1 hP
 ·have hlt:i<n:=by omega
  cases o with
  | none=>exact go_wrong W B fb kb qb n aa acap mf G Q more wrong P h hn sb hs h1 hP i hlt
  | some s=>
   have hb:=hbs s rfl
   obtain⟨x,hx⟩:∃ x,G[i]?=some x:=⟨_,Lge (by rw[h.gl];exact hlt)⟩
   cases x with
   | none=>exact go_new W B fb kb qb n aa acap mf G Q more wrong P h hn sb s hs h1 h2 h3 hP i hlt hx hb
   | some t=>
    by_cases he:t.length=s.length
    ·exact go_meet W B fb kb qb n aa acap mf G Q more wrong P h hn sb s t hs h1 h2 hP i hlt hx he hb
    ·exact go_high W B fb kb qb n aa acap mf G Q more wrong P h hn sb s t hs h1 hP i hlt hx he
def GoOk (G:List (Option (List Nat))) (Q:List Bool) (more:Bool) (k:Nat) (s:List Nat) (G':List (Option (List Nat))) (Q':List Bool) (more':Bool):Prop:=
 k<G.length∧(∀ t,G[k]?=some (some t)→t.length=s.length)∧((G[k]?=some none∧G'=G.set k (some s)∧Q'=Q.set k true∧more'=true) ∨
  ∃ t,G[k]?=some (some t)∧((orL t s=t∧G'=G∧Q'=Q∧more'=more)∨(orL t s≠t∧G'=G.set k (some (orL t s))∧Q'=Q.set k true∧more'=true)))
structure GoAll (G:List (Option (List Nat))) (Q:List Bool) (more:Bool) (k:Nat) (s:List Nat) (G':List (Option (List Nat))) (Q':List Bool) (more':Bool):Prop where
 lay:abG G'=laid (abG G) k (abL s)
 bits:BitsG G'
 gl:G'.length=G.length
 ql:Q'.length=Q.length
 no:∀ j:Nat,Q'[j]?=some false→Q[j]?=some false∧G'[j]?=G[j]?
 same:(G'=G∧Q'=Q∧more'=more)∨(more'=true∧leftB G'<leftB G)
 known:(∀ j:Nat,Q[j]?=some true→∃ u,G[j]?=some (some u))→∀ j:Nat,Q'[j]?=some true→∃ u,G'[j]?=some (some u)
 hk:k<G.length
 hh:∀ t,(abG G)[k]?=some (some t)→t.length=(abL s).length
theorem GoOk.all {G:List (Option (List Nat))}{Q:List Bool}{more:Bool}{k:Nat}{s:List Nat}{G':List (Option (List Nat))}{Q':List Bool}{more':Bool} (h:GoOk G Q more k s G' Q' more') (hb:BitsG G) (hs:BitsL s) (hl:s.length≤1024) (hq:Q.length=G.length):GoAll G Q more k s G' Q' more':=by
 obtain⟨hk,hh,h⟩:=h
 have hh2:∀ t,(abG G)[k]?=some (some t)→t.length=(abL s).length:=fun t ht=>by
  obtain⟨u,hu,rfl⟩:=abG_of_some ht
  rw[abL_length,abL_length]
  exact hh u hu
 have noSet:∀ x:Option (List Nat),∀ j:Nat,(Q.set k true)[j]?=some false→Q[j]?=some false∧(G.set k x)[j]?=G[j]?:=fun x j hj=>by
  by_cases e:j=k
  ·subst e
   rw[List.getElem?_set_self (by omega)] at hj
   cases hj
  ·rw[List.getElem?_set_ne (fun e2=>e e2.symm)] at hj
   exact⟨hj,List.getElem?_set_ne (fun e2=>e e2.symm)⟩
 have knownSet:∀ x:List Nat,(∀ j:Nat,Q[j]?=some true→∃ u,G[j]?=some (some u))→∀ j:Nat,(Q.set k true)[j]?=some true→∃ u,(G.set k (some x))[j]?=some (some u):=fun x hq j hj=>by
  by_cases e:j=k
  ·subst e
   exact⟨x,List.getElem?_set_self hk⟩
  ·rw[List.getElem?_set_ne (fun e2=>e e2.symm)] at hj
   obtain⟨u,hu⟩:=hq j hj
   exact⟨u,by rw[List.getElem?_set_ne (fun e2=>e e2.symm)];exact hu⟩
 rcases h with ⟨h0,rfl,rfl,rfl⟩ | ⟨t,ht,⟨e,rfl,rfl,rfl⟩ | ⟨e,rfl,rfl,rfl⟩⟩
 ·exact⟨abG_first h0,hb.set hs,by simp,by simp,noSet _,.inr ⟨rfl,leftB_first h0 hl⟩,knownSet _,hk,hh2⟩
 ·refine⟨?_,hb,rfl,rfl,fun j hj=>⟨hj,rfl⟩,.inl ⟨rfl,rfl,rfl⟩,fun hq j hj=>hq j hj,hk,hh2⟩
  have hx:=has_of_same ht (hb k t ht) hs (hh t ht) e
  rw[laid_same hx]
 ·exact⟨abG_meet ht (hb k t ht) hs,hb.set (orL_bits (hb k t ht) hs),by simp,by simp,noSet _,.inr ⟨rfl,leftB_meet ht (hb k t ht) hs (hh t ht) e⟩,knownSet _,hk,hh2⟩
structure FSt (par:Nat→Nat) (l:List Stp) (G:List (Option (List Nat))) (Q:List Bool):Prop where
 low:Low par l (abG G)
 z:(abG G)[0]?=some (some [])
 done:∀ j:Nat,Q[j]?=some false→Done par l (abG G) j
 known:∀ j:Nat,Q[j]?=some true→∃ u,G[j]?=some (some u)
structure FSi (par:Nat→Nat) (l:List Stp) (G:List (Option (List Nat))) (Q:List Bool) (i:Nat):Prop where
 low:Low par l (abG G)
 z:(abG G)[0]?=some (some [])
 done:∀ j:Nat,j≠i→Q[j]?=some false→Done par l (abG G) j
 known:∀ j:Nat,Q[j]?=some true→∃ u,G[j]?=some (some u)
def PsR (par:Nat→Nat) (l:List Stp) (G:List (Option (List Nat))) (Q:List Bool) (more wrong:Bool) (G':List (Option (List Nat))) (Q':List Bool) (more' wrong':Bool):Prop:=
 (wrong'=true∧¬ Flow.Safe par l)∨(wrong'=wrong∧FSt par l G' Q'∧((G'=G∧Q'=Q∧more'=more)∨(more'=true∧leftB G'<leftB G)))
theorem under_go {G:List (Option (List Nat))}{Q:List Bool}{more:Bool}{k:Nat}{s:List Nat}{G':List (Option (List Nat))}{Q':List Bool}{more':Bool} (h:GoAll G Q more k s G' Q' more'):Under (abG G) (abG G'):=by
 rw[h.lay]
 exact under_of_laid h.hh
theorem ps_stop {par:Nat→Nat}{l:List Stp}{G:List (Option (List Nat))}{Q:List Bool}{more wrong:Bool}{i:Nat} (h:FSi par l G Q i) {st o r:List Nat}{s:Stp} (hi:G[i]?=some (some st)) (hs:l[i]?=some s)
  (ha:after par s.op s.a (abL st)=some (abL o,abL r)) (hf:far s.op=false) (hh:halts s.op=true):PsR par l G Q more wrong G Q more wrong:=by
 refine .inr ⟨rfl,⟨h.low,h.z,fun j hj=>?_,h.known⟩,.inl ⟨rfl,rfl,rfl⟩⟩
 by_cases e:j=i
 ·subst e
  exact Done.passed (abG_some hi) hs ha (fun hx=>by rw[hf] at hx;cases hx) (fun hx=>by rw[hh] at hx;cases hx)
 ·exact h.done j e hj
theorem ps_one {par:Nat→Nat}{l:List Stp}{G:List (Option (List Nat))}{Q:List Bool}{more wrong:Bool}{i k:Nat} (h:FSi par l G Q i) {st o r u:List Nat}{s:Stp} (hi:G[i]?=some (some st)) (hs:l[i]?=some s)
  (ha:after par s.op s.a (abL st)=some (abL o,abL r)) {G1:List (Option (List Nat))}{Q1:List Bool}{more1:Bool} (g:GoAll G Q more k u G1 Q1 more1)
  (hc:(far s.op=false∧halts s.op=false∧k=i+1∧u=o)∨(far s.op=true∧halts s.op=true∧numb l s.a=some k∧u=r)):PsR par l G Q more wrong G1 Q1 more1 wrong:=by
 have hu:=under_go g
 have hhas:Has (abG G1) k (abL u):=by
  rw[g.lay]
  exact has_laid (by rw[abG_length];exact g.hk) g.hh
 have hlow:Low par l (abG G1):=by
  rw[g.lay]
  rcases hc with ⟨h1,h2,rfl,rfl⟩ | ⟨h1,h2,h3,rfl⟩
  ·exact h.low.next h.low (abG_some hi) hs ha h2
  ·exact h.low.farLow (abG_some hi) hs ha h1 h3
 refine .inr ⟨rfl,⟨hlow,?_,fun j hj=>?_,g.known h.known⟩,g.same⟩
 ·rw[g.lay]
  exact first_laid h.z g.hh
 ·obtain⟨q1,q2⟩:=g.no j hj
  by_cases e:j=i
  ·subst e
   rw[hi] at q2
   refine Done.passed (abG_some q2) hs ha (fun hx=>?_) (fun hx=>?_)
   ·rcases hc with ⟨h1,-⟩ | ⟨-,-,h3,rfl⟩
    ·rw[h1] at hx;cases hx
    ·exact⟨k,h3,hhas⟩
   ·rcases hc with ⟨-,-,rfl,rfl⟩ | ⟨-,h2,-⟩
    ·exact hhas
    ·rw[h2] at hx;cases hx
  ·exact (h.done j e q1).mono (by rw[abG_get,abG_get,q2]) hu
theorem ps_two {par:Nat→Nat}{l:List Stp}{G:List (Option (List Nat))}{Q:List Bool}{more wrong:Bool}{i k:Nat} (h:FSi par l G Q i) {st o r:List Nat}{s:Stp} (hi:G[i]?=some (some st)) (hs:l[i]?=some s)
  (ha:after par s.op s.a (abL st)=some (abL o,abL r)) {G1 G2:List (Option (List Nat))}{Q1 Q2:List Bool}{more1 more2:Bool} (g:GoAll G Q more k r G1 Q1 more1) (g2:GoAll G1 Q1 more1 (i+1) o G2 Q2 more2)
  (h1:far s.op=true) (h2:halts s.op=false) (h3:numb l s.a=some k):PsR par l G Q more wrong G2 Q2 more2 wrong:=by
 have hu:=under_go g
 have hu2:=under_go g2
 have hhas:Has (abG G1) k (abL r):=by
  rw[g.lay]
  exact has_laid (by rw[abG_length];exact g.hk) g.hh
 have hhas2:Has (abG G2) (i+1) (abL o):=by
  rw[g2.lay]
  exact has_laid (by rw[abG_length];exact g2.hk) g2.hh
 have hlow1:Low par l (abG G1):=by
  rw[g.lay]
  exact h.low.farLow (abG_some hi) hs ha h1 h3
 have hlow:Low par l (abG G2):=by
  rw[g2.lay]
  exact h.low.next hlow1 (abG_some hi) hs ha h2
 refine .inr ⟨rfl,⟨hlow,?_,fun j hj=>?_,g2.known (g.known h.known)⟩,?_⟩
 ·rw[g2.lay]
  refine first_laid ?_ g2.hh
  rw[g.lay]
  exact first_laid h.z g.hh
 ·obtain⟨q3,q4⟩:=g2.no j hj
  obtain⟨q1,q2⟩:=g.no j q3
  by_cases e:j=i
  ·subst e
   rw[q2,hi] at q4
   exact Done.passed (abG_some q4) hs ha (fun _=>⟨k,h3,Has.mono hhas hu2⟩) (fun _=>hhas2)
  ·exact (h.done j e q1).mono (by rw[abG_get,abG_get,q4,q2]) (hu.trans hu2)
 ·rcases g.same with ⟨rfl,rfl,rfl⟩ | ⟨e1,e2⟩
  ·exact g2.same
  ·rcases g2.same with ⟨rfl,rfl,rfl⟩ | ⟨e3,e4⟩
   ·exact .inr ⟨e1,e2⟩
   ·exact .inr ⟨e3,by omega⟩
open Wire Flow
def mkK (l:List Nat):ByteArray:=⟨(l.map UInt8.ofNat).toArray⟩
theorem mkK_size (l:List Nat):(mkK l).size=l.length:=by simp[mkK,ByteArray.size]
theorem kL_mkK {l:List Nat}(h:∀ x,x ∈ l→x<256):kL (mkK l)=l:=by
 unfold kL mkK
 rw[bl_mk,List.map_map]
 conv=>rhs;rw[← List.map_id l]
 apply List.map_congr_left
 intro x hx
 simp only[Function.comp,id]
 simp[UInt8.toNat_ofNat]
 exact h x hx
def leavesE (op:Nat):List Nat:=if op=17 then [] else givesB.getD op []
theorem effect_0 (w:World):Calls Tryz.prog 253 #[.int .u8 0] w fun e w'=>e=.returned (.tuple #[.string (mkK (takesB.getD 0 [])),.string (mkK (leavesE 0))])∧w'=w:=by
 go_enter Tryz.func253,Tryz.ntmps253
 go_wp2
 go_ret2
 exact⟨rfl,rfl⟩
theorem effect_1 (w:World):Calls Tryz.prog 253 #[.int .u8 1] w fun e w'=>e=.returned (.tuple #[.string (mkK (takesB.getD 1 [])),.string (mkK (leavesE 1))])∧w'=w:=by
 go_enter Tryz.func253,Tryz.ntmps253
 go_wp2
 go_ret2
 exact⟨rfl,rfl⟩
theorem effect_2 (w:World):Calls Tryz.prog 253 #[.int .u8 2] w fun e w'=>e=.returned (.tuple #[.string (mkK (takesB.getD 2 [])),.string (mkK (leavesE 2))])∧w'=w:=by
 go_enter Tryz.func253,Tryz.ntmps253
 go_wp2
 go_ret2
 exact⟨rfl,rfl⟩
theorem effect_3 (w:World):Calls Tryz.prog 253 #[.int .u8 3] w fun e w'=>e=.returned (.tuple #[.string (mkK (takesB.getD 3 [])),.string (mkK (leavesE 3))])∧w'=w:=by
 go_enter Tryz.func253,Tryz.ntmps253
 go_wp2
 go_ret2
 exact⟨rfl,rfl⟩
theorem effect_4 (w:World):Calls Tryz.prog 253 #[.int .u8 4] w fun e w'=>e=.returned (.tuple #[.string (mkK (takesB.getD 4 [])),.string (mkK (leavesE 4))])∧w'=w:=by
 go_enter Tryz.func253,Tryz.ntmps253
 go_wp2
 go_ret2
 exact⟨rfl,rfl⟩
theorem effect_5 (w:World):Calls Tryz.prog 253 #[.int .u8 5] w fun e w'=>e=.returned (.tuple #[.string (mkK (takesB.getD 5 [])),.string (mkK (leavesE 5))])∧w'=w:=by
 go_enter Tryz.func253,Tryz.ntmps253
 go_wp2
 go_ret2
 exact⟨rfl,rfl⟩
theorem effect_6 (w:World):Calls Tryz.prog 253 #[.int .u8 6] w fun e w'=>e=.returned (.tuple #[.string (mkK (takesB.getD 6 [])),.string (mkK (leavesE 6))])∧w'=w:=by
 go_enter Tryz.func253,Tryz.ntmps253
 go_wp2
 go_ret2
 exact⟨rfl,rfl⟩
theorem effect_7 (w:World):Calls Tryz.prog 253 #[.int .u8 7] w fun e w'=>e=.returned (.tuple #[.string (mkK (takesB.getD 7 [])),.string (mkK (leavesE 7))])∧w'=w:=by
 go_enter Tryz.func253,Tryz.ntmps253
 go_wp2
 go_ret2
 exact⟨rfl,rfl⟩
theorem effect_8 (w:World):Calls Tryz.prog 253 #[.int .u8 8] w fun e w'=>e=.returned (.tuple #[.string (mkK (takesB.getD 8 [])),.string (mkK (leavesE 8))])∧w'=w:=by
 go_enter Tryz.func253,Tryz.ntmps253
 go_wp2
 go_ret2
 exact⟨rfl,rfl⟩
theorem effect_9 (w:World):Calls Tryz.prog 253 #[.int .u8 9] w fun e w'=>e=.returned (.tuple #[.string (mkK (takesB.getD 9 [])),.string (mkK (leavesE 9))])∧w'=w:=by
 go_enter Tryz.func253,Tryz.ntmps253
 go_wp2
 go_ret2
 exact⟨rfl,rfl⟩
theorem effect_10 (w:World):Calls Tryz.prog 253 #[.int .u8 10] w fun e w'=>e=.returned (.tuple #[.string (mkK (takesB.getD 10 [])),.string (mkK (leavesE 10))])∧w'=w:=by
 go_enter Tryz.func253,Tryz.ntmps253
 go_wp2
 go_ret2
 exact⟨rfl,rfl⟩
theorem effect_11 (w:World):Calls Tryz.prog 253 #[.int .u8 11] w fun e w'=>e=.returned (.tuple #[.string (mkK (takesB.getD 11 [])),.string (mkK (leavesE 11))])∧w'=w:=by
 go_enter Tryz.func253,Tryz.ntmps253
 go_wp2
 go_ret2
 exact⟨rfl,rfl⟩
theorem effect_12 (w:World):Calls Tryz.prog 253 #[.int .u8 12] w fun e w'=>e=.returned (.tuple #[.string (mkK (takesB.getD 12 [])),.string (mkK (leavesE 12))])∧w'=w:=by
 go_enter Tryz.func253,Tryz.ntmps253
 go_wp2
 go_ret2
 exact⟨rfl,rfl⟩
theorem effect_13 (w:World):Calls Tryz.prog 253 #[.int .u8 13] w fun e w'=>e=.returned (.tuple #[.string (mkK (takesB.getD 13 [])),.string (mkK (leavesE 13))])∧w'=w:=by
 go_enter Tryz.func253,Tryz.ntmps253
 go_wp2
 go_ret2
 exact⟨rfl,rfl⟩
theorem effect_14 (w:World):Calls Tryz.prog 253 #[.int .u8 14] w fun e w'=>e=.returned (.tuple #[.string (mkK (takesB.getD 14 [])),.string (mkK (leavesE 14))])∧w'=w:=by
 go_enter Tryz.func253,Tryz.ntmps253
 go_wp2
 go_ret2
 exact⟨rfl,rfl⟩
theorem effect_15 (w:World):Calls Tryz.prog 253 #[.int .u8 15] w fun e w'=>e=.returned (.tuple #[.string (mkK (takesB.getD 15 [])),.string (mkK (leavesE 15))])∧w'=w:=by
 go_enter Tryz.func253,Tryz.ntmps253
 go_wp2
 go_ret2
 exact⟨rfl,rfl⟩
theorem effect_16 (w:World):Calls Tryz.prog 253 #[.int .u8 16] w fun e w'=>e=.returned (.tuple #[.string (mkK (takesB.getD 16 [])),.string (mkK (leavesE 16))])∧w'=w:=by
 go_enter Tryz.func253,Tryz.ntmps253
 go_wp2
 go_ret2
 exact⟨rfl,rfl⟩
theorem effect_17 (w:World):Calls Tryz.prog 253 #[.int .u8 17] w fun e w'=>e=.returned (.tuple #[.string (mkK (takesB.getD 17 [])),.string (mkK (leavesE 17))])∧w'=w:=by
 go_enter Tryz.func253,Tryz.ntmps253
 go_wp2
 go_ret2
 exact⟨rfl,rfl⟩
theorem effect_18 (w:World):Calls Tryz.prog 253 #[.int .u8 18] w fun e w'=>e=.returned (.tuple #[.string (mkK (takesB.getD 18 [])),.string (mkK (leavesE 18))])∧w'=w:=by
 go_enter Tryz.func253,Tryz.ntmps253
 go_wp2
 go_ret2
 exact⟨rfl,rfl⟩
theorem effect_19 (w:World):Calls Tryz.prog 253 #[.int .u8 19] w fun e w'=>e=.returned (.tuple #[.string (mkK (takesB.getD 19 [])),.string (mkK (leavesE 19))])∧w'=w:=by
 go_enter Tryz.func253,Tryz.ntmps253
 go_wp2
 go_ret2
 exact⟨rfl,rfl⟩
theorem effect_20 (w:World):Calls Tryz.prog 253 #[.int .u8 20] w fun e w'=>e=.returned (.tuple #[.string (mkK (takesB.getD 20 [])),.string (mkK (leavesE 20))])∧w'=w:=by
 go_enter Tryz.func253,Tryz.ntmps253
 go_wp2
 go_ret2
 exact⟨rfl,rfl⟩
theorem effect_21 (w:World):Calls Tryz.prog 253 #[.int .u8 21] w fun e w'=>e=.returned (.tuple #[.string (mkK (takesB.getD 21 [])),.string (mkK (leavesE 21))])∧w'=w:=by
 go_enter Tryz.func253,Tryz.ntmps253
 go_wp2
 go_ret2
 exact⟨rfl,rfl⟩
theorem effect_22 (w:World):Calls Tryz.prog 253 #[.int .u8 22] w fun e w'=>e=.returned (.tuple #[.string (mkK (takesB.getD 22 [])),.string (mkK (leavesE 22))])∧w'=w:=by
 go_enter Tryz.func253,Tryz.ntmps253
 go_wp2
 go_ret2
 exact⟨rfl,rfl⟩
theorem effect_23 (w:World):Calls Tryz.prog 253 #[.int .u8 23] w fun e w'=>e=.returned (.tuple #[.string (mkK (takesB.getD 23 [])),.string (mkK (leavesE 23))])∧w'=w:=by
 go_enter Tryz.func253,Tryz.ntmps253
 go_wp2
 go_ret2
 exact⟨rfl,rfl⟩
theorem effect_24 (w:World):Calls Tryz.prog 253 #[.int .u8 24] w fun e w'=>e=.returned (.tuple #[.string (mkK (takesB.getD 24 [])),.string (mkK (leavesE 24))])∧w'=w:=by
 go_enter Tryz.func253,Tryz.ntmps253
 go_wp2
 go_ret2
 exact⟨rfl,rfl⟩
theorem effect_25 (w:World):Calls Tryz.prog 253 #[.int .u8 25] w fun e w'=>e=.returned (.tuple #[.string (mkK (takesB.getD 25 [])),.string (mkK (leavesE 25))])∧w'=w:=by
 go_enter Tryz.func253,Tryz.ntmps253
 go_wp2
 go_ret2
 exact⟨rfl,rfl⟩
theorem effect_26 (w:World):Calls Tryz.prog 253 #[.int .u8 26] w fun e w'=>e=.returned (.tuple #[.string (mkK (takesB.getD 26 [])),.string (mkK (leavesE 26))])∧w'=w:=by
 go_enter Tryz.func253,Tryz.ntmps253
 go_wp2
 go_ret2
 exact⟨rfl,rfl⟩
theorem effect_27 (w:World):Calls Tryz.prog 253 #[.int .u8 27] w fun e w'=>e=.returned (.tuple #[.string (mkK (takesB.getD 27 [])),.string (mkK (leavesE 27))])∧w'=w:=by
 go_enter Tryz.func253,Tryz.ntmps253
 go_wp2
 go_ret2
 exact⟨rfl,rfl⟩
theorem effect_28 (w:World):Calls Tryz.prog 253 #[.int .u8 28] w fun e w'=>e=.returned (.tuple #[.string (mkK (takesB.getD 28 [])),.string (mkK (leavesE 28))])∧w'=w:=by
 go_enter Tryz.func253,Tryz.ntmps253
 go_wp2
 go_ret2
 exact⟨rfl,rfl⟩
theorem effect_29 (w:World):Calls Tryz.prog 253 #[.int .u8 29] w fun e w'=>e=.returned (.tuple #[.string (mkK (takesB.getD 29 [])),.string (mkK (leavesE 29))])∧w'=w:=by
 go_enter Tryz.func253,Tryz.ntmps253
 go_wp2
 go_ret2
 exact⟨rfl,rfl⟩
theorem effect_30 (w:World):Calls Tryz.prog 253 #[.int .u8 30] w fun e w'=>e=.returned (.tuple #[.string (mkK (takesB.getD 30 [])),.string (mkK (leavesE 30))])∧w'=w:=by
 go_enter Tryz.func253,Tryz.ntmps253
 go_wp2
 go_ret2
 exact⟨rfl,rfl⟩
theorem effect_31 (w:World):Calls Tryz.prog 253 #[.int .u8 31] w fun e w'=>e=.returned (.tuple #[.string (mkK (takesB.getD 31 [])),.string (mkK (leavesE 31))])∧w'=w:=by
 go_enter Tryz.func253,Tryz.ntmps253
 go_wp2
 go_ret2
 exact⟨rfl,rfl⟩
theorem effect_32 (w:World):Calls Tryz.prog 253 #[.int .u8 32] w fun e w'=>e=.returned (.tuple #[.string (mkK (takesB.getD 32 [])),.string (mkK (leavesE 32))])∧w'=w:=by
 go_enter Tryz.func253,Tryz.ntmps253
 go_wp2
 go_ret2
 exact⟨rfl,rfl⟩
theorem effect_33 (w:World):Calls Tryz.prog 253 #[.int .u8 33] w fun e w'=>e=.returned (.tuple #[.string (mkK (takesB.getD 33 [])),.string (mkK (leavesE 33))])∧w'=w:=by
 go_enter Tryz.func253,Tryz.ntmps253
 go_wp2
 go_ret2
 exact⟨rfl,rfl⟩
theorem effect_34 (w:World):Calls Tryz.prog 253 #[.int .u8 34] w fun e w'=>e=.returned (.tuple #[.string (mkK (takesB.getD 34 [])),.string (mkK (leavesE 34))])∧w'=w:=by
 go_enter Tryz.func253,Tryz.ntmps253
 go_wp2
 go_ret2
 exact⟨rfl,rfl⟩
theorem effect_35 (w:World):Calls Tryz.prog 253 #[.int .u8 35] w fun e w'=>e=.returned (.tuple #[.string (mkK (takesB.getD 35 [])),.string (mkK (leavesE 35))])∧w'=w:=by
 go_enter Tryz.func253,Tryz.ntmps253
 go_wp2
 go_ret2
 exact⟨rfl,rfl⟩
theorem effect_36 (w:World):Calls Tryz.prog 253 #[.int .u8 36] w fun e w'=>e=.returned (.tuple #[.string (mkK (takesB.getD 36 [])),.string (mkK (leavesE 36))])∧w'=w:=by
 go_enter Tryz.func253,Tryz.ntmps253
 go_wp2
 go_ret2
 exact⟨rfl,rfl⟩
theorem effect_37 (w:World):Calls Tryz.prog 253 #[.int .u8 37] w fun e w'=>e=.returned (.tuple #[.string (mkK (takesB.getD 37 [])),.string (mkK (leavesE 37))])∧w'=w:=by
 go_enter Tryz.func253,Tryz.ntmps253
 go_wp2
 go_ret2
 exact⟨rfl,rfl⟩
theorem effect_38 (w:World):Calls Tryz.prog 253 #[.int .u8 38] w fun e w'=>e=.returned (.tuple #[.string (mkK (takesB.getD 38 [])),.string (mkK (leavesE 38))])∧w'=w:=by
 go_enter Tryz.func253,Tryz.ntmps253
 go_wp2
 go_ret2
 exact⟨rfl,rfl⟩
theorem effect_39 (w:World):Calls Tryz.prog 253 #[.int .u8 39] w fun e w'=>e=.returned (.tuple #[.string (mkK (takesB.getD 39 [])),.string (mkK (leavesE 39))])∧w'=w:=by
 go_enter Tryz.func253,Tryz.ntmps253
 go_wp2
 go_ret2
 exact⟨rfl,rfl⟩
theorem effect_40 (w:World):Calls Tryz.prog 253 #[.int .u8 40] w fun e w'=>e=.returned (.tuple #[.string (mkK (takesB.getD 40 [])),.string (mkK (leavesE 40))])∧w'=w:=by
 go_enter Tryz.func253,Tryz.ntmps253
 go_wp2
 go_ret2
 exact⟨rfl,rfl⟩
theorem effect_41 (w:World):Calls Tryz.prog 253 #[.int .u8 41] w fun e w'=>e=.returned (.tuple #[.string (mkK (takesB.getD 41 [])),.string (mkK (leavesE 41))])∧w'=w:=by
 go_enter Tryz.func253,Tryz.ntmps253
 go_wp2
 go_ret2
 exact⟨rfl,rfl⟩
theorem effect_42 (w:World):Calls Tryz.prog 253 #[.int .u8 42] w fun e w'=>e=.returned (.tuple #[.string (mkK (takesB.getD 42 [])),.string (mkK (leavesE 42))])∧w'=w:=by
 go_enter Tryz.func253,Tryz.ntmps253
 go_wp2
 go_ret2
 exact⟨rfl,rfl⟩
theorem effect_43 (w:World):Calls Tryz.prog 253 #[.int .u8 43] w fun e w'=>e=.returned (.tuple #[.string (mkK (takesB.getD 43 [])),.string (mkK (leavesE 43))])∧w'=w:=by
 go_enter Tryz.func253,Tryz.ntmps253
 go_wp2
 go_ret2
 exact⟨rfl,rfl⟩
theorem effect_47 (w:World):Calls Tryz.prog 253 #[.int .u8 47] w fun e w'=>e=.returned (.tuple #[.string (mkK (takesB.getD 47 [])),.string (mkK (leavesE 47))])∧w'=w:=by
 go_enter Tryz.func253,Tryz.ntmps253
 go_wp2
 go_ret2
 exact⟨rfl,rfl⟩
theorem effect_48 (w:World):Calls Tryz.prog 253 #[.int .u8 48] w fun e w'=>e=.returned (.tuple #[.string (mkK (takesB.getD 48 [])),.string (mkK (leavesE 48))])∧w'=w:=by
 go_enter Tryz.func253,Tryz.ntmps253
 go_wp2
 go_ret2
 exact⟨rfl,rfl⟩
theorem effect_49 (w:World):Calls Tryz.prog 253 #[.int .u8 49] w fun e w'=>e=.returned (.tuple #[.string (mkK (takesB.getD 49 [])),.string (mkK (leavesE 49))])∧w'=w:=by
 go_enter Tryz.func253,Tryz.ntmps253
 go_wp2
 go_ret2
 exact⟨rfl,rfl⟩
theorem effect_51 (w:World):Calls Tryz.prog 253 #[.int .u8 51] w fun e w'=>e=.returned (.tuple #[.string (mkK (takesB.getD 51 [])),.string (mkK (leavesE 51))])∧w'=w:=by
 go_enter Tryz.func253,Tryz.ntmps253
 go_wp2
 go_ret2
 exact⟨rfl,rfl⟩
theorem effect_52 (w:World):Calls Tryz.prog 253 #[.int .u8 52] w fun e w'=>e=.returned (.tuple #[.string (mkK (takesB.getD 52 [])),.string (mkK (leavesE 52))])∧w'=w:=by
 go_enter Tryz.func253,Tryz.ntmps253
 go_wp2
 go_ret2
 exact⟨rfl,rfl⟩
theorem effect_53 (w:World):Calls Tryz.prog 253 #[.int .u8 53] w fun e w'=>e=.returned (.tuple #[.string (mkK (takesB.getD 53 [])),.string (mkK (leavesE 53))])∧w'=w:=by
 go_enter Tryz.func253,Tryz.ntmps253
 go_wp2
 go_ret2
 exact⟨rfl,rfl⟩
theorem effect_any (op:Nat)(w:World)(h:op<54)(h1:op≠44)(h2:op≠45)(h3:op≠46)(h4:op≠50) :
  Calls Tryz.prog 253 #[.int .u8 op] w fun e w'=>e=.returned (.tuple #[.string (mkK (takesB.getD op [])),.string (mkK (leavesE op))])∧w'=w:=by
 match op,h with
 | 0,_=>exact effect_0 w
 | 1,_=>exact effect_1 w
 | 2,_=>exact effect_2 w
 | 3,_=>exact effect_3 w
 | 4,_=>exact effect_4 w
 | 5,_=>exact effect_5 w
 | 6,_=>exact effect_6 w
 | 7,_=>exact effect_7 w
 | 8,_=>exact effect_8 w
 | 9,_=>exact effect_9 w
 | 10,_=>exact effect_10 w
 | 11,_=>exact effect_11 w
 | 12,_=>exact effect_12 w
 | 13,_=>exact effect_13 w
 | 14,_=>exact effect_14 w
 | 15,_=>exact effect_15 w
 | 16,_=>exact effect_16 w
 | 17,_=>exact effect_17 w
 | 18,_=>exact effect_18 w
 | 19,_=>exact effect_19 w
 | 20,_=>exact effect_20 w
 | 21,_=>exact effect_21 w
 | 22,_=>exact effect_22 w
 | 23,_=>exact effect_23 w
 | 24,_=>exact effect_24 w
 | 25,_=>exact effect_25 w
 | 26,_=>exact effect_26 w
 | 27,_=>exact effect_27 w
 | 28,_=>exact effect_28 w
 | 29,_=>exact effect_29 w
 | 30,_=>exact effect_30 w
 | 31,_=>exact effect_31 w
 | 32,_=>exact effect_32 w
 | 33,_=>exact effect_33 w
 | 34,_=>exact effect_34 w
 | 35,_=>exact effect_35 w
 | 36,_=>exact effect_36 w
 | 37,_=>exact effect_37 w
 | 38,_=>exact effect_38 w
 | 39,_=>exact effect_39 w
 | 40,_=>exact effect_40 w
 | 41,_=>exact effect_41 w
 | 42,_=>exact effect_42 w
 | 43,_=>exact effect_43 w
 | 44,_=>exact absurd rfl (by assumption)
 | 45,_=>exact absurd rfl (by assumption)
 | 46,_=>exact absurd rfl (by assumption)
 | 47,_=>exact effect_47 w
 | 48,_=>exact effect_48 w
 | 49,_=>exact effect_49 w
 | 50,_=>exact absurd rfl (by assumption)
 | 51,_=>exact effect_51 w
 | 52,_=>exact effect_52 w
 | 53,_=>exact effect_53 w
 | n+54,h=>exact absurd h (by omega)
end Go.Proofs.YtclkgoigmgkffaaGreatDoor
namespace Go.Proofs
open Go.Shelf
def Tryz.lays105_ren:Go.Shelf.Ren:=⟨fun | 105=>252 | 212=>283 | 99=>284 | 165=>285 | 166=>195 | 170=>286 | 169=>197 | 263=>305 | 264=>306 | 206=>307 | 240=>226 | 241=>308 | 276=>265 | 277=>318 | n=>n,fun | 9=>9 | 3=>3 | 4=>4 | 20=>20 | 0=>0 | 46=>257 | 109=>366 | 5=>5 | 72=>297 | 76=>300 | 51=>256 | 146=>375 | 53=>182 | 148=>377 | 70=>295 | 37=>129 | 75=>299 | 127=>331 | 164=>355 | 80=>32 | n=>n,fun | n=>n⟩
theorem Tryz.lays105:Go.Proofs.Lays.n105 Tryz.prog Tryz.lays105_ren:={
 mixed:=by kernel_rfl
 f99:=Tryz.func284.trans (congrArg some (by kernel_rfl))
 f105:=Tryz.func252.trans (congrArg some (by kernel_rfl))
 f165:=Tryz.func285.trans (congrArg some (by kernel_rfl))
 f166:=Tryz.func195.trans (congrArg some (by kernel_rfl))
 f169:=Tryz.func197.trans (congrArg some (by kernel_rfl))
 f170:=Tryz.func286.trans (congrArg some (by kernel_rfl))
 f206:=Tryz.func307.trans (congrArg some (by kernel_rfl))
 f212:=Tryz.func283.trans (congrArg some (by kernel_rfl))
 f240:=Tryz.func226.trans (congrArg some (by kernel_rfl))
 f241:=Tryz.func308.trans (congrArg some (by kernel_rfl))
 f263:=Tryz.func305.trans (congrArg some (by kernel_rfl))
 f264:=Tryz.func306.trans (congrArg some (by kernel_rfl))
 f276:=Tryz.func265.trans (congrArg some (by kernel_rfl))
 f277:=Tryz.func318.trans (congrArg some (by kernel_rfl))
 t0:=Tryz.underlying0
 a0:=Tryz.isAgg0
 z0:=Tryz.sizeOf0
 v0:=Tryz.zeroValue0
 t3:=Tryz.underlying3
 a3:=Tryz.isAgg3
 z3:=Tryz.sizeOf3
 v3:=Tryz.zeroValue3
 t4:=Tryz.underlying4
 a4:=Tryz.isAgg4
 z4:=Tryz.sizeOf4
 v4:=Tryz.zeroValue4
 t5:=Tryz.underlying5
 a5:=Tryz.isAgg5
 z5:=Tryz.sizeOf5
 v5:=Tryz.zeroValue5
 t9:=Tryz.underlying9
 a9:=Tryz.isAgg9
 z9:=Tryz.sizeOf9
 v9:=Tryz.zeroValue9
 t20:=Tryz.underlying20
 a20:=Tryz.isAgg20
 z20:=Tryz.sizeOf20
 v20:=Tryz.zeroValue20
 t37:=Tryz.underlying129
 a37:=Tryz.isAgg129
 z37:=Tryz.sizeOf129
 v37:=Tryz.zeroValue129
 t46:=Tryz.underlying257
 a46:=Tryz.isAgg257
 z46:=Tryz.sizeOf257
 v46:=Tryz.zeroValue257
 t51:=Tryz.underlying256
 a51:=Tryz.isAgg256
 z51:=Tryz.sizeOf256
 v51:=Tryz.zeroValue256
 t53:=Tryz.underlying182
 a53:=Tryz.isAgg182
 z53:=Tryz.sizeOf182
 v53:=Tryz.zeroValue182
 t70:=Tryz.underlying295
 a70:=Tryz.isAgg295
 z70:=Tryz.sizeOf295
 v70:=Tryz.zeroValue295
 t72:=Tryz.underlying297
 a72:=Tryz.isAgg297
 z72:=Tryz.sizeOf297
 v72:=Tryz.zeroValue297
 t75:=Tryz.underlying299
 a75:=Tryz.isAgg299
 z75:=Tryz.sizeOf299
 v75:=Tryz.zeroValue299
 t76:=Tryz.underlying300
 a76:=Tryz.isAgg300
 z76:=Tryz.sizeOf300
 v76:=Tryz.zeroValue300
 t109:=Tryz.underlying366
 a109:=Tryz.isAgg366
 z109:=Tryz.sizeOf366
 v109:=Tryz.zeroValue366
 t127:=Tryz.underlying331
 a127:=Tryz.isAgg331
 z127:=Tryz.sizeOf331
 v127:=Tryz.zeroValue331
 t146:=Tryz.underlying375
 a146:=Tryz.isAgg375
 z146:=Tryz.sizeOf375
 v146:=Tryz.zeroValue375
 t148:=Tryz.underlying377
 a148:=Tryz.isAgg377
 z148:=Tryz.sizeOf377
 v148:=Tryz.zeroValue377
 t164:=Tryz.underlying355
 a164:=Tryz.isAgg355
 z164:=Tryz.sizeOf355
 v164:=Tryz.zeroValue355 }
theorem Tryz.Builder_Extra_105:Builder.Extra Tryz.prog Tryz.lays105_ren:={
 sizeBuilder:=by kernel_rfl
 liesBuilder:=by kernel_rfl
 t5:=Tryz.underlying5
 a5:=Tryz.isAgg5
 z5:=Tryz.sizeOf5
 v5:=Tryz.zeroValue5
 infoByte:=by kernel_rfl
 cellsByte:=by kernel_rfl
 sizeByte:=by kernel_rfl
 neB5:=by decide }
open Go.RowKit Go.Lib in
theorem Tryz.strings_Repeat (s:ByteArray)(c:Nat)(w:World)(hc:c≤9223372036854775807)(hlen:s.size*c≤140737488355328) :
  Calls Tryz.prog 252 #[.string s,.int .i64 c] w fun e w'=>e=.returned (.string ⟨(Lib.repeatL s.data.toList c).toArray⟩)∧Below w.heap.size w w':=Any.strings_Repeat Tryz.lays105 Tryz.Builder_Extra_105 s c w hc hlen
end Go.Proofs
namespace Go.Proofs.YtclkgoigmgkffaaGreatDoor
open Go.RowKit
open Wire Flow
def chB (par:Nat→Nat) (op a:Nat) (o:Option (List Nat)):Option (List Nat):=
 if op=17 then o.bind (takeR [4]) else o.bind fun st=>(afterB par op a st).map Prod.fst
theorem ch_table {par:Nat→Nat}{op a:Nat}{o:Option (List Nat)} (hl:∀ st,o=some st→st.length≤1024) (h17:op≠17) (h45:op≠45) (h46:op≠46) :
  (o.bind (takeR (wantB par op a).reverse)).bind (leaveB (givesB.getD op []))=chB par op a o:=by
 unfold chB
 rw[if_neg h17]
 cases o with
 | none=>rfl
 | some st=>
  have hst:=hl st rfl
  simp only[Option.bind_some,afterB]
  cases ht:takeR (wantB par op a).reverse st with
  | none=>rfl
  | some rest=>
   have hr:rest.length≤1024:=by
    have:=congrArg List.length (takeR_shape _ _ _ ht)
    rw[List.length_take] at this
    omega
   have hg:giveB op (st.drop rest.length)=givesB.getD op []:=by unfold giveB;rw[if_neg h45,if_neg h46]
   simp only[Option.bind_some,leaveB_is hr,hg,Lla]
   split <;> rfl
theorem ch_each {par:Nat→Nat}{a:Nat}{o:Option (List Nat)}:(o.bind (takeR (wantB par 17 a).reverse)).bind (leaveB [])=chB par 17 a o:=by
 unfold chB
 rw[if_pos rfl]
 have:(wantB par 17 a).reverse=[4]:=rfl
 rw[this]
 cases o with
 | none=>rfl
 | some st=>simp only[Option.bind_some];cases takeR [4] st <;> rfl
theorem ch_dup {par:Nat→Nat}{a:Nat}{o:Option (List Nat)} (hl:∀ st,o=some st→st.length≤1024) {y:Nat} (hy:∀ s x,o=some (s++[x])→y=x) :
  ((o.bind (popB 3)).bind (pushB y)).bind (pushB y)=chB par 45 a o:=by
 unfold chB
 rw[if_neg (by decide)]
 cases o with
 | none=>rfl
 | some st=>
  by_cases h0:st=[]
  ·subst h0;rfl
  ·obtain⟨s,x,rfl⟩:=snoc_of h0
   obtain rfl:=hy s x rfl
   have hst:=hl _ rfl
   simp only[Lla,List.length_cons,List.length_nil] at hst
   simp only[Option.bind_some,popB_snoc,afterB]
   have hw:(wantB par 45 a).reverse=[3]:=rfl
   rw[hw]
   simp only[takeR,popB_snoc]
   split
   ·simp only[Option.bind_some,Option.map_some]
    have hg:giveB 45 ((s++[y]).drop s.length)=[y,y]:=by simp[giveB]
    rw[hg]
    have:=leaveB_is (l:=[y,y]) (st:=s) (by omega)
    simp only[leaveB] at this
    have e1:(pushB y s).bind (pushB y)=(pushB y s).bind fun s=>(pushB y s).bind some:=by
     cases pushB y s with
     | none=>rfl
     | some q=>simp only[Option.bind_some];cases pushB y q <;> rfl
    rw[e1,this]
    simp only[Lla]
    split <;> rfl
   ·rfl
theorem ch_under {par:Nat→Nat}{a:Nat}{o:Option (List Nat)} (hl:∀ st,o=some st→st.length≤1024) {y x:Nat} (hy:∀ s z,o=some (s++[z])→y=z) (hx:∀ s z,o.bind (popB 3)=some (s++[z])→x=z) :
  ((((o.bind (popB 3)).bind (popB 3)).bind (pushB y)).bind (pushB x)).bind (pushB y)=chB par 46 a o:=by
 unfold chB
 rw[if_neg (by decide)]
 cases o with
 | none=>rfl
 | some st=>
  by_cases h0:st=[]
  ·subst h0;rfl
  ·obtain⟨s,z,rfl⟩:=snoc_of h0
   obtain rfl:=hy s z rfl
   have hst:=hl _ rfl
   simp only[Lla,List.length_cons,List.length_nil] at hst
   simp only[Option.bind_some,popB_snoc,afterB] at hx ⊢
   have hw:(wantB par 46 a).reverse=[3,3]:=rfl
   rw[hw]
   simp only[takeR,popB_snoc]
   split
   ·rename_i hz
    rw[if_pos hz] at hx
    simp only[Option.bind_some]
    by_cases h1:s=[]
    ·subst h1;rfl
    ·obtain⟨t,u,rfl⟩:=snoc_of h1
     obtain rfl:=hx t u rfl
     simp only[popB_snoc]
     split
     ·simp only[Option.bind_some,Option.map_some]
      have hg:giveB 46 ((t++[x]++[y]).drop t.length)=[y,x,y]:=by
       have:(t++[x]++[y]).drop t.length=[x,y]:=by simp
       rw[this];rfl
      rw[hg]
      simp only[Lla,List.length_cons,List.length_nil] at hst
      have:=leaveB_is (l:=[y,x,y]) (st:=t) (by omega)
      simp only[leaveB] at this
      have e1:((pushB y t).bind (pushB x)).bind (pushB y)=(pushB y t).bind fun s=>(pushB x s).bind fun s=>(pushB y s).bind some:=by
       cases pushB y t with
       | none=>rfl
       | some q=>
        simp only[Option.bind_some]
        cases pushB x q with
        | none=>rfl
        | some p=>simp only[Option.bind_some];cases pushB y p <;> rfl
      rw[e1,this]
      simp only[Lla]
      split <;> rfl
     ·rfl
   ·rfl
theorem StkO.len {w:World}{sb:Nat}{o:Option (List Nat)} (h:StkO w sb o):∀ st,o=some st→st.length≤1024:=by
 intro st hst
 subst hst
 exact StkC.hi h
theorem kL_rep (k c:Nat)(hk:k<256):kL ⟨(Lib.repeatL [UInt8.ofNat k] c).toArray⟩=List.replicate c k∧(⟨(Lib.repeatL [UInt8.ofNat k] c).toArray⟩:ByteArray).size=c:=by
 have e:Lib.repeatL [UInt8.ofNat k] c=List.replicate c (UInt8.ofNat k):=by
  induction c with
  | zero=>rfl
  | succ c ih=>rw[Lib.repeatL,ih];rfl
 rw[e]
 refine⟨?_,by simp[ByteArray.size]⟩
 unfold kL
 rw[bl_mk,List.map_replicate]
 congr 1
 simp[UInt8.toNat_ofNat]
 omega
end Go.Proofs.YtclkgoigmgkffaaGreatDoor
