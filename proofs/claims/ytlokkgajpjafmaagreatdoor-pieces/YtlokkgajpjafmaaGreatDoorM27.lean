import Derived.Test.YtlokkgajpjafmaaGreatDoorM26
set_option linter.unusedSimpArgs false
set_option linter.unusedVariables false
set_option maxRecDepth 100000
set_option maxHeartbeats 40000000
open _root_.Go.Proofs.Tryz
namespace Go.Proofs.YtlokkgajpjafmaaGreatDoor
open Go.RowKit
open Wire Flow Mach
theorem gW {B fb:Nat}{W:WL}{j:Nat}{v:Value} (h:B≤fb):FrB B W (W.setCell ⟨fb,j,none⟩ v):=
 ⟨rfl,rfl,rfl,by simp,fun k hk=>aV (by omega)⟩
theorem aXp (W:WL)(B fb kb qb n:Nat)(aa:OA)(acap:Nat)(mf:Value)(G:List (Option (LN)))(Q:List Bool)(more wrong:Bool)(P:NN)(h:eR W B fb kb qb n (.slice aa n acap) mf G Q more wrong P)(hn:n≤100000)
  (sb:Nat) (o:Option (LN)) (hs:cA W sb o) (h1:sb≠fb) (hP:∀ j s,G[j]?=some (some s)→P j≠sb) :
  Calls prog 92 #[.pointer (some (Ad fb 0)),iA n,.pointer (some (Ad sb 0))] W (GoP B fb kb qb n (.slice aa n acap) mf W sb o G Q more wrong n):=by
 have c5:=h.c5;have c9:=h.c9;have z9:=h.zf 9;have q1:((n:Int)==(n:Int))=true:=by simp
 have HF:Hid _:=h;clear h hs;go_enter func92,ntmps92;go_wp2;go_end0;exact⟨rfl,gW HF.out.bf,aV h1,G,Q,more,true,P,HF.out.setWrong true,hP,.inl ⟨rfl,rfl,rfl,rfl,.inl rfl⟩⟩
theorem aPm (W:WL)(B fb kb qb n:Nat)(aa:OA)(acap:Nat)(mf:Value)(G:List (Option (LN)))(Q:List Bool)(more wrong:Bool)(P:NN)(h:eR W B fb kb qb n (.slice aa n acap) mf G Q more wrong P)(hn:n≤100000)
  (sb:Nat) (hs:cA W sb none) (h1:sb≠fb) (hP:∀ j s,G[j]?=some (some s)→P j≠sb) (i:Nat) (hi:i<n) :
  Calls prog 92 #[.pointer (some (Ad fb 0)),iA i,.pointer (some (Ad sb 0))] W (GoP B fb kb qb n (.slice aa n acap) mf W sb none G Q more wrong i):=by
 obtain⟨st,hst⟩:=hs;have s1:=hst.c1;have c5:=h.c5;have c9:=h.c9;have z9:=h.zf 9;have q1:((i:Int)==(n:Int))=false:=by simp;omega
 have HF:Hid _:=h;clear h hst;go_enter func92,ntmps92;go_wp2;go_end0;exact⟨rfl,gW HF.out.bf,aV h1,G,Q,more,true,P,HF.out.setWrong true,hP,.inl ⟨rfl,rfl,rfl,rfl,.inr (.inl rfl)⟩⟩
theorem aUe (W:WL)(B fb kb qb n:Nat)(aa:OA)(acap:Nat)(mf:Value)(G:List (Option (LN)))(Q:List Bool)(more wrong:Bool)(P:NN)(h:eR W B fb kb qb n (.slice aa n acap) mf G Q more wrong P)(hn:n≤100000)
  (sb:Nat) (s t:LN) (hs:cA W sb (some s)) (h1:sb≠fb) (hP:∀ j s,G[j]?=some (some s)→P j≠sb) (i:Nat) (hi:i<n) (hG:G[i]?=some (some t)) (hne:t.length≠s.length) :
  Calls prog 92 #[.pointer (some (Ad fb 0)),iA i,.pointer (some (Ad sb 0))] W (GoP B fb kb qb n (.slice aa n acap) mf W sb (some s) G Q more wrong i):=by
 have hst:dA W sb s false:=hs;have s0:=hst.c0;have s1:=hst.c1;have c5:=h.c5;have c6:=h.c6;have c9:=h.c9;have z9:=h.zf 9;have q1:((i:Int)==(n:Int))=false:=by simp;omega
 have g1:(i:Int)<(n:Int):=by omega
 obtain⟨k1,k2,-⟩:=h.kp i t hG;have t0:=k2.c0;have q2:((t.length:Int)!=(s.length:Int))=true:=by simp;omega
 have HF:Hid _:=AI h (AI hG hne);clear h hst k2 hs hG hne;generalize P i=pb at *;go_enter func92,ntmps92;go_wp2;go_quiet (fail);go_wp2;go_end0;obtain⟨hF,hG,hne⟩:=HF.out;have hD:=hF.fr ((Fr.refl [] W).drewN nq) (by simp) (by simp) (by simp) (fun _ _ _=>by simp);exact⟨rfl,(FrB.of (S:=[]) ((Fr.refl [] W).drewN nq) (Nat.le_trans hF.bf (Nat.le_of_lt hF.lt)) (by simp)).trans (gW hF.bf),aV h1,G,Q,more,true,P,hD.setWrong true,hP,.inl ⟨rfl,rfl,rfl,rfl,.inr (.inr ⟨s,t,rfl,hG,hne⟩)⟩⟩
theorem go_meet (W:WL)(B fb kb qb n:Nat)(aa:OA)(acap:Nat)(mf:Value)(G:List (Option (LN)))(Q:List Bool)(more wrong:Bool)(P:NN)(h:eR W B fb kb qb n (.slice aa n acap) mf G Q more wrong P)(hn:n≤100000)
  (sb:Nat) (s t:LN) (hs:cA W sb (some s)) (h1:sb≠fb) (h2:sb≠qb) (hP:∀ j s,G[j]?=some (some s)→P j≠sb) (i:Nat) (hi:i<n) (hG:G[i]?=some (some t)) (he:t.length=s.length) (hbs:bC s) :
  Calls prog 92 #[.pointer (some (Ad fb 0)),iA i,.pointer (some (Ad sb 0))] W (GoP B fb kb qb n (.slice aa n acap) mf W sb (some s) G Q more wrong i):=by
 have hst:dA W sb s false:=hs;have s0:=hst.c0;have s1:=hst.c1;have c5:=h.c5;have c6:=h.c6;have q1:((i:Int)==(n:Int))=false:=by simp;omega
 have g1:(i:Int)<(n:Int):=by omega
 obtain⟨k1,k2,-⟩:=h.kp i t hG;have t0:=k2.c0;have hpn:=hP i t hG;have hlt2:=k2.lt;have hsl:=hst.lt;have HM:Hid _:=fun (nq:Nat)=>aOo (W.drewN nq) (P i) sb t s false false (k2.of_block rfl) (hst.of_block rfl) he hpn;have HF:Hid _:=AI h (AI hG (AI he (AI hlt2 hsl)));rw[he] at t0;have q2:((s.length:Int)!=(s.length:Int))=false:=by simp
 clear h hst k2 hs hG he hlt2 hsl;obtain⟨pb,hpb⟩:=eXi (P i);rw[hpb] at k1 t0 HM hpn;have HPB:Hid _:=hpb;clear hpb;go_enter func92,ntmps92;go_wp2;go_quiet (fail);go_wp2_with fail;refine (HM.out nq).mono ?_;rintro e w2 ⟨rfl,K2,F2⟩;obtain⟨hF,hG,he,hlt2,hsl⟩:=HF.out;have hpb:=HPB.out;have Fq:Fr [] W (W.drewN nq):=(Fr.refl [] W).drewN nq;have hD:=hF.fr Fq (by simp) (by simp) (by simp) (fun _ _ _=>by simp);have hbt:=hF.hb i t hG;have hB1:B≤W.heap.size:=Nat.le_trans hF.bf (Nat.le_of_lt hF.lt);have hBp:B≤pb:=by rw[← hpb];exact (hF.kp i t hG).2.2.1
 have hR2:=FrB.of (B:=B) F2 hB1 (by simpa using hBp);have hRq:=FrB.of (B:=B) (S:=[]) Fq hB1 (by simp);have hsb2:w2.heap[sb]?=W.heap[sb]?:=F2.block sb hsl (by simp;exact fun e=>hpn e.symm);by_cases hu:orL t s=t
 ·rw[decide_eq_false (by simpa using hu)];rw[hu] at K2;have hM2:eR w2 B fb kb qb n (.slice aa n acap) mf G Q more wrong P:=by
   have hx:=hD.meet hG (by rw[hpb];exact F2) (by rw[hpb];exact K2) hbt;rw[show G.set i (some t)=G from by
    apply List.ext_getElem?;intro j;by_cases e:j=i
    ·subst e;rw[List.getElem?_set_self (Lgs.1 hG).1,hG]
    rw[List.getElem?_set_ne (fun e2=>e e2.symm)]] at hx
   exact hx
  have HX:Hid _:=AI hM2 (AI (hRq.trans hR2) (AI hsb2 (AI hG (AI he hu))));clear hM2 hR2 hRq hsb2 hG he hu K2 F2 hD hF hbt hB1 hBp HF HM s0 s1 c5 c6 k1 t0 q2 hpb;go_wp2;go_end0;obtain⟨x1,x2,x3,x4,x5,x6⟩:=HX.out;exact⟨rfl,x2,x3,G,Q,more,wrong,P,x1,hP,.inr ⟨rfl,s,rfl,hi,.inr ⟨t,x4,x5,.inl ⟨x6,rfl,rfl,rfl⟩⟩⟩⟩
 rw[decide_eq_true (by simpa using hu)];have hM2:=hD.meet hG (by rw[hpb];exact F2) (by rw[hpb];exact K2) (aAw hbt hbs);have d7:=hM2.c7;have d8:=hM2.c8;have z8:=hM2.zf 8;have zi:=hM2.zq i;obtain⟨b0,hb0⟩:∃ b0,Q[i]?=some b0:=⟨_,Lge (by rw[hM2.ql];exact hi)⟩;have di:=hM2.qs i b0 hb0;have d8':(w2.setCell ⟨qb,i,none⟩ (.bool true)).cell? (Ad fb 8)=some (.bool more):=(hM2.setWait hi true).c8;have z8':(w2.setCell ⟨qb,i,none⟩ (.bool true)).frozen? (Ad fb 8)=false:=(hM2.setWait hi true).zf 8;have HX:Hid _:=AI hM2 (AI (hRq.trans hR2) (AI hsb2 (AI hG (AI he (AI hu hF)))));clear hM2 hR2 hRq hsb2 hG he hu K2 F2 hD hF hbt hB1 hBp HF HM s0 s1 c5 c6 k1 t0 q2 hpb;go_wp2;go_end0;obtain⟨x1,x2,x3,x4,x5,x6,x7⟩:=HX.out;refine⟨rfl,(x2.trans (gW x7.bq)).trans (gW x7.bf),?_,_,_,true,wrong,P,(x1.setWait hi true).setMore true,fun j s' hj=>?_,.inr ⟨rfl,s,rfl,hi,.inr ⟨t,x4,x5,.inr ⟨x6,rfl,rfl,rfl⟩⟩⟩⟩
 ·rw[aV h1,aV h2,x3]
 by_cases e:j=i
 ·subst e;exact hP j t x4
 rw[List.getElem?_set_ne (fun e2=>e e2.symm)] at hj;exact hP j s' hj
theorem bBz:∀ w,(isAgg 165).run prog w=.ok true w:=fun w=>by
 simp[isAgg,go_sem,underlying165]
theorem aBh (W:WL)(sb:Nat)(s:LN)(wr:Bool)(h:dA W sb s wr):(loadVar 165 (Ad sb 0)).run prog W=.ok (.agg (fL s wr).toArray) W:=by
 have hi:=aCf;cases hq:prog.info? 165 with
 | none=>rw[hq] at hi;simp at hi
 | some ie=>
  rw[hq] at hi;simp only[Option.map_some,Option.some.injEq,Prod.mk.injEq] at hi;have:=Lib.rl_loadVar_cells (P:=prog) 165 ie hq bBz sb 0 (fL s wr) (by rw[kE,hi.2]) W (fun j v hv=>by rw[Nat.zero_add];exact h.all j v hv);exact this
theorem aIu (W:WL)(s:LN)(wr:Bool):(storeVar 165 (Ad W.heap.size 0) (.agg (fL s wr).toArray)).run prog (W.alloc (.cells (fL [] false).toArray 165))=.ok () (W.alloc (.cells (fL s wr).toArray 165)):=
 run_storeVar_new (P:=prog) W 165 (fL [] false).toArray (fL s wr).toArray (by rw[(zero_of_info aCf).2];simp[kE]) (by simp[kE]) (by simp;exact xK s wr)
theorem E8 {ops:Array Oper}{rest:List Oper}{o:Oper}{a:Act}{w:WL}{Q:Exit→Act→WL→Prop} (hgd:o.guard=none) (t:TypeId) (x:Operand) (ho:o.op=.load t x) (ad:Addr) (hx:a.eval x=.pointer (some ad)) (v:Value)
  (hrun:(loadVar t ad).run prog w=.ok v w) (h:wpList prog ops Q rest (a.put o.dst v) w):wpList prog ops Q (o :: rest) a w:=by
 refine wpList_plain hgd fun K hK=>?_;unfold Oper.wp execOp;simp only[ho,Sem.run_bind,Sem.run_pure,Result.andThen_ok,hx,Instr.loadAt,Instr.sureAddr,hrun];exact hK _ _ h
theorem zK {ops:Array Oper}{rest:List Oper}{o:Oper}{a:Act}{w w':WL}{Q:Exit→Act→WL→Prop} (hgd:o.guard=none) (t:TypeId) (p x:Operand) (ho:o.op=.store t p x) (hd:o.dst=none) (ad:Addr) (hp:a.eval p=.pointer (some ad)) (v:Value) (hx:a.eval x=v)
  (hrun:(storeVar t ad v).run prog w=.ok () w') (h:wpList prog ops Q rest a w'):wpList prog ops Q (o :: rest) a w:=by
 refine wpList_plain hgd fun K hK=>?_;unfold Oper.wp execOp;simp only[ho,Sem.run_bind,Sem.run_pure,Result.andThen_ok,hp,hx,Instr.storeAt,Instr.sureAddr,hrun];refine hK _ _ ?_;rw[hd];exact h
theorem zO {ops:Array Oper}{rest:List Oper}{o:Oper}{a:Act}{w:WL}{Q:Exit→Act→WL→Prop} (hgd:o.guard=none) (t:TypeId) (ho:o.op=.alloc t) (z:Value) (hz:(zeroValue t).run prog w=.ok z w)
  (h:wpList prog ops Q rest (a.put o.dst (.pointer (some (Ad w.heap.size 0)))) (w.alloc (.cells z.cells t))):wpList prog ops Q (o :: rest) a w:=by
 refine wpList_plain hgd fun K hK=>?_;unfold Oper.wp execOp;simp only[ho,Sem.run_bind,Sem.run_pure,Result.andThen_ok];have hr:(Instr.alloc t true (.tuple #[])).run prog w=.ok (.pointer (some (Ad w.heap.size 0))) (w.alloc (.cells z.cells t)):=by
  unfold Instr.alloc;simp[go_sem,hz,Result.andThen]
 rw[hr];exact hK _ _ h
theorem aXo (W:WL)(B fb kb qb n:Nat)(aa:OA)(acap:Nat)(mf:Value)(G:List (Option (LN)))(Q:List Bool)(more wrong:Bool)(P:NN)(h:eR W B fb kb qb n (.slice aa n acap) mf G Q more wrong P)(hn:n≤100000)
  (sb:Nat) (s:LN) (hs:cA W sb (some s)) (h1:sb≠fb) (h2:sb≠qb) (h3:sb≠kb) (hP:∀ j s,G[j]?=some (some s)→P j≠sb) (i:Nat) (hi:i<n) (hG:G[i]?=some none) (hbs:bC s) :
  Calls prog 92 #[.pointer (some (Ad fb 0)),iA i,.pointer (some (Ad sb 0))] W (GoP B fb kb qb n (.slice aa n acap) mf W sb (some s) G Q more wrong i):=by
 have hst:dA W sb s false:=hs;have s0:=hst.c0;have s1:=hst.c1;have c5:=h.c5;have c6:=h.c6;have q1:((i:Int)==(n:Int))=false:=by simp;omega
 have g1:(i:Int)<(n:Int):=by omega
 have k1:=h.ks i hG;have HF:Hid _:=AI h (AI hG hst);clear h hst hs hG;go_enter func92,ntmps92;go_wp2;go_quiet (fail);go_upto_if 48 with fail;obtain⟨WD,hWD⟩:=eXi (W.drewN nq);have stD:dA WD sb s false:=by rw[← hWD];exact HF.out.2.2.of_block rfl
 have c6:WD.cell? (Ad fb 6)=some (.slice (some (Ad kb 0)) n n):=by rw[← hWD];exact HF.out.1.c6
 have Fq:Fr [] W WD:=by rw[← hWD];exact (Fr.refl [] W).drewN nq
 rw[hWD];have hld:=aBh WD sb s false stD;have hzv:=(zero_of_info aCf).1 WD;have hsv:=aIu WD s false;generalize hV:fL s false=V at *;generalize hZ:fL [] false=Z at *;obtain⟨W5,hW5⟩:=eXi (WD.alloc (.cells V.toArray 165));have F5:=frA hW5
 have k5:=kA hW5;have st5:dA W5 WD.heap.size s false:=iN (by rw[hV];exact k5) stD.hi stD.sm;have hf:=HF.out.1;have hB1:B≤W.heap.size:=Nat.le_trans hf.bf (Nat.le_of_lt hf.lt);have hNew:=hf.new HF.out.2.1 (nb:=WD.heap.size) Fq.size hB1 (Fq.trans F5) st5 hbs;have hf5:=hf.fr (Fq.trans F5) (by simp) (by simp) (by simp) (fun _ _ _=>by simp);have c6':=hf5.c6;have e1:=hf5.ks i HF.out.2.1;have zk:=hf5.zk i;obtain⟨W6,hW6⟩:=eXi (W5.setCell ⟨kb,i,none⟩ (.pointer (some ⟨WD.heap.size,0,none⟩)));rw[hW6] at hNew;have d7:=hNew.c7;have d8:=hNew.c8;have zi:=hNew.zq i;obtain⟨b0,hb0⟩:∃ b0,Q[i]?=some b0:=⟨_,Lge (by rw[hNew.ql];exact hi)⟩;have di:=hNew.qs i b0 hb0;have d8':(W6.setCell ⟨qb,i,none⟩ (.bool true)).cell? (Ad fb 8)=some (.bool more):=(hNew.setWait hi true).c8;have z8':(W6.setCell ⟨qb,i,none⟩ (.bool true)).frozen? (Ad fb 8)=false:=(hNew.setWait hi true).zf 8;have hsbl:W5.heap[sb]?=W.heap[sb]?:=(Fq.trans F5).block sb HF.out.2.2.lt (by simp);have hBW:FrB B W W6:=by
  rw[← hW6];exact (FrB.of (S:=[]) (Fq.trans F5) hB1 (by simp)).trans (gW hf.bk)
 have hsb6:W6.heap[sb]?=W.heap[sb]?:=by rw[← hW6,aV h3,hsbl]
 have hne:WD.heap.size≠sb:=by have:=HF.out.2.2.lt;have:=Fq.size;omega
 have HX:Hid _:=AI hNew (AI hBW (AI hsb6 (AI hne (AI hf HF.out.2.1))));clear stD Fq hWD hV hZ F5 k5 st5 hf hB1 hNew hf5 hsbl hBW hsb6 hne hb0 c5 s0 s1 k1;go_wp2_with (first | (refine E8 rfl 165 _ rfl _ rfl _ hld ?_) | (refine zO rfl 165 rfl _ hzv ?_;simp only[Value.cells]) | (refine zK rfl 165 _ _ rfl rfl _ rfl _ rfl hsv ?_))
 go_end0;obtain⟨x1,x2,x3,x4,x5,x6⟩:=HX.out;refine⟨rfl,(x2.trans (gW x5.bq)).trans (gW x5.bf),?_,_,_,true,wrong,_,(x1.setWait hi true).setMore true,fun j s' hj=>?_,.inr ⟨rfl,s,rfl,hi,.inl ⟨x6,rfl,rfl,rfl⟩⟩⟩
 ·rw[aV h1,aV h2,x3]
 by_cases e:j=i
 ·subst e;simp only[if_true];exact x4
 rw[List.getElem?_set_ne (fun e2=>e e2.symm)] at hj;simp only[e,if_false];exact hP j s' hj
theorem mO (W:WL)(B fb kb qb n:Nat)(aa:OA)(acap:Nat)(mf:Value)(G:List (Option (LN)))(Q:List Bool)(more wrong:Bool)(P:NN)(h:eR W B fb kb qb n (.slice aa n acap) mf G Q more wrong P)(hn:n≤100000)
  (sb:Nat) (o:Option (LN)) (hs:cA W sb o) (h1:sb≠fb) (h2:sb≠qb) (h3:sb≠kb) (hP:∀ j s,G[j]?=some (some s)→P j≠sb) (i:Nat) (hi:i≤n) (hbs:∀ s,o=some s→bC s) :
  Calls prog 92 #[.pointer (some (Ad fb 0)),iA i,.pointer (some (Ad sb 0))] W (GoP B fb kb qb n (.slice aa n acap) mf W sb o G Q more wrong i):=by
 by_cases e:i=n
 ·subst e;exact aXp W B fb kb qb i aa acap mf G Q more wrong P h hn sb o hs h1 hP
 have hlt:i<n:=by omega
 cases o with
 | none=>exact aPm W B fb kb qb n aa acap mf G Q more wrong P h hn sb hs h1 hP i hlt
 | some s=>
  have hb:=hbs s rfl;obtain⟨x,hx⟩:∃ x,G[i]?=some x:=⟨_,Lge (by rw[h.gl];exact hlt)⟩;cases x with
  | none=>exact aXo W B fb kb qb n aa acap mf G Q more wrong P h hn sb s hs h1 h2 h3 hP i hlt hx hb
  | some t=>
   by_cases he:t.length=s.length
   ·exact go_meet W B fb kb qb n aa acap mf G Q more wrong P h hn sb s t hs h1 h2 hP i hlt hx he hb
   exact aUe W B fb kb qb n aa acap mf G Q more wrong P h hn sb s t hs h1 hP i hlt hx he
def aYj (G:List (Option (LN))) (Q:List Bool) (more:Bool) (k:Nat) (s:LN) (G':List (Option (LN))) (Q':List Bool) (more':Bool):Prop:=
 k<G.length∧(∀ t,G[k]?=some (some t)→t.length=s.length)∧((G[k]?=some none∧G'=G.set k (some s)∧Q'=Q.set k true∧more'=true) ∨
  ∃ t,G[k]?=some (some t)∧((orL t s=t∧G'=G∧Q'=Q∧more'=more)∨(orL t s≠t∧G'=G.set k (some (orL t s))∧Q'=Q.set k true∧more'=true)))
structure E6 (G:List (Option (LN))) (Q:List Bool) (more:Bool) (k:Nat) (s:LN) (G':List (Option (LN))) (Q':List Bool) (more':Bool):Prop where
 lay:abG G'=laid (abG G) k (abL s)
 bits:E7 G'
 gl:G'.length=G.length
 ql:Q'.length=Q.length
 no:∀ j:Nat,Q'[j]?=some false→Q[j]?=some false∧G'[j]?=G[j]?
 same:(G'=G∧Q'=Q∧more'=more)∨(more'=true∧gO G'<gO G)
 known:(∀ j:Nat,Q[j]?=some true→∃ u,G[j]?=some (some u))→∀ j:Nat,Q'[j]?=some true→∃ u,G'[j]?=some (some u)
 hk:k<G.length
 hh:∀ t,(abG G)[k]?=some (some t)→t.length=(abL s).length
theorem aYj.all {G:List (Option (LN))}{Q:List Bool}{more:Bool}{k:Nat}{s:LN}{G':List (Option (LN))}{Q':List Bool}{more':Bool} (h:aYj G Q more k s G' Q' more') (hb:E7 G) (hs:bC s) (hl:s.length≤1024) (hq:Q.length=G.length):E6 G Q more k s G' Q' more':=by
 obtain⟨hk,hh,h⟩:=h;have hh2:∀ t,(abG G)[k]?=some (some t)→t.length=(abL s).length:=fun t ht=>by
  obtain⟨u,hu,rfl⟩:=aDv ht;rw[bR,bR];exact hh u hu
 have noSet:∀ x:Option (LN),∀ j:Nat,(Q.set k true)[j]?=some false→Q[j]?=some false∧(G.set k x)[j]?=G[j]?:=fun x j hj=>by
  by_cases e:j=k
  ·subst e;rw[List.getElem?_set_self (by omega)] at hj;cases hj
  rw[List.getElem?_set_ne (fun e2=>e e2.symm)] at hj;exact⟨hj,List.getElem?_set_ne (fun e2=>e e2.symm)⟩
 have knownSet:∀ x:LN,(∀ j:Nat,Q[j]?=some true→∃ u,G[j]?=some (some u))→∀ j:Nat,(Q.set k true)[j]?=some true→∃ u,(G.set k (some x))[j]?=some (some u):=fun x hq j hj=>by
  by_cases e:j=k
  ·subst e;exact⟨x,List.getElem?_set_self hk⟩
  rw[List.getElem?_set_ne (fun e2=>e e2.symm)] at hj;obtain⟨u,hu⟩:=hq j hj;exact⟨u,by rw[List.getElem?_set_ne (fun e2=>e e2.symm)];exact hu⟩
 rcases h with ⟨h0,rfl,rfl,rfl⟩ | ⟨t,ht,⟨e,rfl,rfl,rfl⟩ | ⟨e,rfl,rfl,rfl⟩⟩
 ·exact⟨aLy h0,hb.set hs,by simp,by simp,noSet _,.inr ⟨rfl,aBj h0 hl⟩,knownSet _,hk,hh2⟩
 ·refine⟨?_,hb,rfl,rfl,fun j hj=>⟨hj,rfl⟩,.inl ⟨rfl,rfl,rfl⟩,fun hq j hj=>hq j hj,hk,hh2⟩;have hx:=aCl ht (hb k t ht) hs (hh t ht) e;rw[B7 hx]
 exact⟨aRl ht (hb k t ht) hs,hb.set (aAw (hb k t ht) hs),by simp,by simp,noSet _,.inr ⟨rfl,aEz ht (hb k t ht) hs (hh t ht) e⟩,knownSet _,hk,hh2⟩
structure FSt (par:NN) (l:List Stp) (G:List (Option (LN))) (Q:List Bool):Prop where
 low:Low par l (abG G)
 z:(abG G)[0]?=some (some [])
 done:∀ j:Nat,Q[j]?=some false→rM par l (abG G) j
 known:∀ j:Nat,Q[j]?=some true→∃ u,G[j]?=some (some u)
structure FSi (par:NN) (l:List Stp) (G:List (Option (LN))) (Q:List Bool) (i:Nat):Prop where
 low:Low par l (abG G)
 z:(abG G)[0]?=some (some [])
 done:∀ j:Nat,j≠i→Q[j]?=some false→rM par l (abG G) j
 known:∀ j:Nat,Q[j]?=some true→∃ u,G[j]?=some (some u)
def PsR (par:NN) (l:List Stp) (G:List (Option (LN))) (Q:List Bool) (more wrong:Bool) (G':List (Option (LN))) (Q':List Bool) (more' wrong':Bool):Prop:=
 (wrong'=true∧¬ Flow.Safe par l)∨(wrong'=wrong∧FSt par l G' Q'∧((G'=G∧Q'=Q∧more'=more)∨(more'=true∧gO G'<gO G)))
theorem xG {G:List (Option (LN))}{Q:List Bool}{more:Bool}{k:Nat}{s:LN}{G':List (Option (LN))}{Q':List Bool}{more':Bool} (h:E6 G Q more k s G' Q' more'):oB (abG G) (abG G'):=by
 rw[h.lay];exact zQ h.hh
theorem M8 {par:NN}{l:List Stp}{G:List (Option (LN))}{Q:List Bool}{more wrong:Bool}{i:Nat} (h:FSi par l G Q i) {st o r:LN}{s:Stp} (hi:G[i]?=some (some st)) (hs:l[i]?=some s)
  (ha:after par s.op s.a (abL st)=some (abL o,abL r)) (hf:far s.op=false) (hh:dS s.op=true):PsR par l G Q more wrong G Q more wrong:=by
 refine .inr ⟨rfl,⟨h.low,h.z,fun j hj=>?_,h.known⟩,.inl ⟨rfl,rfl,rfl⟩⟩;by_cases e:j=i
 ·subst e;exact rM.passed (cV hi) hs ha (fun hx=>by rw[hf] at hx;cases hx) (fun hx=>by rw[hh] at hx;cases hx)
 exact h.done j e hj
theorem aNj {par:NN}{l:List Stp}{G:List (Option (LN))}{Q:List Bool}{more wrong:Bool}{i k:Nat} (h:FSi par l G Q i) {st o r u:LN}{s:Stp} (hi:G[i]?=some (some st)) (hs:l[i]?=some s)
  (ha:after par s.op s.a (abL st)=some (abL o,abL r)) {G1:List (Option (LN))}{Q1:List Bool}{more1:Bool} (g:E6 G Q more k u G1 Q1 more1)
  (hc:(far s.op=false∧dS s.op=false∧k=i+1∧u=o)∨(far s.op=true∧dS s.op=true∧eW l s.a=some k∧u=r)):PsR par l G Q more wrong G1 Q1 more1 wrong:=by
 have hu:=xG g;have hhas:Has (abG G1) k (abL u):=by
  rw[g.lay];exact yM (by rw[iK];exact g.hk) g.hh
 have hlow:Low par l (abG G1):=by
  rw[g.lay];rcases hc with ⟨h1,h2,rfl,rfl⟩ | ⟨h1,h2,h3,rfl⟩
  ·exact h.low.next h.low (cV hi) hs ha h2
  exact h.low.farLow (cV hi) hs ha h1 h3
 refine .inr ⟨rfl,⟨hlow,?_,fun j hj=>?_,g.known h.known⟩,g.same⟩
 ·rw[g.lay];exact qZ h.z g.hh
 obtain⟨q1,q2⟩:=g.no j hj;by_cases e:j=i
 ·subst e;rw[hi] at q2;refine rM.passed (cV q2) hs ha (fun hx=>?_) (fun hx=>?_)
  ·rcases hc with ⟨h1,-⟩ | ⟨-,-,h3,rfl⟩
   ·rw[h1] at hx;cases hx
   exact⟨k,h3,hhas⟩
  rcases hc with ⟨-,-,rfl,rfl⟩ | ⟨-,h2,-⟩
  ·exact hhas
  rw[h2] at hx;cases hx
 exact (h.done j e q1).mono (by rw[lU,lU,q2]) hu
theorem aNi {par:NN}{l:List Stp}{G:List (Option (LN))}{Q:List Bool}{more wrong:Bool}{i k:Nat} (h:FSi par l G Q i) {st o r:LN}{s:Stp} (hi:G[i]?=some (some st)) (hs:l[i]?=some s)
  (ha:after par s.op s.a (abL st)=some (abL o,abL r)) {G1 G2:List (Option (LN))}{Q1 Q2:List Bool}{more1 more2:Bool} (g:E6 G Q more k r G1 Q1 more1) (g2:E6 G1 Q1 more1 (i+1) o G2 Q2 more2)
  (h1:far s.op=true) (h2:dS s.op=false) (h3:eW l s.a=some k):PsR par l G Q more wrong G2 Q2 more2 wrong:=by
 have hu:=xG g;have hu2:=xG g2;have hhas:Has (abG G1) k (abL r):=by
  rw[g.lay];exact yM (by rw[iK];exact g.hk) g.hh
 have hhas2:Has (abG G2) (i+1) (abL o):=by
  rw[g2.lay];exact yM (by rw[iK];exact g2.hk) g2.hh
 have hlow1:Low par l (abG G1):=by
  rw[g.lay];exact h.low.farLow (cV hi) hs ha h1 h3
 have hlow:Low par l (abG G2):=by
  rw[g2.lay];exact h.low.next hlow1 (cV hi) hs ha h2
 refine .inr ⟨rfl,⟨hlow,?_,fun j hj=>?_,g2.known (g.known h.known)⟩,?_⟩
 ·rw[g2.lay];refine qZ ?_ g2.hh;rw[g.lay];exact qZ h.z g.hh
 ·obtain⟨q3,q4⟩:=g2.no j hj;obtain⟨q1,q2⟩:=g.no j q3;by_cases e:j=i
  ·subst e;rw[q2,hi] at q4;exact rM.passed (cV q4) hs ha (fun _=>⟨k,h3,Has.mono hhas hu2⟩) (fun _=>hhas2)
  exact (h.done j e q1).mono (by rw[lU,lU,q4,q2]) (hu.trans hu2)
 rcases g.same with ⟨rfl,rfl,rfl⟩ | ⟨e1,e2⟩
 ·exact g2.same
 rcases g2.same with ⟨rfl,rfl,rfl⟩ | ⟨e3,e4⟩
 ·exact .inr ⟨e1,e2⟩
 exact .inr ⟨e3,by omega⟩
open Wire Flow
def mkK (l:LN):BA:=⟨(l.map UInt8.ofNat).toArray⟩
theorem aBf (l:LN):(mkK l).size=l.length:=by simp[mkK,ByteArray.size]
theorem aPd {l:LN}(h:∀ x,x ∈ l→x<256):kL (mkK l)=l:=by
 unfold kL mkK;rw[aDm,List.map_map]
 conv=>rhs;rw[← List.map_id l]
 apply List.map_congr_left;intro x hx;simp only[Function.comp,id];simp[UInt8.toNat_ofNat];exact h x hx
def jR (op:Nat):LN:=if op=17 then [] else kN.getD op []
theorem aFw (op:Nat)(w:WL)(h:op<54)(h1:op≠44)(h2:op≠45)(h3:op≠46)(h4:op≠50) :
  Calls prog 196 #[.int .u8 op] w fun e w'=>e=.returned (.tuple #[.string (mkK (kD.getD op [])),.string (mkK (jR op))])∧w'=w:=by
 obtain rfl | rfl | rfl | rfl | rfl | rfl | rfl | rfl | rfl | rfl | rfl | rfl | rfl | rfl | rfl | rfl | rfl | rfl | rfl | rfl | rfl | rfl | rfl | rfl | rfl | rfl | rfl | rfl | rfl | rfl | rfl | rfl | rfl | rfl | rfl | rfl | rfl | rfl | rfl | rfl | rfl | rfl | rfl | rfl | rfl | rfl | rfl | rfl | rfl | rfl:op=0∨op=1∨op=2∨op=3∨op=4∨op=5∨op=6∨op=7∨op=8∨op=9∨op=10∨op=11∨op=12∨op=13∨op=14∨op=15∨op=16∨op=17∨op=18∨op=19∨op=20∨op=21∨op=22∨op=23∨op=24∨op=25∨op=26∨op=27∨op=28∨op=29∨op=30∨op=31∨op=32∨op=33∨op=34∨op=35∨op=36∨op=37∨op=38∨op=39∨op=40∨op=41∨op=42∨op=43∨op=47∨op=48∨op=49∨op=51∨op=52∨op=53:=by omega
 all_goals
  go_enter func196,ntmps196;go_wp2;go_ret2;exact⟨rfl,rfl⟩
def chB (par:NN) (op a:Nat) (o:Option (LN)):Option (LN):=
 if op=17 then o.bind (cO [4]) else o.bind fun st=>(eJ par op a st).map Prod.fst
theorem yW {par:NN}{op a:Nat}{o:Option (LN)} (hl:∀ st,o=some st→st.length≤1024) (h17:op≠17) (h45:op≠45) (h46:op≠46) :
  (o.bind (cO (gJ par op a).reverse)).bind (cX (kN.getD op []))=chB par op a o:=by
 unfold chB;rw[if_neg h17];cases o with
 | none=>rfl
 | some st=>
  have hst:=hl st rfl;simp only[Option.bind_some,eJ];cases ht:cO (gJ par op a).reverse st with
  | none=>rfl
  | some rest=>
   have hr:rest.length≤1024:=by
    have:=congrArg List.length (oL _ _ _ ht);rw[List.length_take] at this;omega
   have hg:kO op (st.drop rest.length)=kN.getD op []:=by unfold kO;rw[if_neg h45,if_neg h46]
   simp only[Option.bind_some,pP hr,hg,Lla];split <;> rfl
theorem aUy {par:NN}{a:Nat}{o:Option (LN)}:(o.bind (cO (gJ par 17 a).reverse)).bind (cX [])=chB par 17 a o:=by
 unfold chB;rw[if_pos rfl];have:(gJ par 17 a).reverse=[4]:=rfl;rw[this];cases o with
 | none=>rfl
 | some st=>simp only[Option.bind_some];cases cO [4] st <;> rfl
theorem aYa {par:NN}{a:Nat}{o:Option (LN)} (hl:∀ st,o=some st→st.length≤1024) {y:Nat} (hy:∀ s x,o=some (s++[x])→y=x) :
  ((o.bind (sI 3)).bind (dP y)).bind (dP y)=chB par 45 a o:=by
 unfold chB;rw[if_neg (by decide)];cases o with
 | none=>rfl
 | some st=>
  by_cases h0:st=[]
  ·subst h0;rfl
  obtain⟨s,x,rfl⟩:=nD h0;obtain rfl:=hy s x rfl;have hst:=hl _ rfl;simp only[Lla,List.length_cons,List.length_nil] at hst;simp only[Option.bind_some,gL,eJ];have hw:(gJ par 45 a).reverse=[3]:=rfl;rw[hw];simp only[cO,gL];split
  ·simp only[Option.bind_some,Option.map_some];have hg:kO 45 ((s++[y]).drop s.length)=[y,y]:=by simp[kO]
   rw[hg];have:=pP (l:=[y,y]) (st:=s) (by omega);simp only[cX] at this;have e1:(dP y s).bind (dP y)=(dP y s).bind fun s=>(dP y s).bind some:=by
    cases dP y s with
    | none=>rfl
    | some q=>simp only[Option.bind_some];cases dP y q <;> rfl
   rw[e1,this];simp only[Lla];split <;> rfl
  rfl
theorem aQs {par:NN}{a:Nat}{o:Option (LN)} (hl:∀ st,o=some st→st.length≤1024) {y x:Nat} (hy:∀ s z,o=some (s++[z])→y=z) (hx:∀ s z,o.bind (sI 3)=some (s++[z])→x=z) :
  ((((o.bind (sI 3)).bind (sI 3)).bind (dP y)).bind (dP x)).bind (dP y)=chB par 46 a o:=by
 unfold chB;rw[if_neg (by decide)];cases o with
 | none=>rfl
 | some st=>
  by_cases h0:st=[]
  ·subst h0;rfl
  obtain⟨s,z,rfl⟩:=nD h0;obtain rfl:=hy s z rfl;have hst:=hl _ rfl;simp only[Lla,List.length_cons,List.length_nil] at hst;simp only[Option.bind_some,gL,eJ] at hx ⊢;have hw:(gJ par 46 a).reverse=[3,3]:=rfl;rw[hw];simp only[cO,gL];split
  ·rename_i hz
   rw[if_pos hz] at hx;simp only[Option.bind_some];by_cases h1:s=[]
   ·subst h1;rfl
   obtain⟨t,u,rfl⟩:=nD h1;obtain rfl:=hx t u rfl;simp only[gL];split
   ·simp only[Option.bind_some,Option.map_some];have hg:kO 46 ((t++[x]++[y]).drop t.length)=[y,x,y]:=by
     have:(t++[x]++[y]).drop t.length=[x,y]:=by simp
     rw[this];rfl
    rw[hg];simp only[Lla,List.length_cons,List.length_nil] at hst;have:=pP (l:=[y,x,y]) (st:=t) (by omega);simp only[cX] at this;have e1:((dP y t).bind (dP x)).bind (dP y)=(dP y t).bind fun s=>(dP x s).bind fun s=>(dP y s).bind some:=by
     cases dP y t with
     | none=>rfl
     | some q=>
      simp only[Option.bind_some];cases dP x q with
      | none=>rfl
      | some p=>simp only[Option.bind_some];cases dP y p <;> rfl
    rw[e1,this];simp only[Lla];split <;> rfl
   rfl
  rfl
theorem cA.len {w:WL}{sb:Nat}{o:Option (LN)} (h:cA w sb o):∀ st,o=some st→st.length≤1024:=by
 intro st hst;subst hst;exact dA.hi h
theorem aXc (k c:Nat)(hk:k<256):kL ⟨(Lib.repeatL [UInt8.ofNat k] c).toArray⟩=List.replicate c k∧(⟨(Lib.repeatL [UInt8.ofNat k] c).toArray⟩:BA).size=c:=by
 have e:Lib.repeatL [UInt8.ofNat k] c=List.replicate c (UInt8.ofNat k):=by
  induction c with
  | zero=>rfl
  | succ c ih=>rw[Lib.repeatL,ih];rfl
 rw[e];refine⟨?_,by simp[ByteArray.size]⟩;unfold kL;rw[aDm,List.map_replicate];congr 1;simp[UInt8.toNat_ofNat];omega
def vI (op pl a b tt:Nat):Value:=.agg #[.int .u8 op,.int .i64 pl,.int .i64 a,.int .i64 b,.int .i64 tt]
theorem uJ (k c:Nat)(w:WL)(hk:k<256)(hc:c≤100000) :
  Calls prog 195 #[.string ⟨#[UInt8.ofNat k]⟩,iA c] w fun e w'=>∃ l:BA,e=.returned (.string l)∧l.size=c∧kL l=List.replicate c k∧Fr [] w w':=by
 refine (strings_Repeat ⟨#[UInt8.ofNat k]⟩ c w (by omega) (by show 1*c≤_;omega)).mono ?_;rintro e w' ⟨rfl,lo⟩;obtain⟨h1,h2⟩:=aXc k c hk;exact⟨_,rfl,h2,h1,Fr.of_below lo⟩
theorem aGf (w:WL)(fb sb:Nat)(o:Option (LN))(pl a b tt:Nat)(par:NN)(h:cA w sb o) :
  Calls prog 169 #[.pointer (some (Ad fb 0)),.pointer (some (Ad sb 0)),vI 45 pl a b tt] w fun e w'=>e=.returned (.tuple #[])∧cA w' sb (chB par 45 a o)∧Fr [sb] w w':=by
 have K0:=h.fr ((Fr.refl [] w).alloc (.cells #[.int .u8 45,iA pl,iA a,iA b,iA tt] 96)) (by simp);have F0:Fr [sb] w (w.alloc (.cells #[.int .u8 45,iA pl,iA a,iA b,iA tt] 96)):=(Fr.refl [sb] w).alloc _;have HL:Hid _:=h.len;have HP:Hid _:=fun (W:WL) (q:Option (LN)) (hW:cA W sb q)=>sH W sb q 3 hW (by omega);have HQ:Hid _:=fun (W:WL) (q:Option (LN)) (x:Nat) (hW:cA W sb q) (hx:x<16)=>oR W sb q x hW hx;have HT:Hid _:=fun (W:WL) (q:Option (LN)) (l:BA) (hW:cA W sb q) (hl:l.size≤100000) (hk:∀ x,x ∈ kL l→x<16)=>mG W sb q l hW hl hk;have HV:Hid _:=fun (W:WL) (q:Option (LN)) (l:BA) (hW:cA W sb q) (hl:l.size≤100000) (hk:∀ x,x ∈ kL l→x<16)=>jY W sb q l hW hl hk;clear h;unfold vI;go_enter func169,ntmps169;go_wp2_with fail;refine (HP.out _ _ K0).mono ?_;rintro e w1 ⟨y,rfl,hy,hy2,K1,F1⟩;go_wp2_with fail;refine (HQ.out _ _ _ K1 hy).mono ?_;rintro e w2 ⟨rfl,K2,F2⟩;go_wp2_with fail;refine (HQ.out _ _ _ K2 hy).mono ?_;rintro e w3 ⟨rfl,K3,F3⟩;rw[aYa (par:=par) (a:=a) HL.out hy2] at K3;go_wp2;go_end0;exact⟨rfl,K3,((F0.trans F1).trans F2).trans F3⟩
theorem T6 (w:WL)(fb sb:Nat)(o:Option (LN))(pl a b tt:Nat)(par:NN)(h:cA w sb o) :
  Calls prog 169 #[.pointer (some (Ad fb 0)),.pointer (some (Ad sb 0)),vI 46 pl a b tt] w fun e w'=>e=.returned (.tuple #[])∧cA w' sb (chB par 46 a o)∧Fr [sb] w w':=by
 have K0:=h.fr ((Fr.refl [] w).alloc (.cells #[.int .u8 46,iA pl,iA a,iA b,iA tt] 96)) (by simp);have F0:Fr [sb] w (w.alloc (.cells #[.int .u8 46,iA pl,iA a,iA b,iA tt] 96)):=(Fr.refl [sb] w).alloc _;have HL:Hid _:=h.len;have HP:Hid _:=fun (W:WL) (q:Option (LN)) (hW:cA W sb q)=>sH W sb q 3 hW (by omega);have HQ:Hid _:=fun (W:WL) (q:Option (LN)) (x:Nat) (hW:cA W sb q) (hx:x<16)=>oR W sb q x hW hx;have HT:Hid _:=fun (W:WL) (q:Option (LN)) (l:BA) (hW:cA W sb q) (hl:l.size≤100000) (hk:∀ x,x ∈ kL l→x<16)=>mG W sb q l hW hl hk;have HV:Hid _:=fun (W:WL) (q:Option (LN)) (l:BA) (hW:cA W sb q) (hl:l.size≤100000) (hk:∀ x,x ∈ kL l→x<16)=>jY W sb q l hW hl hk;clear h;unfold vI;go_enter func169,ntmps169;go_wp2_with fail;refine (HP.out _ _ K0).mono ?_;rintro e w1 ⟨y,rfl,hy,hy2,K1,F1⟩;go_wp2_with fail;refine (HP.out _ _ K1).mono ?_;rintro e w2 ⟨x,rfl,hx,hx2,K2,F2⟩;go_wp2_with fail;refine (HQ.out _ _ _ K2 hy).mono ?_;rintro e w3 ⟨rfl,K3,F3⟩;go_wp2_with fail;refine (HQ.out _ _ _ K3 hx).mono ?_;rintro e w4 ⟨rfl,K4,F4⟩;go_wp2_with fail;refine (HQ.out _ _ _ K4 hy).mono ?_;rintro e w5 ⟨rfl,K5,F5⟩;rw[aQs (par:=par) (a:=a) HL.out hy2 hx2] at K5;go_wp2;go_end0;exact⟨rfl,K5,((((F0.trans F1).trans F2).trans F3).trans F4).trans F5⟩
theorem T8 (w:WL)(fb sb:Nat)(o:Option (LN))(pl a b tt:Nat)(par:NN)(h:cA w sb o)(ha:a≤1000) :
  Calls prog 169 #[.pointer (some (Ad fb 0)),.pointer (some (Ad sb 0)),vI 44 pl a b tt] w fun e w'=>e=.returned (.tuple #[])∧cA w' sb (chB par 44 a o)∧Fr [sb] w w':=by
 have K0:=h.fr ((Fr.refl [] w).alloc (.cells #[.int .u8 44,iA pl,iA a,iA b,iA tt] 96)) (by simp);have F0:Fr [sb] w (w.alloc (.cells #[.int .u8 44,iA pl,iA a,iA b,iA tt] 96)):=(Fr.refl [sb] w).alloc _;have HL:Hid _:=h.len;have HP:Hid _:=fun (W:WL) (q:Option (LN)) (hW:cA W sb q)=>sH W sb q 3 hW (by omega);have HQ:Hid _:=fun (W:WL) (q:Option (LN)) (x:Nat) (hW:cA W sb q) (hx:x<16)=>oR W sb q x hW hx;have HT:Hid _:=fun (W:WL) (q:Option (LN)) (l:BA) (hW:cA W sb q) (hl:l.size≤100000) (hk:∀ x,x ∈ kL l→x<16)=>mG W sb q l hW hl hk;have HV:Hid _:=fun (W:WL) (q:Option (LN)) (l:BA) (hW:cA W sb q) (hl:l.size≤100000) (hk:∀ x,x ∈ kL l→x<16)=>jY W sb q l hW hl hk;have HR:Hid _:=fun (W:WL)=>uJ 2 a W (by omega) (by omega);clear h;unfold vI;go_enter func169,ntmps169;go_wp2_with fail;refine (HR.out _).mono ?_;rintro e w1 ⟨l,rfl,hl,hkl,F1⟩;have K1:=K0.fr F1 (by simp);go_wp2_with fail;refine (HT.out _ _ _ K1 (by omega) (by rw[hkl];intro x hx;rw[List.mem_replicate] at hx;omega)).mono ?_;rintro e w2 ⟨rfl,K2,F2⟩;have hw:kL l=gJ par 44 a:=by rw[hkl];rfl
 rw[hw] at K2;have K3:cA w2 sb (chB par 44 a o):=by
  rw[← yW (par:=par) (op:=44) (a:=a) HL.out (by decide) (by decide) (by decide)];have e0:∀ q:Option (LN),q.bind (cX (kN.getD 44 []))=q:=fun q=>by cases q <;> rfl
  rw[e0];exact K2
 go_wp2;go_end0;exact⟨rfl,K3,(F0.trans (F1.mono (by simp))).trans F2⟩
theorem T7 (w:WL)(fb sb:Nat)(o:Option (LN))(op pl a b tt:Nat)(par:NN)(h:cA w sb o)(hop:op<54)(h44:op≠44)(h45:op≠45)(h46:op≠46)(h50:op≠50) :
  Calls prog 169 #[.pointer (some (Ad fb 0)),.pointer (some (Ad sb 0)),vI op pl a b tt] w fun e w'=>e=.returned (.tuple #[])∧cA w' sb (chB par op a o)∧Fr [sb] w w':=by
 have K0:=h.fr ((Fr.refl [] w).alloc (.cells #[.int .u8 op,iA pl,iA a,iA b,iA tt] 96)) (by simp);have F0:Fr [sb] w (w.alloc (.cells #[.int .u8 op,iA pl,iA a,iA b,iA tt] 96)):=(Fr.refl [sb] w).alloc _;have HL:Hid _:=h.len;have HP:Hid _:=fun (W:WL) (q:Option (LN)) (hW:cA W sb q)=>sH W sb q 3 hW (by omega);have HQ:Hid _:=fun (W:WL) (q:Option (LN)) (x:Nat) (hW:cA W sb q) (hx:x<16)=>oR W sb q x hW hx;have HT:Hid _:=fun (W:WL) (q:Option (LN)) (l:BA) (hW:cA W sb q) (hl:l.size≤100000) (hk:∀ x,x ∈ kL l→x<16)=>mG W sb q l hW hl hk;have HV:Hid _:=fun (W:WL) (q:Option (LN)) (l:BA) (hW:cA W sb q) (hl:l.size≤100000) (hk:∀ x,x ∈ kL l→x<16)=>jY W sb q l hW hl hk;have HE:Hid _:=fun (W:WL)=>aFw op W hop h44 h45 h46 h50;have g44:((op:Int)==44)=false:=by simp;omega
 have g45:((op:Int)==45)=false:=by simp;omega
 have g46:((op:Int)==46)=false:=by simp;omega
 have g50:((op:Int)==50)=false:=by simp;omega
 have hg:op<256:=by omega
 clear h;unfold vI;go_enter func169,ntmps169;go_wp2_with fail;refine (HE.out _).mono ?_;rintro e w1 ⟨rfl,rfl⟩;have a1:∀ x,x ∈ kD.getD op []→x<16:=fun x hx=>by
  have:=rR op hop x hx;omega
 have a2:∀ x,x ∈ jR op→x<16:=fun x hx=>by
  unfold jR at hx;split at hx
  ·cases hx
  have:=uS op hop x hx;omega
 have e1:kL (mkK (kD.getD op []))=kD.getD op []:=aPd fun x hx=>by have:=a1 x hx;omega
 have e2:kL (mkK (jR op))=jR op:=aPd fun x hx=>by have:=a2 x hx;omega
 have z1:(kD.getD op []).length≤3:=by
  have:∀ op,op<54→(kD.getD op []).length≤3:=by decide
  exact this op hop
 have z2:(jR op).length≤2:=by
  have:∀ op,op<54→(jR op).length≤2:=by decide
  exact this op hop
 have hT1:=HT.out _ _ (mkK (kD.getD op [])) K0 (by rw[aBf];omega) (by rw[e1];exact a1);have HT1:Hid _:=hT1;clear hT1;go_wp2_with fail;refine Calls.mono HT1.out ?_;rintro e w2 ⟨rfl,K2,F2⟩;go_wp2_with fail;refine (HV.out _ _ _ K2 (by rw[aBf];omega) (by rw[e2];exact a2)).mono ?_;rintro e w3 ⟨rfl,K3,F3⟩;rw[e1,e2] at K3;have hw:kD.getD op []=gJ par op a:=by unfold gJ;rw[if_neg h44,if_neg h50]
 have K4:cA w3 sb (chB par op a o):=by
  by_cases h17:op=17
  ·subst h17;rw[hw] at K3;rw[← aUy];exact K3
  rw[← yW (par:=par) (op:=op) (a:=a) HL.out h17 h45 h46,← hw];have:jR op=kN.getD op []:=by unfold jR;rw[if_neg h17]
  rw[← this];exact K3
 go_wp2;go_end0;exact⟨rfl,K4,(F0.trans F2).trans F3⟩
theorem aDc (w:WL)(fb sb g off n cap:Nat)(o:Option (LN))(pl a b tt:Nat)(par:NN)(h:cA w sb o)
  (hf:w.cell? (Ad fb 4)=some (.slice (some (Ad g off)) n cap)) (ha:a<n) (hn:n≤1000000) (hp:w.cell? (Ad g (off+a*3))=some (iA (par a:Nat))) (hp8:par a≤8) (hfs:fb≠sb) (hgs:g≠sb) :
  Calls prog 169 #[.pointer (some (Ad fb 0)),.pointer (some (Ad sb 0)),vI 50 pl a b tt] w fun e w'=>e=.returned (.tuple #[])∧cA w' sb (chB par 50 a o)∧Fr [sb] w w':=by
 have hm:=hmX
 have FA:Fr [] w (w.alloc (.cells #[.int .u8 50,iA pl,iA a,iA b,iA tt] 96)):=(Fr.refl [] w).alloc _;have K0:=h.fr FA (by simp);have F0:Fr [sb] w (w.alloc (.cells #[.int .u8 50,iA pl,iA a,iA b,iA tt] 96)):=(Fr.refl [sb] w).alloc _;have d0:(w.alloc (.cells #[.int .u8 50,iA pl,iA a,iA b,iA tt] 96)).cell? (Ad fb 4)=some (.slice (some (Ad g off)) n cap):=(FA.cell (p:=Ad fb 4) (aB hf) (by simp)).trans hf;have d1:(w.alloc (.cells #[.int .u8 50,iA pl,iA a,iA b,iA tt] 96)).cell? (Ad g (off+a*3))=some (iA (par a:Nat)):=(FA.cell (p:=Ad g (off+a*3)) (aB hp) (by simp)).trans hp;have hnew:=wan w (.cells #[.int .u8 50,iA pl,iA a,iA b,iA tt] 96);have d2:(w.alloc (.cells #[.int .u8 50,iA pl,iA a,iA b,iA tt] 96)).cell? (Ad w.heap.size 2)=some (iA a):=cof hnew rfl;have d3:(w.alloc (.cells #[.int .u8 50,iA pl,iA a,iA b,iA tt] 96)).cell? (Ad w.heap.size 0)=some (.int .u8 50):=cof hnew rfl;have HL:Hid _:=h.len;have hsb0:=h.lt;obtain⟨p,hpp⟩:=eXi (par a);rw[hpp] at d1 hp8;have HT:Hid _:=fun (W:WL) (q:Option (LN)) (l:BA) (hW:cA W sb q) (hl:l.size≤100000) (hk:∀ x,x ∈ kL l→x<16)=>mG W sb q l hW hl hk;have HV:Hid _:=fun (W:WL) (q:Option (LN)) (l:BA) (hW:cA W sb q) (hl:l.size≤100000) (hk:∀ x,x ∈ kL l→x<16)=>jY W sb q l hW hl hk;have HR:Hid _:=fun (W:WL)=>uJ 3 p W (by omega) (by omega);have hblt:w.heap.size<(w.alloc (.cells #[.int .u8 50,iA pl,iA a,iA b,iA tt] 96)).heap.size:=by simp
 have gA:(a:Int)<(n:Int):=by omega
 clear h hf hp FA hnew;unfold vI;go_enter func169,ntmps169;go_wp2_with fail;generalize w.alloc (.cells #[.int .u8 50,iA pl,iA a,iA b,iA tt] 96)=W at *;refine aI (fun w1:WL=>w1.cell? (Ad fb 4)=some (.slice (some (Ad g off)) n cap)∧w1.cell? (Ad w.heap.size 2)=some (iA a)∧w1.cell? (Ad g (off+a*3))=some (iA p)) hm ?_;have hS:(fun w1:WL=>w1.cell? (Ad fb 4)=some (.slice (some (Ad g off)) n cap)∧w1.cell? (Ad w.heap.size 2)=some (iA a)∧w1.cell? (Ad g (off+a*3))=some (iA p)) W.drew:=AI d0 (AI d2 d1);refine aK (fun _ _ _ _ _ h=>h) hS [0,1,2,3,4,5,6,7,8,9,10,11] (by kernel_rfl) ?_
 iterate 12
  refine Yls.cons (v:=?_) rfl (.inl ⟨rfl,fun w1 hS1=>?_⟩) ?_;rotate_left
  ·obtain⟨q0,q1,q2⟩:=hS1;go_simp
   first | rfl | (refine (if_neg (by omega)).trans ?_;rfl)
  simp only[Act.put,Zp,Zq]
 refine Yls.nil ?_;refine rd1 (r:=12) (by kernel_rfl) rfl fun K hK=>?_;go_simp;refine (HR.out _).mono ?_;rintro e w1 ⟨l,rfl,hl,hkl,G1⟩;have F1:Fr [] W w1:=⟨G1.os,G1.tape,G1.output,G1.size,G1.block⟩;have K1:=K0.fr F1 (by simp);refine hK _ _ (AI ((F1.cell (p:=Ad fb 4) (aB d0) (by simp)).trans d0) (AI ((F1.cell (p:=Ad w.heap.size 2) (aB d2) (by simp)).trans d2) ((F1.cell (p:=Ad g (off+a*3)) (aB d1) (by simp)).trans d1))) ?_;clear hK K hS;intro _;refine rd1 (r:=13) (by kernel_rfl) rfl fun K hK=>?_;go_simp;refine (HT.out _ _ _ K1 (by omega) (by rw[hkl];intro x hx;rw[List.mem_replicate] at hx;omega)).mono ?_;rintro e w2 ⟨rfl,K2,F2⟩;have hsb:=K0.lt;have hsw:w.heap.size≠sb:=by have:=hsb0;omega
 have F12:=(F1.mono (S':=[sb]) (by simp)).trans F2;refine hK _ _ (AI ((F12.cell (p:=Ad fb 4) (aB d0) (by simpa using hfs)).trans d0) (AI ((F12.cell (p:=Ad w.heap.size 2) (aB d2) (by simpa using hsw)).trans d2) ((F12.cell (p:=Ad g (off+a*3)) (aB d1) (by simpa using hgs)).trans d1))) ?_;clear hK K;intro _;refine wpAnyH_done (by kernel_rfl) ?_ _;have hw:(kL l).reverse=(gJ par 50 a).reverse:=by rw[hkl,← hpp];rfl
 rw[hw] at K2;clear HT HR hw hkl hl K1;go_wp2_with fail;refine (HV.out _ _ ⟨#[3]⟩ K2 (by decide) (by decide)).mono ?_;rintro e w3 ⟨rfl,K3,F3⟩;have K4:cA w3 sb (chB par 50 a o):=by
  rw[← yW (par:=par) (op:=50) (a:=a) HL.out (by decide) (by decide) (by decide)];exact K3
 go_wp2;go_end0;exact⟨rfl,K4,(F0.trans F12).trans F3⟩
theorem aGg (w:WL)(fb sb g off n cap:Nat)(o:Option (LN))(op pl a b tt:Nat)(par:NN)(hop:op<54)(h:cA w sb o)(h44:op=44→a≤1000)
  (h50:op=50→w.cell? (Ad fb 4)=some (.slice (some (Ad g off)) n cap)∧a<n∧n≤1000000∧w.cell? (Ad g (off+a*3))=some (iA (par a:Nat))∧par a≤8∧fb≠sb∧g≠sb) :
  Calls prog 169 #[.pointer (some (Ad fb 0)),.pointer (some (Ad sb 0)),vI op pl a b tt] w fun e w'=>e=.returned (.tuple #[])∧cA w' sb (chB par op a o)∧Fr [sb] w w':=by
 by_cases e45:op=45
 ·subst e45;exact aGf w fb sb o pl a b tt par h
 by_cases e46:op=46
 ·subst e46;exact T6 w fb sb o pl a b tt par h
 by_cases e44:op=44
 ·subst e44;exact T8 w fb sb o pl a b tt par h (h44 rfl)
 by_cases e50:op=50
 ·subst e50;obtain⟨q1,q2,q3,q4,q5,q6,q7⟩:=h50 rfl;exact aDc w fb sb g off n cap o pl a b tt par h q1 q2 q3 q4 q5 q6 q7
 exact T7 w fb sb o op pl a b tt par h hop e44 e45 e46 e50
end Go.Proofs.YtlokkgajpjafmaaGreatDoor
