import Derived.Test.YtmolfmgchbjnbaaGreatDoorM23
set_option linter.unusedSimpArgs false
set_option linter.unusedVariables false
set_option linter.unusedSectionVars false
set_option maxRecDepth 100000
set_option maxHeartbeats 40000000
namespace Go.Proofs.YtmolfmgchbjnbaaGreatDoor.Ev
open Go
variable [Inhabited (Nat→BA)]
section
variable {P:Program}{G:Nat}{E:EE}{ops:Array Oper}{b:Array Nat}
structure RegF (ops:Array Oper) (b:Array Nat):Prop where
 edge:∀ i o e,ops[i]?=some o→e ∈ o.after.toList→Region.binds .any e=true→e.on<i
 apart:∀ i j d,i<ops.size→j<ops.size→dstOf ops j=some d→i=j∨dstOf ops i≠some d
 tail:∀ i j d,i<ops.size→j<ops.size→dstOf ops j=some d→readsAt ops i d=true→isTail ops b j=true→isTail ops b i=false∧bt b j i=true
 body:∀ i j d,i<ops.size→j<ops.size→dstOf ops j=some d→readsAt ops i d=true→isTail ops b j=false→i≠j∧bt b i j=true
theorem regF_of (h:(List.range ops.size).all (regOk1 ops b)=true):RegF ops b:=by
 have hi:∀ i,i<ops.size→∃ o,ops[i]?=some o∧(o.after.toList.all fun e=>!Region.binds .any e || Nat.blt e.on i)=true∧∀ j,j<ops.size→apartA ops b o i j=true:=by
  intro i hi;have:=List.all_eq_true.1 h i (List.mem_range.2 hi);unfold regOk1 at this;split at this
  ·cases this
  ·rename_i o ho
   simp only[Bool.and_eq_true] at this;exact⟨o,ho,this.1,fun j hj=>List.all_eq_true.1 this.2 j (List.mem_range.2 hj)⟩
 have ap:∀ i j d,i<ops.size→j<ops.size→dstOf ops j=some d→(i=j∨dstOf ops i≠some d)∧(readsAt ops i d=true→cond (isTail ops b j) (!(isTail ops b i) && bt b j i) (!(Nat.beq i j) && bt b i j)=true):=by
  intro i j d h1 h2 hd;obtain⟨o,ho,-,ha⟩:=hi i h1;have:=ha j h2;unfold apartA at this;rw[hd] at this;simp only[Bool.and_eq_true,Bool.or_eq_true] at this;obtain⟨q1,q2⟩:=this;refine⟨?_,fun hr=>?_⟩
  ·rcases q1 with q1 | q1
   ·exact .inl (Nat.eq_of_beq_eq_true q1)
   right;rw[dstOf_eq ho];simpa using q1
  rcases q2 with q2 | q2
  ·rw[readsAt_eq ho] at hr;rw[hr] at q2;cases q2
  exact q2
 refine⟨fun i o e ho he hb=>?_,fun i j d h1 h2 hd=>(ap i j d h1 h2 hd).1,fun i j d h1 h2 hd hr ht=>?_,fun i j d h1 h2 hd hr ht=>?_⟩
 ·have hlt:i<ops.size:=(Age.1 ho).1;obtain⟨o',ho',h1,-⟩:=hi i hlt;rw[ho] at ho';cases ho';have:=List.all_eq_true.1 h1 e he;simp only[hb,Bool.not_true,Bool.false_or] at this;simpa [Nat.blt_eq] using this
 ·have:=(ap i j d h1 h2 hd).2 hr;rw[ht] at this;simpa using this
 have:=(ap i j d h1 h2 hd).2 hr;rw[ht] at this;simp only[cond_false,Bool.and_eq_true,Bool.not_eq_true'] at this;refine⟨?_,this.2⟩;rintro rfl;simp at this
structure IR (P:Program) (G:Nat) (ops:Array Oper) (b:Array Nat) (z:Nat) (Dn U:Nat→Prop) (a0 a:AA) (h:AH) (m:Mp) (ρ:NN):Prop where
 n:a.n=a0.n
 pend:∀ i,U i→Pend P G ops i a h m (ρ i)
 uni:∀ i,U i→i<ops.size∧isChain ops i=false∧isTail ops b i=false
 inj:∀ i i',U i→U i'→ρ i=ρ i'→i=i'
 lim:∀ i,U i→(z≤ρ i∧ρ i<h.n)∨ρ i=4096+i
 ref:∀ d,(∀ i,(U i∨Dn i)→dstOf ops i≠some d)→a.get d=a0.get d
 dfn:∀ i d,(U i∨Dn i)→dstOf ops i=some d→∃ v,a.get d=some v
theorem cls_lt {o:Oper}{i:Nat} (ho:ops[i]?=some o) (hc:isChain ops i=false):cls o.op=0∨cls o.op=1:=by
 have hc:Nat.ble 2 (cls o.op)=false:=by
  unfold isChain at hc;rw[ho] at hc;exact hc
 have:¬ 2≤cls o.op:=fun q=>by rw[Nat.ble_eq_true_of_le q] at hc;cases hc
 omega
theorem IR.step {z:Nat}{Dn U:Nat→Prop}{a0 a:AA}{h:AH}{m:Mp}{ρ:NN}{w:WL} (F:RegF ops b) (I:IR P G ops b z Dn U a0 a h m ρ) (hz:z≤h.n) (R:Rel P G m h w) {j:Nat} (hU:¬ U j) (hD:∀ i,Dn i→i<ops.size∧i≠j) (hc:isChain ops j=false) (ht:isTail ops b j=false) (hr:∀ i,U i→noRead ops i j=true)
  {a1:AA}{h1:AH} (hrun:runS E a h (stepI P G ops false j)=some (a1,h1)) :
  Rel P G m h1 w∧Ext m m h h1 w w∧(∃ ρ',IR P G ops b z Dn (fun i=>U i∨i=j) a0 a1 h1 m ρ')∧∀ d,dstOf ops j≠some d→a1.get d=a.get d:=by
 unfold runS at hrun;split at hrun
 case h_2=>cases hrun
 case h_1=>
 rename_i s hs
 simp only[stepI] at hs;obtain⟨o,ho,hst⟩:=bind_some hs;have hj:j<ops.size:=(Age.1 ho).1;obtain⟨wn,e,p,bw,v,k1,k2,k3,k4,k5,k6⟩:=step_parts hst hrun;obtain⟨p1,p2,p3⟩:=putO_ok k3 k5;have hd:dstOf ops j=o.dst:=dstOf_eq ho;have hoff:∀ d,dstOf ops j≠some d→a1.get d=a.get d:=fun d q=>by rw[p3 d,if_neg (by rw[← hd];exact q)]
 have hown:∀ d,readsAt ops j d=true→a1.get d=a.get d:=fun d q=>hoff d fun q2=>(F.body j j d hj hj q2 q ht).1 rfl;have hread:∀ i,U i→∀ d,readsAt ops i d=true→a1.get d=a.get d:=fun i hi d q=>hoff d fun q2=>by
  have:=hr i hi;unfold noRead at this;rw[q2] at this;simp only[q] at this;cases this
 have hdst:∀ i,(U i∨Dn i)→∀ d,dstOf ops i=some d→a1.get d=a.get d:=fun i hi d q=>hoff d fun q2=>by
  have hin:i<ops.size∧i≠j:=by
   rcases hi with hi | hi
   ·exact⟨(I.uni i hi).1,fun e=>hU (e ▸ hi)⟩
   exact hD i hi
  rcases F.apart i j d hin.1 hj q2 with e | e
  ·exact hin.2 e
  exact e q
 -- what the memory becomes
 have key:Rel P G m h1 w∧Ext m m h h1 w w∧HLe h h1∧h.n≤h1.n∧∃ r,Pend P G ops j a1 h1 m r∧((h.n≤r∧r<h1.n)∨r=4096+j):=by
  rcases k6 with ⟨rfl,k6⟩ | ⟨rfl,rfl,rfl⟩
  ·have k2':=k2;unfold execO execN at k2;rcases cls_lt ho hc with hcl | hcl
   ·rw[hcl] at k2;obtain⟨f,hf,rfl⟩:=map_some k2;obtain⟨v1,hv1,hv2⟩:=bind_some k6;simp only[same,Option.some.injEq,Prod.mk.injEq] at hv2;obtain⟨rfl,rfl⟩:=hv2;refine⟨R,.refl m _ w,fun _ _ q=>q,Nat.le_refl _,4096+j,⟨o,wn,_,p,true,ho,k1,k2',k3,?_,fun d q=>by rw[p1];exact p2 d q,.inr (.inl ⟨rfl,hcl,f,v1,hf,?_,fun d q=>by rw[p3 d,if_pos q]⟩)⟩,.inr rfl⟩
    ·rw[wanted_congr k1 (a:=a) (a':=a1) fun d q=>hown d (by rw[readsAt_eq ho];exact q)];exact k4
    rw[aRead_congr hf (a:=a1) (a':=a) fun d q=>hown d (by rw[readsAt_eq ho];exact reads_op q)];exact hv1
   rw[hcl] at k2;obtain⟨f,hf,rfl⟩:=map_some k2;obtain⟨q,hv1,hv2⟩:=bind_some k6;unfold mkNew at hv2;cases hb:Nat.blt h.n 4096 with
   | false=>rw[hb] at hv2;cases hv2
   | true=>
    rw[hb] at hv2;simp only[cond_true,Option.some.injEq,Prod.mk.injEq] at hv2;obtain⟨rfl,rfl⟩:=hv2;have hn:h.n<4096:=by simpa [Nat.blt_eq] using hb
    obtain⟨R2,E2⟩:=R.newA hn q.1;have hle:HLe h (h.new q.1):=fun r o' hr'=>by
     rw[AH.get_new hn];by_cases c:r=h.n
     ·subst c;rw[R.top h.n (Nat.le_refl _)] at hr';cases hr'
     rw[if_neg c];exact hr'
    refine⟨R2,E2,hle,E2.nn,h.n,⟨o,wn,_,p,true,ho,k1,k2',k3,?_,fun d q'=>by rw[p1];exact p2 d q',.inr (.inr ⟨rfl,hcl,f,q,hf,?_,by rw[AH.new_n];omega,R.none_at (Nat.le_refl _),by rw[AH.get_new hn,if_pos rfl],fun d q'=>by rw[p3 d,if_pos q']⟩)⟩,.inl ⟨Nat.le_refl _,by rw[AH.new_n];omega⟩⟩
    ·rw[wanted_congr k1 (a:=a) (a':=a1) fun d q=>hown d (by rw[readsAt_eq ho];exact q)];exact k4
    rw[aNew_congr hf (a:=a1) (a':=a) fun d q=>hown d (by rw[readsAt_eq ho];exact reads_op q)];exact hv1
  refine⟨R,.refl m _ w,fun _ _ q=>q,Nat.le_refl _,4096+j,⟨o,wn,e,p,false,ho,k1,k2,k3,?_,fun d q=>by rw[p1];exact p2 d q,.inl ⟨rfl,fun d q=>by rw[p3 d,if_pos q]⟩⟩,.inr rfl⟩;rw[wanted_congr k1 (a:=a) (a':=a1) fun d q=>hown d (by rw[readsAt_eq ho];exact q)];exact k4
 obtain⟨R1,E1,HL,HN,r,hpj,hr1⟩:=key;refine⟨R1,E1,⟨fun i=>if i=j then r else ρ i,?_⟩,hoff⟩;refine⟨p1.trans I.n,fun i hi=>?_,fun i hi=>?_,fun i i' hi hi'=>?_,fun i hi=>?_,fun d hd'=>?_,fun i d hi hd'=>?_⟩
 ·by_cases c:i=j
  ·subst c;simp only[if_true];exact hpj
  simp only[c,if_false];have hUi:U i:=hi.resolve_right c;exact ((I.pend i hUi).slots p1 (hread i hUi) (hdst i (.inl hUi))).heap HL HN
 ·rcases hi with hi | rfl
  ·exact I.uni i hi
  exact⟨hj,hc,ht⟩
 ·have hlimU:∀ i,U i→i≠j→ρ i≠r:=fun i hi hne q=>by
   rcases I.lim i hi with l1 | l1
   ·rcases hr1 with l2 | l2
    ·omega
    have:=R.lim;omega
   rcases hr1 with l2 | l2
   ·have:=R1.lim;omega
   omega
  by_cases c:i=j
  ·by_cases c':i'=j
   ·intro _;rw[c,c']
   simp only[c,if_true,c',if_false];intro q;exact absurd q.symm (hlimU i' (hi'.resolve_right c') c')
  by_cases c':i'=j
  ·simp only[c,if_false,c',if_true];intro q;exact absurd q (hlimU i (hi.resolve_right c) c)
  simp only[c,if_false,c'];exact I.inj i i' (hi.resolve_right c) (hi'.resolve_right c')
 ·by_cases c:i=j
  ·subst c;simp only[if_true];rcases hr1 with q | q
   ·exact .inl ⟨by omega,q.2⟩
   exact .inr q
  simp only[c,if_false];rcases I.lim i (hi.resolve_right c) with q | q
  ·exact .inl ⟨q.1,by omega⟩
  exact .inr q
 ·rw[hoff d (hd' j (.inl (.inr rfl)))];exact I.ref d fun i hi=>hd' i
   (hi.elim (fun q=>.inl (.inl q)) fun q=>.inr q)
 by_cases c:i=j
 ·subst c;rw[p3 d,if_pos (by rw[← hd];exact hd')];exact⟨v,rfl⟩
 have hi':U i∨Dn i:=by
  rcases hi with (hi | hi) | hi
  ·exact .inl hi
  ·exact absurd hi c
  exact .inr hi
 rw[hdst i hi' d hd'];exact I.dfn i d hi' hd'
theorem IR.seg (F:RegF ops b){z:Nat}:∀ (l dn:LN) {Dn U:Nat→Prop}{a0 a:AA}{h:AH}{m:Mp}{ρ:NN}{w:WL},IR P G ops b z Dn U a0 a h m ρ→z≤h.n→Rel P G m h w→(∀ i,U i→i ∈ dn)→(∀ i,Dn i→i<ops.size∧i ∉ l)→segOk ops b dn l=true→∀ {a1:AA}{h1:AH},evIdx P G E ops false l a h=some (a1,h1) →
  Rel P G m h1 w∧Ext m m h h1 w w∧(∃ ρ',IR P G ops b z Dn (fun i=>U i∨i ∈ l) a0 a1 h1 m ρ')∧∀ d,(∀ i ∈ l,dstOf ops i≠some d)→a1.get d=a.get d
 | [],dn,Dn,U,a0,a,h,m,ρ,w,I,hz,R,hU,hD,hs,a1,h1,hrun=>by
  simp only[evIdx,Option.some.injEq,Prod.mk.injEq] at hrun
  obtain⟨rfl,rfl⟩:=hrun
  refine⟨R,.refl m h w,⟨ρ,?_⟩,fun d _=>rfl⟩
  have e:(fun i=>U i∨i ∈ ([]:LN))=U:=by funext i;simp
  rw[e]
  exact I
 | j :: l,dn,Dn,U,a0,a,h,m,ρ,w,I,hz,R,hU,hD,hs,a1,h1,hrun=>by
  simp only[segOk,Bool.and_eq_true,Bool.not_eq_true'] at hs
  obtain⟨⟨⟨s1,s2⟩,s3⟩,s4⟩:=hs
  simp only[evIdx] at hrun
  obtain⟨⟨a2,h2⟩,r1,r2⟩:=bind_some hrun
  simp only[thenO] at r2
  have hall:∀ i,U i→noRead ops i j=true∧i≠j:=fun i hi=>by
   have:=List.all_eq_true.1 s3 i (hU i hi)
   simp only[Bool.and_eq_true,Bool.not_eq_true'] at this
   refine⟨this.1,?_⟩
   rintro rfl
   simp at this
  obtain⟨R2,E2,⟨ρ2,I2⟩,off2⟩:=I.step (E:=E) F hz R (j:=j) (fun q=>(hall j q).2 rfl) (fun i hi=>⟨(hD i hi).1,fun e=>(hD i hi).2 (by simp[e])⟩) s1 s2 (fun i hi=>(hall i hi).1) r1
  obtain⟨R3,E3,⟨ρ3,I3⟩,off3⟩:=IR.seg F l (j :: dn) I2 (Nat.le_trans hz E2.nn) R2 (fun i hi=>by
   rcases hi with hi | rfl
   ·exact List.mem_cons_of_mem _ (hU i hi)
   ·simp) (fun i hi=>⟨(hD i hi).1,fun e=>(hD i hi).2 (by simp[e])⟩) s4 r2
  refine⟨R3,E2.trans E3,⟨ρ3,?_⟩,fun d hd=>?_⟩
  ·have e:(fun i=>(U i∨i=j)∨i ∈ l)=(fun i=>U i∨i ∈ j :: l):=by funext i;simp[or_assoc]
   rw[← e]
   exact I3
  ·rw[off3 d fun i hi=>hd i (by simp[hi]),off2 d (hd j (by simp))]
theorem again_ok:∀ (l:LN){a a1:AA}{h h1:AH},evIdx P G E ops true l a h=some (a1,h1)→a1=a∧h1=h∧∀ i ∈ l,∃ o wn f d,ops[i]?=some o∧wantedG ops o.guard=some wn∧aRead P G o.op=some f∧o.dst=some d∧(wn a=some true→∃ v,f a h=some v∧a.get d=some v)
 | [],a,a1,h,h1,hrun=>by
  simp only[evIdx,Option.some.injEq,Prod.mk.injEq] at hrun
  obtain⟨rfl,rfl⟩:=hrun
  exact⟨rfl,rfl,fun i hi=>by simp at hi⟩
 | j :: l,a,a1,h,h1,hrun=>by
  simp only[evIdx] at hrun
  obtain⟨⟨a2,h2⟩,r1,r2⟩:=bind_some hrun
  simp only[thenO] at r2
  unfold runS at r1
  split at r1
  ·rename_i s hs
   simp only[stepI] at hs
   obtain⟨o,ho,hst⟩:=bind_some hs
   unfold againO at hst
   obtain⟨wn,hw,hst1⟩:=bind_some hst
   obtain⟨f,hf,hst2⟩:=bind_some hst1
   unfold agD at hst2
   split at hst2
   ·cases hst2
   ·rename_i d hd
    obtain⟨g,hg,rfl⟩:=map_some hst2
    obtain⟨bw,hb,r3⟩:=bind_some r1
    have key:a2=a∧h2=h∧(bw=true→∃ v,f a h=some v∧a.get d=some v):=by
     unfold agB at r3
     split at r3
     ·obtain⟨v,hv,r4⟩:=bind_some r3
      unfold againV at r4
      obtain⟨u,hu,r5⟩:=bind_some r4
      unfold againU at r5
      cases hq:veq v u with
      | false=>rw[hq] at r5;cases r5
      | true=>
       rw[hq] at r5
       simp only[cond_true,Option.some.injEq,Prod.mk.injEq] at r5
       obtain⟨rfl,rfl⟩:=r5
       rw[AA.get_form hg] at hu
       exact⟨rfl,rfl,fun _=>⟨v,hv,by rw[hu,veq_eq hq]⟩⟩
     ·simp only[Option.some.injEq,Prod.mk.injEq] at r3
      obtain⟨rfl,rfl⟩:=r3
      exact⟨rfl,rfl,fun q=>by cases q⟩
    obtain⟨rfl,rfl,hk⟩:=key
    obtain⟨e1,e2,h3⟩:=again_ok l r2
    refine⟨e1,e2,fun i hi=>?_⟩
    rcases List.mem_cons.1 hi with rfl | hi
    ·exact⟨o,wn,f,d,ho,hw,hf,hd,fun q=>hk (by rw[hb] at q;simpa using q)⟩
    ·exact h3 i hi
  ·cases r1
end
end Go.Proofs.YtmolfmgchbjnbaaGreatDoor.Ev
namespace Go.Proofs.YtmolfmgchbjnbaaGreatDoor.Ev
open Go
variable [Inhabited (Nat→BA)]
section
variable {P:Program}{G:Nat}{E:EE}{ops:Array Oper}{b:Array Nat}
theorem tail_form {i:Nat}(h:isTail ops b i=true):∃ o d x,ops[i]?=some o∧o.dst=some d∧o.op=.assign (.tmp x)∧o.guard=none∧∃ j,j<ops.size∧dstOf ops j=some x∧bt b i j=true:=by
 unfold isTail at h;split at h
 ·rename_i d x _ _ _ ho
  simp only[Bool.and_eq_true] at h;obtain⟨j,hj,h2⟩:=List.any_eq_true.1 h.2;simp only[Bool.and_eq_true,beq_iff_eq] at h2;exact⟨_,d,x,ho,rfl,rfl,rfl,j,List.mem_range.1 hj,h2.1,h2.2⟩
 cases h
def tailX (ops:Array Oper) (i:Nat):Option Tmp:=match ops[i]? with | some ⟨_,.assign (.tmp x),_,_,_,_⟩=>some x | _=>none
theorem tailX_of {i:Nat}{o:Oper}{x:Tmp} (ho:ops[i]?=some o) (hx:o.op=.assign (.tmp x)):tailX ops i=some x:=by
 obtain⟨dst,op,type,pos,after,guard⟩:=o;simp only at hx;subst hx;simp[tailX,ho]
structure IV (P:Program) (G:Nat) (E:EE) (ops:Array Oper) (b:Array Nat) (S:Mp × AH × WL) (D U:Nat→Prop) (a0 aK aD:AA) (hK:AH) (m:Mp) (t:Array Value) (w:WL) (ρ:NN) (l:Segs) (tl dn:LN) (F:AA × AH):Prop where
 ext:Ext S.1 m S.2.1 hK S.2.2 w
 ir:IR P G ops b S.2.1.n (fun i=>D i∧isTail ops b i=false) U a0 aK hK m ρ
 rel:Rel P G m hK w
 slo:SlO m aD t
 nD:aD.n=a0.n
 dlt:∀ i,D i→i<ops.size
 clo:∀ i j,D i→bt b i j=true→D j
 dis:∀ i,U i→¬ D i
 don:∀ i d,D i→isTail ops b i=false→dstOf ops i=some d→aD.get d=aK.get d
 tal:∀ i d x,D i→isTail ops b i=true→dstOf ops i=some d→tailX ops i=some x→aD.get d=aK.get x
 old:∀ d,(∀ i,D i→dstOf ops i≠some d)→aD.get d=a0.get d
 cov:∀ i,i<ops.size→isTail ops b i=false→¬ D i→U i∨∃ q ∈ l,q.1=i∨i ∈ q.2.2
 lnd:∀ q ∈ l,¬ D q.1∧∀ i ∈ q.2.2,¬ D i
 udn:∀ i,U i→i ∈ dn
 rest:evTail P G E ops l tl aK hK=some F
 cok:chainOk ops b dn l=true
section
variable {S:Mp × AH × WL}{D U:Nat→Prop}{a0 aK aD:AA}{hK:AH}{m:Mp}{t:Array Value}{w:WL}{ρ:NN}{l:Segs}{tl dn:LN}{Fn:AA × AH}
theorem IV.agree (F:RegF ops b)(V:IV P G E ops b S D U a0 aK aD hK m t w ρ l tl dn Fn){i:Nat}(hi:i<ops.size)(hD:¬ D i)(hr:∀ j,bt b i j=true→D j):∀ d,readsAt ops i d=true→aD.get d=aK.get d:=by
 intro d hd;by_cases hex:∃ j,j<ops.size∧dstOf ops j=some d
 ·obtain⟨j,hj,hjd⟩:=hex;cases ht:isTail ops b j with
  | false=>exact V.don j d (hr j (F.body i j d hi hj hjd hd ht).2) ht hjd
  | true=>
   obtain⟨h1,h2⟩:=F.tail i j d hi hj hjd hd ht;have hnj:¬ D j:=fun q=>hD (V.clo j i q h2);rw[V.old d fun k hk q=>?_,V.ir.ref d fun k hk q=>?_]
   ·have hkn:k<ops.size:=by
     rcases hk with hk | hk
     ·exact (V.ir.uni k hk).1
     exact V.dlt k hk.1
    rcases F.apart k j d hkn hj hjd with e | e
    ·subst e;rcases hk with hk | hk
     ·rw[(V.ir.uni k hk).2.2] at ht;cases ht
     exact hnj hk.1
    exact e q
   rcases F.apart k j d (V.dlt k hk) hj hjd with e | e
   ·subst e;exact hnj hk
   exact e q
 rw[V.old d fun k hk q=>hex ⟨k,V.dlt k hk,q⟩,V.ir.ref d fun k hk q=>hex ⟨k,?_,q⟩];rcases hk with hk | hk
 ·exact (V.ir.uni k hk).1
 exact V.dlt k hk.1
theorem IV.use (F:RegF ops b)(V:IV P G E ops b S D U a0 aK aD hK m t w ρ l tl dn Fn)(ds:List Deferred){i:Nat}(hU:U i)(hr:∀ j,bt b i j=true→D j){K:Act→WL→Prop}{Q:Exit→Act→WL→Prop}
  (hK':∀ m' w' t' aD',IV P G E ops b S (fun j=>D j∨j=i) (fun j=>U j∧j≠i) a0 aK aD' hK m' t' w' ρ l tl dn Fn→K ⟨t',ds⟩ w'):wpOp P ops Q i K ⟨t,ds⟩ w:=by
 obtain⟨hi,hc,ht⟩:=V.ir.uni i hU;have hD:=V.dis i hU;have HA:=V.agree F hi hD hr;obtain⟨o,wn,e,p,bw,k1,k2,k3,k4,k5,k6,k7⟩:=V.ir.pend i hU;have HA':∀ d,readsT ops o d=true→aD.get d=aK.get d:=fun d q=>HA d (by rw[readsAt_eq k1];exact q);have hwD:wn aD=some bw:=by rw[wanted_congr k2 HA'];exact k5
 have hwan:=wanted_ok k2 hwD V.slo
 -- what follows,whatever it was
 have fin:∀ m' w' v' u,Rel P G m' hK w'→Le m m'→Ext S.1 m' S.2.1 hK S.2.2 w'→S3 m' u v'→(∀ d,o.dst=some d→aK.get d=some u)→(∀ r',r'≠ρ i→m r'=none→m' r'=none)→K ((⟨t,ds⟩:Act).put o.dst v') w':=by
  intro m' w' v' u R' L' E' S' hu hnone;obtain⟨aD',hpa⟩:=put_ex k4 (a:=aD) (fun d q=>by rw[V.nD,← V.ir.n];exact k6 d q) u;obtain⟨q1,q2,q3⟩:=putO_ok k4 hpa;have hdo:dstOf ops i=o.dst:=dstOf_eq k1;have hoff:∀ d,dstOf ops i≠some d→aD'.get d=aD.get d:=fun d q=>by rw[q3 d,if_neg (by rw[← hdo];exact q)]
  have hslo:=(V.slo.mono L').put k4 hpa S' ds;have hres:=hK' m' w' ((⟨t,ds⟩:Act).put o.dst v').tmps aD' ?_
  ·cases hd:o.dst with
   | none=>rw[hd] at hres;exact hres
   | some d=>rw[hd] at hres;exact hres
  have eD:∀ j,((U j∧j≠i)∨((D j∨j=i)∧isTail ops b j=false))→(U j∨(D j∧isTail ops b j=false)):=by
   rintro j (⟨h1,-⟩ | ⟨h1 | rfl,h2⟩)
   ·exact .inl h1
   ·exact .inr ⟨h1,h2⟩
   exact .inl hU
  have eD2:∀ j,(U j∨(D j∧isTail ops b j=false))→((U j∧j≠i)∨((D j∨j=i)∧isTail ops b j=false)):=by
   rintro j (h1 | ⟨h1,h2⟩)
   ·by_cases c:j=i
    ·exact .inr ⟨.inr c,by rw[c];exact ht⟩
    exact .inl ⟨h1,c⟩
   exact .inr ⟨.inl h1,h2⟩
  refine⟨E',⟨V.ir.n,fun j hj=>(V.ir.pend j hj.1).map fun _ hn=>hnone (ρ j) (fun e=>hj.2 (V.ir.inj j i hj.1 hU e)) hn,fun j hj=>V.ir.uni j hj.1,fun j j' hj hj'=>V.ir.inj j j' hj.1 hj'.1,fun j hj=>V.ir.lim j hj.1,fun d hd=>V.ir.ref d fun j hj=>hd j (eD2 j hj),fun j d hj=>V.ir.dfn j d (eD j hj)⟩,R',hslo,q1.trans V.nD,?_,?_,?_,?_,?_,?_,?_,?_,fun j hj=>V.udn j hj.1,V.rest,V.cok⟩
  ·rintro j (h1 | rfl)
   ·exact V.dlt j h1
   exact hi
  ·rintro j k (h1 | rfl) h2
   ·exact .inl (V.clo j k h1 h2)
   exact .inl (hr k h2)
  ·rintro j ⟨h1,h2⟩ (h3 | h3)
   ·exact V.dis j h1 h3
   exact h2 h3
  ·rintro j d (h1 | rfl) h2 h3
   ·rw[hoff d fun q=>?_]
    ·exact V.don j d h1 h2 h3
    rcases F.apart j i d (V.dlt j h1) hi q with e | e
    ·subst e;exact hD h1
    exact e h3
   rw[q3 d,if_pos (by rw[← hdo];exact h3)];exact (hu d (by rw[← hdo];exact h3)).symm
  ·rintro j d x (h1 | rfl) h2 h3 h4
   ·rw[hoff d fun q=>?_]
    ·exact V.tal j d x h1 h2 h3 h4
    rcases F.apart j i d (V.dlt j h1) hi q with e | e
    ·subst e;exact hD h1
    exact e h3
   rw[ht] at h2;cases h2
  ·intro d hd;rw[hoff d (hd i (.inr rfl))];exact V.old d fun j hj=>hd j (.inl hj)
  ·intro j hj h1 h2;have hnD:¬ D j:=fun q=>h2 (.inl q);have hne:j≠i:=fun q=>h2 (.inr q);rcases V.cov j hj h1 hnD with q | q
   ·exact .inl ⟨q,hne⟩
   exact .inr q
  intro q hq;obtain⟨h1,h2⟩:=V.lnd q hq;have hni:∀ j,(j=q.1∨j ∈ q.2.2)→j≠i:=by
   rintro j hj rfl
   -- it would stand behind the next one that writes or calls
   cases hl:l with
   | nil=>rw[hl] at hq;cases hq
   | cons c l'=>
    obtain⟨c,ag,sg⟩:=c;have hck:=V.cok;rw[hl] at hck hq;simp only[chainOk,Bool.and_eq_true] at hck;obtain⟨⟨⟨⟨⟨z1,z2⟩,z3⟩,z4⟩,z5⟩,z6⟩:=hck;have hcD:¬ D c:=(V.lnd (c,ag,sg) (by rw[hl];simp)).1;rcases List.mem_cons.1 hq with rfl | hq
    ·rcases hj with hj | hj
     ·simp only at hj;subst hj;rw[hc] at z1;cases z1
     exact hcD (hr c (List.all_eq_true.1 z3 j hj))
    have:=List.all_eq_true.1 z4 q hq;simp only[Bool.and_eq_true] at this;rcases hj with hj | hj
    ·subst hj;exact hcD (hr c this.1)
    exact hcD (hr c (List.all_eq_true.1 this.2 j hj))
  refine⟨?_,fun j hj=>?_⟩
  ·rintro (h3 | h3)
   ·exact h1 h3
   exact hni _ (.inl rfl) h3
  rintro (h3 | h3)
  ·exact h2 j hj h3
  exact hni j (.inr hj) h3
 unfold wpOp;rw[k1];simp only;rcases k7 with ⟨rfl,q2⟩ | ⟨rfl,q2,f,v,q3,q4,q5⟩ | ⟨rfl,q2,f,q,q3,q4,q5,q6,q7,q8⟩
 ·rw[if_neg (by rw[hwan];decide)];exact fin m w undef undef V.rel (.refl m) V.ext undef_s3 q2 (fun _ _ h=>h)
 ·rw[if_pos hwan];obtain⟨v',r1,r2⟩:=aRead_ok V.rel V.slo ds q3 (v:=v) (by rw[aRead_congr q3 (a:=aD) (a':=aK) fun d hd=>HA' d (reads_op hd)];exact q4);refine .inl ?_;unfold Oper.wp;rw[r1];exact fin m w v' v V.rel (.refl m) V.ext r2 q5 (fun _ _ h=>h)
 rw[if_pos hwan];obtain⟨v',O,r1,r2⟩:=aNew_ok V.rel V.slo ds q3 (p:=q) (by rw[aNew_congr q3 (a:=aD) (a':=aK) fun d hd=>HA' d (reads_op hd)];exact q4);obtain⟨N,z,hO⟩:=r2.ob;obtain⟨R3,L3,B3⟩:=V.rel.newB (r:=ρ i) q5 q6 (o:=q.1) q7 (O:=O) (x:=⟨w.heap.size,0,N,z⟩) rfl (fun m' hm'=>(hO m' hm').1);refine .inl ?_;unfold Oper.wp;rw[r1];have hρ:S.2.1.n≤ρ i:=by
  rcases V.ir.lim i hU with q0 | q0
  ·exact q0.1
  have:=V.rel.lim;omega
 refine fin _ _ v' (q.2 (ρ i)) R3 L3 ⟨V.ext.le.trans L3,V.ext.nn,fun r hr0 e0=>?_,fun r y e0=>?_,V.ext.tab,V.ext.os,V.ext.tape,V.ext.output,Nat.le_trans V.ext.size (by show w.heap.size≤(w.heap.push _).size;simp),fun q0 hq0 hn0=>(B3 q0 (Nll hq0 V.ext.size)).trans (V.ext.blk q0 hq0 hn0)⟩ ((hO _ L3).2 (ρ i) (Mp.put_same m (ρ i) _)) q8 (fun r' hne hn=>by rw[Mp.put_off m _ hne];exact hn)
 ·obtain⟨g1,g2⟩:=V.ext.keep r hr0 e0;exact⟨by rw[Mp.put_off m _ (by omega)];exact g1,g2⟩
 by_cases c0:r=ρ i
 ·subst c0;rw[Mp.put_same] at e0;cases e0;exact .inr ⟨hρ,.inl ⟨V.ext.size,rfl⟩⟩
 rw[Mp.put_off m _ c0] at e0;exact V.ext.new r y e0
end
end
end Go.Proofs.YtmolfmgchbjnbaaGreatDoor.Ev
namespace Go.Proofs.YtmolfmgchbjnbaaGreatDoor.Ev
open Go
variable [Inhabited (Nat→BA)]
section
variable {P:Program}{G:Nat}{E:EE}{ops:Array Oper}{b:Array Nat}
variable {S:Mp × AH × WL}{D U:Nat→Prop}{a0 aK aD:AA}{hK:AH}{m:Mp}{t:Array Value}{w:WL}{ρ:NN}{l:Segs}{tl dn:LN}{Fn:AA × AH}
theorem IV.behind (V:IV P G E ops b S D U a0 aK aD hK m t w ρ l tl dn Fn){i:Nat}(hr:∀ j,bt b i j=true→D j){q:Nat × LN × LN}(hq:q ∈ l)(hi:q.1=i∨i ∈ q.2.2):∃ ag sg l',l=(i,ag,sg) :: l':=by
 cases hl:l with
 | nil=>rw[hl] at hq;cases hq
 | cons c l'=>
  obtain⟨c,ag,sg⟩:=c;have hck:=V.cok;rw[hl] at hck hq;simp only[chainOk,Bool.and_eq_true] at hck;obtain⟨⟨⟨⟨⟨z1,z2⟩,z3⟩,z4⟩,z5⟩,z6⟩:=hck;have hcD:¬ D c:=(V.lnd (c,ag,sg) (by rw[hl];simp)).1;rcases List.mem_cons.1 hq with rfl | hq
  ·rcases hi with hi | hi
   ·simp only at hi;subst hi;exact⟨ag,sg,l',rfl⟩
   exact absurd (hr c (List.all_eq_true.1 z3 i hi)) hcD
  have:=List.all_eq_true.1 z4 q hq;simp only[Bool.and_eq_true] at this;rcases hi with hi | hi
  ·subst hi;exact absurd (hr c this.1) hcD
  exact absurd (hr c (List.all_eq_true.1 this.2 i hi)) hcD
theorem IV.close (F:RegF ops b)(V:IV P G E ops b S D U a0 aK aD hK m t w ρ l tl dn Fn)(ds:List Deferred){i:Nat}(ht:isTail ops b i=true)(hD:¬ D i)(hr:∀ j,bt b i j=true→D j)(hput:∃ p,putO (dstOf ops i)=some p∧∀ d,dstOf ops i=some d→d<a0.n)(hseg:∀ q ∈ l,q.1≠i∧i ∉ q.2.2){K:Act→WL→Prop}{Q:Exit→Act→WL→Prop}
  (hK':∀ t' aD',IV P G E ops b S (fun j=>D j∨j=i) U a0 aK aD' hK m t' w ρ l tl dn Fn→K ⟨t',ds⟩ w):wpOp P ops Q i K ⟨t,ds⟩ w:=by
 obtain⟨o,d,x,ho,hd,hop,hg,j,hj,hjx,hbt⟩:=tail_form ht;have hi:i<ops.size:=(Age.1 ho).1;have hdo:dstOf ops i=some d:=by rw[dstOf_eq ho];exact hd
 have hrx:readsAt ops i x=true:=by rw[readsAt_eq ho];exact reads_op (by rw[hop];simp[Op.operands])
 have HA:=V.agree F hi hD hr x hrx;have htj:isTail ops b j=false:=by
  cases hq:isTail ops b j with
  | false=>rfl
  | true=>have:=(F.tail i j x hi hj hjx hrx hq).1;rw[ht] at this;cases this
 obtain⟨u,hu⟩:=V.ir.dfn j x (.inr ⟨hr j hbt,htj⟩) hjx;have hs:=V.slo.val x u (by rw[HA];exact hu);obtain⟨p,hp,hlt⟩:=hput;obtain⟨aD',hpa⟩:=put_ex hp (a:=aD) (fun k q=>by rw[V.nD];exact hlt k q) u;obtain⟨q1,q2,q3⟩:=putO_ok hp hpa;have hoff:∀ k,dstOf ops i≠some k→aD'.get k=aD.get k:=fun k q=>by rw[q3 k,if_neg q]
 have hwan:Region.wanted o (yielded ops t)=true:=by simp[Region.wanted,hg]
 unfold wpOp;rw[ho];simp only;rw[if_pos hwan];refine .inl ?_;unfold Oper.wp;have hrun:(execOp (⟨t,ds⟩:Act).eval o).run P w=.ok (.value (t.getD x undef)) w:=by
  obtain⟨dst,op,type,pos,after,guard⟩:=o;simp only at hop;subst hop;simp[execOp,Act.eval]
 rw[hrun];have hslo:SlO m aD' ((⟨t,ds⟩:Act).put (dstOf ops i) (t.getD x undef)).tmps:=V.slo.put hp hpa hs ds;have hres:=hK' ((⟨t,ds⟩:Act).put (dstOf ops i) (t.getD x undef)).tmps aD' ?_
 ·rw[hdo] at hres;show K ((⟨t,ds⟩:Act).put o.dst (t.getD x undef)) w;rw[hd];exact hres
 have e1:∀ k,((D k∨k=i)∧isTail ops b k=false)→(D k∧isTail ops b k=false):=by
  rintro k ⟨h1 | rfl,h2⟩
  ·exact⟨h1,h2⟩
  rw[ht] at h2;cases h2
 have e2:∀ j,(U j∨(D j∧isTail ops b j=false))→(U j∨((D j∨j=i)∧isTail ops b j=false)):=by
  rintro j (hj | hj)
  ·exact .inl hj
  exact .inr ⟨.inl hj.1,hj.2⟩
 have e3:∀ j,(U j∨((D j∨j=i)∧isTail ops b j=false))→(U j∨(D j∧isTail ops b j=false)):=by
  rintro j (hj | hj)
  ·exact .inl hj
  exact .inr (e1 j hj)
 refine⟨V.ext,⟨V.ir.n,V.ir.pend,V.ir.uni,V.ir.inj,V.ir.lim,fun k hk=>V.ir.ref k fun j hj=>hk j (e2 j hj),fun j k hj=>V.ir.dfn j k (e3 j hj)⟩,V.rel,hslo,q1.trans V.nD,?_,?_,?_,?_,?_,?_,?_,?_,V.udn,V.rest,V.cok⟩
 ·rintro k (h1 | rfl)
  ·exact V.dlt k h1
  exact hi
 ·rintro k k' (h1 | rfl) h2
  ·exact .inl (V.clo k k' h1 h2)
  exact .inl (hr k' h2)
 ·rintro k h1 (h3 | rfl)
  ·exact V.dis k h1 h3
  have:=(V.ir.uni k h1).2.2;rw[ht] at this;cases this
 ·rintro k e (h1 | rfl) h2 h3
  ·rw[hoff e fun q=>?_]
   ·exact V.don k e h1 h2 h3
   rcases F.apart k i e (V.dlt k h1) hi q with e' | e'
   ·subst e';exact hD h1
   exact e' h3
  rw[ht] at h2;cases h2
 ·rintro k e y (h1 | rfl) h2 h3 h4
  ·rw[hoff e fun q=>?_]
   ·exact V.tal k e y h1 h2 h3 h4
   rcases F.apart k i e (V.dlt k h1) hi q with e' | e'
   ·subst e';exact hD h1
   exact e' h3
  rw[tailX_of ho hop] at h4;cases h4;rw[q3 e,if_pos h3];exact hu.symm
 ·intro e he;rw[hoff e (he i (.inr rfl))];exact V.old e fun k hk=>he k (.inl hk)
 ·intro k hk h1 h2;exact V.cov k hk h1 fun q=>h2 (.inl q)
 intro q hq;obtain⟨h1,h2⟩:=V.lnd q hq;obtain⟨h3,h4⟩:=hseg q hq;refine⟨?_,fun k hk=>?_⟩
 ·rintro (z | z)
  ·exact h1 z
  exact h3 z
 rintro (z | z)
 ·exact h2 k hk z
 exact h4 (z ▸ hk)
theorem Pend.chain {i:Nat}{a:AA}{h h1:AH}{m m1:Mp}{r:Nat} (hp:Pend P G ops i a h m r) (hag:isRead ops i=true→∃ o wn f d,ops[i]?=some o∧wantedG ops o.guard=some wn∧aRead P G o.op=some f∧o.dst=some d∧(wn a=some true→∃ v,f a h1=some v∧a.get d=some v)) (hm:r<h.n→m r=none→m1 r=none∧h1.get r=h.get r) (hn:h.n≤h1.n):Pend P G ops i a h1 m1 r:=by
 obtain⟨o,wn,e,p,bw,k1,k2,k3,k4,k5,k6,k7⟩:=hp;refine⟨o,wn,e,p,bw,k1,k2,k3,k4,k5,k6,?_⟩;rcases k7 with k7 | ⟨q1,q2,f,v,q3,q4,q5⟩ | ⟨q1,q2,f,q,q3,q4,q5,q6,q7,q8⟩
 ·exact .inl k7
 ·obtain⟨o',wn',f',d,g1,g2,g3,g4,g5⟩:=hag (by simp[isRead,k1,q2]);rw[k1] at g1;cases g1;rw[k2] at g2;cases g2;rw[q3] at g3;cases g3;obtain⟨v',z1,z2⟩:=g5 (by rw[k5,q1]);exact .inr (.inl ⟨q1,q2,f,v',q3,z1,fun d' hd'=>by rw[g4] at hd';cases hd';exact z2⟩)
 obtain⟨z1,z2⟩:=hm q5 q6;exact .inr (.inr ⟨q1,q2,f,q,q3,q4,by omega,z1,by rw[z2];exact q7,q8⟩)
theorem bt_lt (F:RegF ops (Region.before ops)):∀ (i j:Nat),bt (Region.before ops) i j=true→j<i:=by
 intro i;induction i using Nat.strongRecOn with
 | _ i ih=>
  intro j h;obtain⟨o,e,h1,h2,h3,h4⟩:=before_ok h;have:=F.edge i o e h1 h2 h3;rcases h4 with rfl | h4
  ·exact this
  have:=ih e.on this j h4;omega
theorem IV.chain (HE:EOk P G E)(F:RegF ops b)(hlt:∀ i j,bt b i j=true→j<i){c:Nat}{ag sg:LN}{l':Segs} (V:IV P G E ops b S D U a0 aK aD hK m t w ρ ((c,ag,sg) :: l') tl dn Fn) (ds:List Deferred) (hr:∀ j,bt b c j=true→D j) {K:Act→WL→Prop}{Q:Exit→Act→WL→Prop}
  (hK':∀ U' aK' aD' hK' m' t' w' ρ' dn',IV P G E ops b S (fun j=>D j∨j=c) U' a0 aK' aD' hK' m' t' w' ρ' l' tl dn' Fn→K ⟨t',ds⟩ w'):wpOp P ops Q c K ⟨t,ds⟩ w:=by
 have hck:=V.cok;simp only[chainOk,Bool.and_eq_true] at hck;obtain⟨⟨⟨⟨⟨z1,z2⟩,z3⟩,z4⟩,z5⟩,z6⟩:=hck;obtain⟨hcD,hsD⟩:=V.lnd (c,ag,sg) (by simp);simp only at hcD hsD;have hrest:=V.rest;unfold evTail at hrest;obtain⟨⟨aE,hE⟩,r0,r9⟩:=bind_some hrest;simp only[evSegs] at r0;obtain⟨⟨a1,h1⟩,r1,r2⟩:=bind_some r0;simp only[thenO] at r2;obtain⟨⟨a1',h1'⟩,r3,r4⟩:=bind_some r2;simp only[thenO] at r4;obtain⟨⟨a2,h2⟩,r5,r6⟩:=bind_some r4;simp only[thenO] at r6;obtain⟨e1,e2,hag⟩:=again_ok ag r3;rw[e1,e2] at r5;unfold runS at r1;split at r1
 case h_2=>cases r1
 case h_1=>
 rename_i s hs
 simp only[stepI] at hs;obtain⟨o,ho,hst⟩:=bind_some hs;have hc:c<ops.size:=(Age.1 ho).1;obtain⟨wn,e,p,bw,v,k1,k2,k3,k4,k5,k6⟩:=step_parts hst r1;obtain⟨p1,p2,p3⟩:=putO_ok k3 k5;have hdo:dstOf ops c=o.dst:=dstOf_eq ho;have hct:isTail ops b c=false:=by
  cases hq:isTail ops b c with
  | false=>rfl
  | true=>
   obtain⟨o',d,x,ho',-,hop,-⟩:=tail_form hq;unfold isChain at z1;rw[ho'] at z1;simp only[hop,cls] at z1;cases z1
 have HA:=V.agree F hc hcD hr;have HA':∀ d,readsT ops o d=true→aD.get d=aK.get d:=fun d q=>HA d (by rw[readsAt_eq ho];exact q);obtain⟨aD1,hpa⟩:=put_ex k3 (a:=aD) (fun d q=>by rw[V.nD,← V.ir.n];exact p2 d q) v;obtain⟨y1,y2,y3⟩:=putO_ok k3 hpa;obtain⟨s',hs1,hs2⟩:=step_make (E:=E) k1 k2 k3 (a:=aD) (h:=hK) (h':=h1) (by rw[wanted_congr k1 HA'];exact k4) hpa (by
  rcases k6 with ⟨q1,q2⟩ | q
  ·exact .inl ⟨q1,by rw[exec_congr k2 (a:=aD) (a':=aK) (fun d hd=>HA' d (reads_op hd)) E hK];exact q2⟩
  exact .inr q)
 refine stepO_ok HE V.rel V.slo ds ho hs1 hs2 fun m1 w1 t1 R1 E1 S1=>?_;have hoff:∀ d,dstOf ops c≠some d→a1.get d=aK.get d:=fun d q=>by rw[p3 d,if_neg (by rw[← hdo];exact q)]
 have hoffD:∀ d,dstOf ops c≠some d→aD1.get d=aD.get d:=fun d q=>by rw[y3 d,if_neg (by rw[← hdo];exact q)]
 have hUne:∀ i,U i→i≠c:=fun i hi q=>by have:=(V.ir.uni i hi).2.1;rw[q,z1] at this;cases this
 have hapart:∀ i d,i<ops.size→i≠c→dstOf ops i=some d→dstOf ops c≠some d:=fun i d hi hne hd q=>by
  rcases F.apart i c d hi hc q with e' | e'
  ·exact hne e'
  exact e' hd
 have hDne:∀ i,D i→i≠c:=fun i hi q=>hcD (q ▸ hi)
 -- the evaluator's side behind it
 have I1:IR P G ops b S.2.1.n (fun i=>(D i∨i=c)∧isTail ops b i=false) U a0 a1 h1 m1 ρ:=by
  refine⟨p1.trans V.ir.n,fun i hi=>?_,V.ir.uni,V.ir.inj,fun i hi=>?_,fun d hd=>?_,fun i d hi hd=>?_⟩
  ·have hzz:=List.all_eq_true.1 z2 i (V.udn i hi);simp only[Bool.and_eq_true,Bool.or_eq_true,Bool.not_eq_true'] at hzz;obtain⟨u1,u2⟩:=hzz;have hsl:=(V.ir.pend i hi).slots (a':=a1) p1 (fun d hd=>hoff d fun q=>by
    unfold noRead at u1;rw[q] at u1;simp only[hd] at u1;cases u1) (fun d hd=>hoff d (hapart i d (V.ir.uni i hi).1 (hUne i hi) hd))
   refine hsl.chain (fun hrd=>?_) (fun hlt' hn=>E1.keep _ hlt' hn) E1.nn;rcases u2 with (u2 | u2) | u2
   ·rw[hrd] at u2;cases u2
   ·exact absurd (hr i u2) (V.dis i hi)
   exact hag i (by simpa using u2)
  ·rcases V.ir.lim i hi with q | q
   ·exact .inl ⟨q.1,Nll q.2 E1.nn⟩
   exact .inr q
  ·rw[hoff d (hd c (.inr ⟨.inr rfl,hct⟩))];exact V.ir.ref d fun i hi=>hd i (by
    rcases hi with hi | hi
    ·exact .inl hi
    exact .inr ⟨.inl hi.1,hi.2⟩)
  by_cases q:i=c
  ·subst q;exact⟨v,by rw[p3 d,if_pos (by rw[← hdo];exact hd)]⟩
  have hi':U i∨(D i∧isTail ops b i=false):=by
   rcases hi with hi | ⟨hi | hi,h2⟩
   ·exact .inl hi
   ·exact .inr ⟨hi,h2⟩
   exact absurd hi q
  have hin:i<ops.size:=by
   rcases hi' with hi' | hi'
   ·exact (V.ir.uni i hi').1
   exact V.dlt i hi'.1
  rw[hoff d (hapart i d hin q hd)];exact V.ir.dfn i d hi' hd
 have hcs:c ∉ sg:=fun q=>by have:=hlt c c (List.all_eq_true.1 z3 c q);omega
 obtain⟨R2,E2,⟨ρ2,I2⟩,off2⟩:=IR.seg (E:=E) F sg dn I1 (Nat.le_trans V.ext.nn E1.nn) R1 V.udn (fun i hi=>⟨by
   rcases hi.1 with q | q
   ·exact V.dlt i q
   ·rw[q];exact hc,fun q=>by
   rcases hi.1 with q' | q'
   ·exact hsD i q q'
   exact hcs (q' ▸ q)⟩) z5 r5
 have hsg:∀ i,i ∈ sg→i<ops.size∧isTail ops b i=false:=fun i hi=>by
  have:=I2.uni i (.inr hi);exact⟨this.1,this.2.2⟩
 have hoff2:∀ i d,i<ops.size→i ∉ sg→dstOf ops i=some d→a2.get d=a1.get d:=fun i d hi hn hd=>off2 d fun k hk q=>by
  rcases F.apart i k d hi (hsg k hk).1 q with e' | e'
  ·exact hn (e' ▸ hk)
  exact e' hd
 refine hK' (fun i=>U i∨i ∈ sg) a2 aD1 h2 m1 t1 w1 ρ2 (sg.reverse++dn) ⟨(V.ext.trans E1).trans E2,I2,R2,S1,y1.trans V.nD,?_,?_,?_,?_,?_,?_,?_,?_,?_,?_,z6⟩
 ·rintro i (h1 | rfl)
  ·exact V.dlt i h1
  exact hc
 ·rintro i j (h1 | rfl) h2
  ·exact .inl (V.clo i j h1 h2)
  exact .inl (hr j h2)
 ·rintro i (h1 | h1) (h3 | h3)
  ·exact V.dis i h1 h3
  ·exact hUne i h1 h3
  ·exact hsD i h1 h3
  exact hcs (h3 ▸ h1)
 ·rintro i d (h1 | rfl) h2 h3
  ·rw[hoffD d (hapart i d (V.dlt i h1) (hDne i h1) h3),V.don i d h1 h2 h3,hoff2 i d (V.dlt i h1) (fun q=>hsD i q h1) h3,hoff d (hapart i d (V.dlt i h1) (hDne i h1) h3)]
  rw[hoff2 i d hc hcs h3,y3 d,p3 d];rw[if_pos (by rw[← hdo];exact h3),if_pos (by rw[← hdo];exact h3)]
 ·rintro i d x (h1 | rfl) h2 h3 h4
  ·rw[hoffD d (hapart i d (V.dlt i h1) (hDne i h1) h3),V.tal i d x h1 h2 h3 h4];obtain⟨o',d',x',g1,g2,g3,g4,j,g5,g6,g7⟩:=tail_form h2;rw[tailX_of g1 g3] at h4;cases h4;have hjD:=V.clo i j h1 g7;rw[hoff2 j _ g5 (fun q=>hsD j q hjD) g6,hoff _ (hapart j _ g5 (hDne j hjD) g6)]
  rw[hct] at h2;cases h2
 ·intro d hd;rw[hoffD d (hd c (.inr rfl))];exact V.old d fun i hi=>hd i (.inl hi)
 ·intro i hi h1 h2;rcases V.cov i hi h1 (fun q=>h2 (.inl q)) with q | ⟨q,hq,q2⟩
  ·exact .inl (.inl q)
  rcases List.mem_cons.1 hq with rfl | hq
  ·rcases q2 with q2 | q2
   ·exact absurd (.inr q2.symm) h2
   exact .inl (.inr q2)
  exact .inr ⟨q,hq,q2⟩
 ·intro q hq;obtain⟨h1,h2⟩:=V.lnd q (by simp[hq]);have hb:=List.all_eq_true.1 z4 q hq;simp only[Bool.and_eq_true] at hb;refine⟨?_,fun i hi=>?_⟩
  ·rintro (h3 | h3)
   ·exact h1 h3
   have:=hlt _ _ hb.1;omega
  rintro (h3 | h3)
  ·exact h2 i hi h3
  have:=hlt _ _ (List.all_eq_true.1 hb.2 i hi);omega
 ·rintro i (h1 | h1)
  ·exact List.mem_append.2 (.inr (V.udn i h1))
  exact List.mem_append.2 (.inl (List.mem_reverse.2 h1))
 unfold evTail;rw[r6];exact r9
end
end Go.Proofs.YtmolfmgchbjnbaaGreatDoor.Ev
namespace Go.Proofs.YtmolfmgchbjnbaaGreatDoor.Ev
open Go
variable [Inhabited (Nat→BA)]
section
variable {P:Program}{G:Nat}{E:EE}{ops:Array Oper}{b:Array Nat}
variable {S:Mp × AH × WL}{D U:Nat→Prop}{a0 aK aD:AA}{hK:AH}{m:Mp}{t:Array Value}{w:WL}{ρ:NN}{l:Segs}{tl dn:LN}{Fn:AA × AH}
theorem run_n {i:Nat}{a a1:AA}{h h1:AH} (hr:runS E a h (stepI P G ops false i)=some (a1,h1)):a1.n=a.n∧∃ o p,ops[i]?=some o∧putO o.dst=some p∧∀ d,o.dst=some d→d<a.n:=by
 unfold runS at hr;split at hr
 ·rename_i s hs
  simp only[stepI] at hs;obtain⟨o,ho,hst⟩:=bind_some hs;obtain⟨wn,e,p,bw,v,k1,k2,k3,k4,k5,k6⟩:=step_parts hst hr;obtain⟨p1,p2,p3⟩:=putO_ok k3 k5;exact⟨p1,o,p,ho,k3,p2⟩
 cases hr
theorem idx_n:∀ (l:LN){a a1:AA}{h h1:AH},evIdx P G E ops false l a h=some (a1,h1)→a1.n=a.n∧∀ i ∈ l,∃ p,putO (dstOf ops i)=some p∧∀ d,dstOf ops i=some d→d<a.n
 | [],a,a1,h,h1,hr=>by
  simp only[evIdx,Option.some.injEq,Prod.mk.injEq] at hr
  obtain⟨rfl,rfl⟩:=hr
  exact⟨rfl,fun i hi=>by simp at hi⟩
 | j :: l,a,a1,h,h1,hr=>by
  simp only[evIdx] at hr
  obtain⟨⟨a2,h2⟩,r1,r2⟩:=bind_some hr
  simp only[thenO] at r2
  obtain⟨n1,o,p,ho,hp,hlt⟩:=run_n r1
  obtain⟨n2,hrest⟩:=idx_n l r2
  refine⟨n2.trans n1,fun i hi=>?_⟩
  rcases List.mem_cons.1 hi with rfl | hi
  ·exact⟨p,by rw[dstOf_eq ho];exact hp,fun d hd=>hlt d (by rw[← dstOf_eq ho];exact hd)⟩
  ·obtain⟨p',h1,h2⟩:=hrest i hi
   exact⟨p',h1,fun d hd=>by rw[← n1];exact h2 d hd⟩
theorem segs_n:∀ (l:Segs){a a1:AA}{h h1:AH},evSegs P G E ops l a h=some (a1,h1)→a1.n=a.n
 | [],a,a1,h,h1,hr=>by
  simp only[evSegs,Option.some.injEq,Prod.mk.injEq] at hr
  rw[hr.1]
 | (c,ag,sg) :: l,a,a1,h,h1,hr=>by
  simp only[evSegs] at hr
  obtain⟨⟨a2,h2⟩,r1,r2⟩:=bind_some hr
  simp only[thenO] at r2
  obtain⟨⟨a3,h3⟩,r3,r4⟩:=bind_some r2
  simp only[thenO] at r4
  obtain⟨⟨a4,h4⟩,r5,r6⟩:=bind_some r4
  simp only[thenO] at r6
  obtain⟨e1,-,-⟩:=again_ok ag r3
  rw[segs_n l r6,(idx_n sg r5).1,e1,(run_n r1).1]
theorem tails_ok (F:RegF ops b):∀ (l:LN) {a a1:AA}{h h1:AH},(∀ i ∈ l,isTail ops b i=true)→l.Nodup→evIdx P G E ops false l a h=some (a1,h1)→h1=h∧(∀ d,(∀ i ∈ l,dstOf ops i≠some d)→a1.get d=a.get d)∧∀ i ∈ l,∀ d x,dstOf ops i=some d→tailX ops i=some x→a1.get d=a.get x
 | [],a,a1,h,h1,ht,hn,hr=>by
  simp only[evIdx,Option.some.injEq,Prod.mk.injEq] at hr
  obtain⟨rfl,rfl⟩:=hr
  exact⟨rfl,fun d _=>rfl,fun i hi=>by simp at hi⟩
 | j :: l,a,a1,h,h1,ht,hn,hr=>by
  simp only[evIdx] at hr
  obtain⟨⟨a2,h2⟩,r1,r2⟩:=bind_some hr
  simp only[thenO] at r2
  obtain⟨hnj,hnl⟩:=List.nodup_cons.1 hn
  obtain⟨o,d,x,ho,hd,hop,hg,k,hk,hkx,hbt⟩:=tail_form (ht j (by simp))
  have hj:j<ops.size:=(Age.1 ho).1
  have hdo:dstOf ops j=some d:=by rw[dstOf_eq ho];exact hd
  -- what it does
  have key:h2=h∧∃ v,a.get x=some v∧∀ q,a2.get q=if some d=some q then some v else a.get q:=by
   unfold runS at r1
   split at r1
   ·rename_i s hs
    simp only[stepI] at hs
    obtain⟨o',ho',hst⟩:=bind_some hs
    rw[ho] at ho'
    cases ho'
    obtain⟨wn,e,p,bw,v,k1,k2,k3,k4,k5,k6⟩:=step_parts hst r1
    obtain⟨p1,p2,p3⟩:=putO_ok k3 k5
    rw[hg] at k1
    simp only[wantedG,Option.some.injEq] at k1
    subst k1
    simp only[wnC,Option.some.injEq] at k4
    subst k4
    rcases k6 with ⟨-,k6⟩ | ⟨k6,-⟩
    ·unfold execO at k2
     rw[hop] at k2
     simp only[cls,execN,aRead] at k2
     obtain⟨f,hf,rfl⟩:=map_some k2
     obtain⟨g,hg',rfl⟩:=map_some hf
     obtain⟨v1,hv1,hv2⟩:=bind_some k6
     simp only[same,Option.some.injEq,Prod.mk.injEq] at hv2
     obtain⟨rfl,rfl⟩:=hv2
     refine⟨rfl,v1,?_,fun q=>by rw[p3 q,hd]⟩
     have hg2:slotF x=some g:=hg'
     have:g a=some v1:=hv1
     rw[AA.get_form hg2] at this
     exact this
    ·cases k6
   ·cases r1
  obtain⟨rfl,v,hv,hget⟩:=key
  obtain⟨e1,e2,e3⟩:=tails_ok F l (fun i hi=>ht i (by simp[hi])) hnl r2
  have hdl:∀ i ∈ l,dstOf ops i≠some d:=fun i hi q=>by
   obtain⟨o',-,-,ho',-⟩:=tail_form (ht i (by simp[hi]))
   rcases F.apart j i d hj (Age.1 ho').1 q with e | e
   ·exact hnj (e ▸ hi)
   ·exact e hdo
  refine⟨e1,fun q hq=>?_,fun i hi q y hq hy=>?_⟩
  ·rw[e2 q fun i hi=>hq i (by simp[hi]),hget q,if_neg (by rw[← hdo];exact hq j (by simp))]
  ·rcases List.mem_cons.1 hi with rfl | hi
   ·rw[tailX_of ho hop] at hy
    cases hy
    rw[hdo] at hq
    cases hq
    rw[e2 d hdl,hget d,if_pos rfl]
    exact hv.symm
   ·rw[e3 i hi q y hq hy,hget y,if_neg fun z=>?_]
    obtain⟨o',d',x',ho',hd',hop',hg',k',hk',hkx',hbt'⟩:=tail_form (ht i (by simp[hi]))
    rw[tailX_of ho' hop'] at hy
    cases hy
    cases z
    have hi':=(Age.1 ho').1
    have hrx:readsAt ops i d=true:=by rw[readsAt_eq ho'];exact reads_op (by rw[hop'];simp[Op.operands])
    have:=(F.tail i j d hi' hj hdo hrx (ht j (by simp))).1
    rw[ht i (by simp[hi])] at this
    cases this
theorem IV.fin (F:RegF ops b)(V:IV P G E ops b S D U a0 aK aD hK m t w ρ l tl dn Fn)(hall:∀ i,i<ops.size→D i)(htl:tl=(List.range ops.size).filter (isTail ops b)):Rel P G m Fn.2 w∧Ext S.1 m S.2.1 Fn.2 S.2.2 w∧SlO m Fn.1 t:=by
 have hrest:=V.rest;unfold evTail at hrest;obtain⟨⟨aE,hE⟩,r0,r9⟩:=bind_some hrest;simp only[thenO] at r9;cases hl:l with
 | cons q l'=>
  obtain⟨c,ag,sg⟩:=q;rw[hl] at r0;simp only[evSegs] at r0;obtain⟨⟨a1,h1⟩,r1,-⟩:=bind_some r0;obtain⟨-,o,p,ho,-⟩:=run_n r1;exact absurd (hall c (Age.1 ho).1) (V.lnd (c,ag,sg) (by rw[hl];simp)).1
 | nil=>
  rw[hl] at r0;simp only[evSegs,Option.some.injEq,Prod.mk.injEq] at r0;obtain⟨rfl,rfl⟩:=r0;have hmem:∀ i,i ∈ tl↔i<ops.size∧isTail ops b i=true:=fun i=>by rw[htl];simp[List.mem_filter]
  obtain⟨aF,hF⟩:=Fn;obtain⟨e1,e2,e3⟩:=tails_ok F tl (fun i hi=>((hmem i).1 hi).2) (by rw[htl];exact List.nodup_range.filter _) r9;subst e1;refine⟨V.rel,V.ext,⟨?_,fun d v hv=>?_⟩⟩
  ·show aF.n=_;rw[(idx_n tl r9).1,V.ir.n,← V.nD];exact V.slo.size
  have hv:aF.get d=some v:=hv;refine V.slo.val d v ?_;rw[← hv];by_cases hex:∃ i,i<ops.size∧dstOf ops i=some d
  ·obtain⟨i,hi,hid⟩:=hex;cases ht:isTail ops b i with
   | true=>
    obtain⟨o,d',x,ho,hd,hop,hg,-⟩:=tail_form ht;have hx:=tailX_of ho hop;rw[V.tal i d x (hall i hi) ht hid hx,e3 i ((hmem i).2 ⟨hi,ht⟩) d x hid hx]
   | false=>
    rw[V.don i d (hall i hi) ht hid,e2 d fun k hk q=>?_];obtain⟨hk1,hk2⟩:=(hmem k).1 hk;rcases F.apart i k d hi hk1 q with e | e
    ·rw[e,hk2] at ht;cases ht
    exact e hid
  rw[V.old d fun k hk q=>hex ⟨k,V.dlt k hk,q⟩,e2 d fun k hk q=>hex ⟨k,((hmem k).1 hk).1,q⟩];exact (V.ir.ref d fun k hk q=>hex ⟨k,by
   rcases hk with hk | hk
   ·exact (V.ir.uni k hk).1
   exact V.dlt k hk.1,q⟩).symm
theorem seg_mem:∀ (l dn:LN),segOk ops b dn l=true→∀ i ∈ l,isTail ops b i=false
 | [],dn,h,i,hi=>by simp at hi
 | j :: l,dn,h,i,hi=>by
  simp only[segOk,Bool.and_eq_true,Bool.not_eq_true'] at h
  rcases List.mem_cons.1 hi with rfl | hi
  ·exact h.1.1.2
  ·exact seg_mem l _ h.2 i hi
theorem chain_mem:∀ (l:Segs)(dn:LN),chainOk ops b dn l=true→∀ q ∈ l,isChain ops q.1=true∧∀ i ∈ q.2.2,isTail ops b i=false
 | [],dn,h,q,hq=>by simp at hq
 | (c,ag,sg) :: l,dn,h,q,hq=>by
  simp only[chainOk,Bool.and_eq_true] at h
  obtain⟨⟨⟨⟨⟨z1,z2⟩,z3⟩,z4⟩,z5⟩,z6⟩:=h
  rcases List.mem_cons.1 hq with rfl | hq
  ·exact⟨z1,seg_mem sg dn z5⟩
  ·exact chain_mem l _ z6 q hq
theorem tail_chain {i:Nat}(ht:isTail ops b i=true):isChain ops i=false:=by
 obtain⟨o,d,x,ho,-,hop,-⟩:=tail_form ht;unfold isChain;rw[ho];simp only[hop,cls];rfl
def cnt (n:Nat) (listed:Array Bool):Nat:=((List.range n).filter fun i=>!listed.getD i true).length
theorem filter_lt {α:Type}{p q:α→Bool}{i:α}:∀ {l:List α},(∀ x,q x=true→p x=true)→i ∈ l→p i=true→q i=false→(l.filter q).length+1≤(l.filter p).length
 | [],_,hi,_,_=>by simp at hi
 | x :: l,hpq,hi,hp,hq=>by
  have hle:∀ (l:List α),(l.filter q).length≤(l.filter p).length:=by
   intro l
   induction l with
   | nil=>simp
   | cons y l ih=>
    simp only[List.filter_cons]
    cases hqy:q y with
    | true=>simp[hpq y hqy];exact ih
    | false=>cases hpy:p y <;> simp <;> omega
  rcases List.mem_cons.1 hi with rfl | hi
  ·simp only[List.filter_cons,hp,hq]
   have:=hle l
   simp
   omega
  ·have:=filter_lt hpq hi hp hq
   simp only[List.filter_cons]
   cases hqx:q x with
   | true=>simp[hpq x hqx];omega
   | false=>cases hpx:p x <;> simp <;> omega
theorem cnt_set {n:Nat}{listed:Array Bool}{i:Nat} (hi:i<n) (hs:listed.size=n) (hl:listed.getD i true=false):cnt n (listed.setIfInBounds i true)+1≤cnt n listed:=by
 refine filter_lt (i:=i) (fun x hx=>?_) (List.mem_range.2 hi) (by rw[hl];rfl) ?_
 ·simp only[Bool.not_eq_true'] at hx ⊢;by_cases c:i=x
  ·subst c;simp[hs,hi] at hx
  simpa [Array.getElem?_setIfInBounds_ne c] using hx
 simp[hs,hi]
theorem draw_any (HE:EOk P G E)(F:RegF ops (Region.before ops))(ds:List Deferred)(htl:tl=(List.range ops.size).filter (isTail ops (Region.before ops)))(hput:∀ i,isTail ops (Region.before ops) i=true→∃ p,putO (dstOf ops i)=some p∧∀ d,dstOf ops i=some d→d<a0.n){Q:Exit→Act→WL→Prop}
  (hQ:∀ m' w' t',Rel P G m' Fn.2 w'→Ext S.1 m' S.2.1 Fn.2 S.2.2 w'→SlO m' Fn.1 t'→Q .normal ⟨t',ds⟩ w'):∀ (fuel:Nat) (listed:Array Bool) {D U:Nat→Prop}{aK aD:AA}{hK:AH}{m:Mp}{t:Array Value}{w:WL}{ρ:NN}{l:Segs}{dn:LN},IV P G E ops (Region.before ops) S D U a0 aK aD hK m t w ρ l tl dn Fn→(∀ i,D i↔listed[i]?=some true)→listed.size=ops.size→cnt ops.size listed≤fuel→wpAny P .any ops Q fuel listed ⟨t,ds⟩ w:=by
 have hfull:∀ (listed:Array Bool) {D U:Nat→Prop}{aK aD:AA}{hK:AH}{m:Mp}{t:Array Value}{w:WL}{ρ:NN}{l:Segs}{dn:LN},IV P G E ops (Region.before ops) S D U a0 aK aD hK m t w ρ l tl dn Fn→(∀ i,D i↔listed[i]?=some true)→listed.size=ops.size→Region.ready .any ops listed=[]→Q .normal ⟨t,ds⟩ w:=by
  intro listed D U aK aD hK m t w ρ l dn V hD hs hre;have hall:∀ i,i<ops.size→D i:=by
   intro i;induction i using Nat.strongRecOn with
   | _ i ih=>
    intro hi;rw[hD];cases hli:listed[i]? with
    | none=>rw[Array.getElem?_eq_none_iff] at hli;omega
    | some v=>
     cases v with
     | true=>rfl
     | false=>
      exfalso;have hio:ops[i]?=some ops[i]:=Array.getElem?_eq_getElem hi;have:i ∈ Region.ready .any ops listed:=by
       unfold Region.ready;refine List.mem_filter.2 ⟨List.mem_range.2 hi,?_⟩;simp only[Bool.and_eq_true];refine⟨by simp[hli],?_⟩;rw[hio];simp only[Option.map_some,Option.getD_some];rw[Array.all_eq_true'];intro e he;cases hb:Region.binds .any e with
       | false=>rfl
       | true=>
        have hlt:=F.edge i ops[i] e hio (by simpa using he) hb;have:=(hD e.on).1 (ih e.on hlt (by omega));simp[this]
      rw[hre] at this;cases this
  obtain⟨h1,h2,h3⟩:=V.fin F hall htl;exact hQ m w t h1 h2 h3
 intro fuel;induction fuel with
 | zero=>
  intro listed D U aK aD hK m t w ρ l dn V hD hs hc;have hre:Region.ready .any ops listed=[]:=by
   have h0:((List.range ops.size).filter fun i=>!listed.getD i true)=[]:=List.eq_nil_of_length_eq_zero (by unfold cnt at hc;omega);unfold Region.ready;rw[List.filter_eq_nil_iff] at h0 ⊢;intro i hi;have:=h0 i hi;simp only[Bool.not_eq_true,Bool.and_eq_false_imp] at this ⊢;intro q;rw[q] at this;cases this
  exact⟨hre,hfull listed V hD hs hre⟩
 | succ fuel ih=>
  intro listed D U aK aD hK m t w ρ l dn V hD hs hc;refine⟨hfull listed V hD hs,fun i hi=>?_⟩;unfold Region.ready at hi;obtain⟨hi1,hi2⟩:=List.mem_filter.1 hi;have hin:=List.mem_range.1 hi1;simp only[Bool.and_eq_true] at hi2;obtain⟨g1,g2⟩:=hi2;have hlf:listed.getD i true=false:=by simpa using g1
  have hnD:¬ D i:=fun q=>by
   have:=(hD i).1 q;simp[this] at hlf
  have hio:ops[i]?=some ops[i]:=Array.getElem?_eq_getElem hin;have hr:∀ j,bt (Region.before ops) i j=true→D j:=by
   intro j hj;obtain⟨o,e,h1,h2,h3,h4⟩:=before_ok hj;rw[hio] at h1;cases h1;rw[hio] at g2;simp only[Option.map_some,Option.getD_some] at g2;rw[Array.all_eq_true'] at g2;have:=g2 e (by simpa using h2);simp only[h3,Bool.not_true,Bool.false_or] at this;have hDe:D e.on:=(hD e.on).2 (by
    cases he:listed[e.on]? with
    | none=>simp[he] at this
    | some v=>simp[he] at this;rw[this])
   rcases h4 with rfl | h4
   ·exact hDe
   exact V.clo e.on j hDe h4
  have hset:∀ j,(D j∨j=i)↔(listed.setIfInBounds i true)[j]?=some true:=by
   intro j;by_cases c:i=j
   ·subst c;simp[hs,hin]
   rw[Array.getElem?_setIfInBounds_ne c,← hD j];exact⟨fun z=>z.resolve_right (fun e=>c e.symm),.inl⟩
  have hc':cnt ops.size (listed.setIfInBounds i true)≤fuel:=by
   have:=cnt_set hin hs hlf;omega
  have hs':(listed.setIfInBounds i true).size=ops.size:=by simp[hs]
  cases ht:isTail ops (Region.before ops) i with
  | true=>
   refine V.close F ds ht hnD hr (hput i ht) (fun q hq=>?_) fun t' aD' V'=>ih _ V' hset hs' hc';obtain⟨z1,z2⟩:=chain_mem _ _ V.cok q hq;refine⟨fun e=>?_,fun e=>?_⟩
   ·rw[e,tail_chain ht] at z1;cases z1
   rw[z2 i e] at ht;cases ht
  | false=>
   rcases V.cov i hin ht hnD with hU | ⟨q,hq,hqi⟩
   ·exact V.use F ds hU hr fun m' w' t' aD' V'=>ih _ V' hset hs' hc'
   obtain⟨ag,sg,l',rfl⟩:=V.behind hr hq hqi;exact V.chain HE F (bt_lt F) ds hr fun U' aK' aD' hK' m' t' w' ρ' dn' V'=>ih _ V' hset hs' hc'
end
end Go.Proofs.YtmolfmgchbjnbaaGreatDoor.Ev
namespace Go.Proofs.YtmolfmgchbjnbaaGreatDoor.Ev
open Go
variable [Inhabited (Nat→BA)]
section
variable {P:Program}{G:Nat}{E:EE}
theorem Ext.drew {m m':Mp}{h h':AH}{w w1 w':WL} (e:Ext m m' h h' w1 w') (hh:w1.heap=w.heap) (h1:w1.os=w.os) (h2:w1.tape=w.tape) (h3:w1.output=w.output):Ext m m' h h' w w':=
 ⟨e.le,e.nn,e.keep,fun r x hx=>by
  rcases e.new r x hx with q | ⟨q,q2⟩
  ·exact .inl q
  ·exact .inr ⟨q,by rw[← hh];exact q2⟩,e.tab,e.os.trans h1,e.tape.trans h2,e.output.trans h3,by rw[← hh];exact e.size,fun q hq hn=>by rw[← hh] at hq;rw[e.blk q hq hn,hh]⟩
theorem evDraw_ok (HE:EOk P G E)(hmix:P.follows .mixedOrders=true){ops:Array Oper}{pl:Pln} (hp:plan ops=some pl) {a a':AA}{h h':AH}{e:Exit} (he:evDraw P G E ops a h pl=some (e,a',h')):e=.normal∧∀ (m:Mp) (w:WL) (t:Array Value) (ds:List Deferred) (id:Nat) (Q:Exit→Act→WL→Prop),Rel P G m h w→SlO m a t→(∀ m' w' t',Rel P G m' h' w'→Ext m m' h h' w w'→SlO m' a' t'→Q .normal ⟨t',ds⟩ w')→(Code.region id ops true).wp P Q ⟨t,ds⟩ w:=by
 unfold plan planIf at hp;cases hb:planOk ops (Region.before ops) (planOf ops (Region.before ops)) with
 | false=>rw[hb] at hp;cases hp
 | true=>
  rw[hb] at hp;simp only[cond_true,Option.some.injEq] at hp;subst hp;unfold planOk at hb;simp only[Bool.and_eq_true] at hb;obtain⟨⟨⟨b1,b2⟩,b3⟩,b4⟩:=hb;have F:=regF_of b1;generalize hs:(planOf ops (Region.before ops)).s=s at b2 b3 b4;generalize hl:(planOf ops (Region.before ops)).l=l at b3 b4;have htl:(planOf ops (Region.before ops)).t=(List.range ops.size).filter (isTail ops (Region.before ops)):=rfl;have he':evDraw P G E ops a h ⟨s,l,(planOf ops (Region.before ops)).t⟩=some (e,a',h'):=by rw[← hs,← hl];exact he
  generalize (planOf ops (Region.before ops)).t=tl at htl he';simp only[evDraw] at he';obtain⟨⟨a2,h2⟩,r1,r2⟩:=bind_some he';simp only[nrm,Option.some.injEq,Prod.mk.injEq] at r2;obtain⟨rfl,rfl,rfl⟩:=r2;obtain⟨⟨a1,h1⟩,r3,r4⟩:=bind_some r1;simp only[thenO] at r4;refine⟨rfl,fun m w t ds id Q R hsl hQ=>?_⟩;have R0:Rel P G m h { w with drawn:=w.drawn+1 }:=R.heap rfl;have I0:IR P G ops (Region.before ops) h.n (fun _=>False) (fun _=>False) a a h m (fun _=>0):=⟨rfl,fun _ q=>q.elim,fun _ q=>q.elim,fun _ _ q=>q.elim,fun _ q=>q.elim,fun d _=>rfl,fun i d q=>by rcases q with q | q <;> exact q.elim⟩
  obtain⟨R1,E1,⟨ρ,I1⟩,off1⟩:=IR.seg (E:=E) F s [] I0 (Nat.le_refl _) R0 (fun _ q=>q.elim) (fun _ q=>q.elim) b2 r3;have hn1:a1.n=a.n:=(idx_n s r3).1;apply wp_region_any hmix;have hTL:∀ i,isTail ops (Region.before ops) i=true→∃ p,putO (dstOf ops i)=some p∧∀ d,dstOf ops i=some d→d<a.n:=by
   intro i hi;unfold evTail at r4;obtain⟨⟨a3,h3⟩,q1,q2⟩:=bind_some r4;simp only[thenO] at q2;obtain⟨o,d,x,ho,-⟩:=tail_form hi;obtain⟨p,g1,g2⟩:=(idx_n tl q2).2 i (by rw[htl];exact List.mem_filter.2 ⟨List.mem_range.2 (Age.1 ho).1,hi⟩);exact⟨p,g1,fun d hd=>by rw[← hn1,← segs_n l q1];exact g2 d hd⟩
  refine draw_any (S:=(m,h,{ w with drawn:=w.drawn+1 })) (a0:=a) (Fn:=(a2,h2)) (tl:=tl) HE F ds htl hTL (fun m' w' t' q1 q2 q3=>hQ m' w' t' q1 (q2.drew rfl rfl rfl rfl) q3) ops.size _ (D:=fun _=>False) (U:=fun i=>False∨i ∈ s) (aK:=a1) (aD:=a) (hK:=h1) (m:=m) (t:=t) (ρ:=ρ) (l:=l) (dn:=s.reverse) ?_ (fun i=>?_) (by simp) ?_
  ·refine⟨E1,⟨I1.n,I1.pend,I1.uni,I1.inj,I1.lim,fun d hd=>I1.ref d fun i hi=>hd i (by
     rcases hi with hi | hi
     ·exact .inl hi
     ·exact hi.elim),fun i d hi=>I1.dfn i d (by
     rcases hi with hi | hi
     ·exact .inl hi
     exact hi.1.elim)⟩,R1,hsl,rfl,fun _ q=>q.elim,fun _ _ q=>q.elim,fun i _ q=>q,fun _ _ q=>q.elim,fun _ _ _ q=>q.elim,fun d _=>rfl,fun i hi ht _=>?_,fun q _=>⟨fun z=>z,fun _ _ z=>z⟩,fun i hi=>?_,r4,b3⟩
   ·have:=List.all_eq_true.1 b4 i (List.mem_range.2 hi);unfold allIn at this;rw[ht,hs,hl] at this;simp only[Bool.false_or,Bool.or_eq_true] at this;rcases this with q | q
    ·exact .inl (.inr (by simpa using q))
    obtain⟨z,z1,z2⟩:=List.any_eq_true.1 q;simp only[Bool.or_eq_true] at z2;refine .inr ⟨z,z1,?_⟩;rcases z2 with z2 | z2
    ·exact .inl (Nat.eq_of_beq_eq_true z2)
    exact .inr (by simpa using z2)
   rcases hi with hi | hi
   ·exact hi.elim
   exact List.mem_reverse.2 hi
  ·refine⟨fun q=>q.elim,fun q=>?_⟩;rw[Array.getElem?_replicate] at q;split at q <;> simp at q
  unfold cnt;exact Nat.le_trans (List.length_filter_le _ _) (by simp)
def ScWp (P:Program) (body c:Code) (Q:Exit→Act→WL→Prop) (a:Act) (w:WL):Prop:=∀ (b:Frame) (k:List Item) (cs:List Frame),∃ e a' w',Q e a' w'∧Arrives P (lone (b.at a (.code c :: .inScope body :: k)) cs w) b k cs e a' w'
def LpWp (P:Program) (x:Code) (Q:Exit→Act→WL→Prop) (a:Act) (w:WL):Prop:=∀ (b:Frame) (k:List Item) (cs:List Frame),∃ e a' w',Q e a' w'∧Arrives P (lone (b.at a (.code x :: .inLoop x :: k)) cs w) b k cs e a' w'
theorem loop_of {x:Code}{Q:Exit→Act→WL→Prop}{a:Act}{w:WL} (h:LpWp P x Q a w):(Code.loop x).wp P Q a w:=fun b k cs=>let ⟨e,a',w',q,r⟩:=h b k cs;⟨e,a',w',q,.of_steps (.one step_loop) r⟩
theorem lp_of {x:Code}{Q:Exit→Act→WL→Prop}{a:Act}{w:WL} (h:x.wp P (Exit.then (LpWp P x Q) Q) a w):LpWp P x Q a w:=by
 intro b k cs;obtain⟨e,a₁,w₁,hq,harr⟩:=h b (.inLoop x :: k) cs;cases e with
 | normal=>
  obtain⟨e₂,a₂,w₂,hq₂,harr₂⟩:=hq b k cs;exact⟨e₂,a₂,w₂,hq₂,.of_steps (Steps.trans harr (.one step_inLoop)) harr₂⟩
 | exit id=>exact⟨_,a₁,w₁,hq,.pass (x:=.inLoop x) rfl (fun _ _=>.inl (by simp)) harr⟩
 | goto l=>exact⟨_,a₁,w₁,hq,.pass (x:=.inLoop x) rfl (fun _ _=>.inl (by simp)) harr⟩
 | ret=>exact⟨_,a₁,w₁,hq,.pass (x:=.inLoop x) rfl (fun _ _=>.inl (by simp)) harr⟩
 | panic ch=>exact⟨_,a₁,w₁,hq,.pass (x:=.inLoop x) rfl (fun _ _=>.inl (by simp)) harr⟩
 | outgrown=>exact⟨_,a₁,w₁,hq,.pass (x:=.inLoop x) rfl (fun _ _=>.inl (by simp)) harr⟩
def inSc (P:Program) (body:Code) (Q:Exit→Act→WL→Prop):Exit→Act→WL→Prop
 | .goto l,a,w=>match findLabel body l with
  | some rest=>ScWp P body rest Q a w
  | none=>Q (.goto l) a w
 | e,a,w=>Q e a w
theorem sc_of {body c:Code}{Q:Exit→Act→WL→Prop}{a:Act}{w:WL} (h:c.wp P (inSc P body Q) a w):ScWp P body c Q a w:=by
 intro b k cs;obtain⟨e,a₁,w₁,hq,harr⟩:=h b (.inScope body :: k) cs;cases e with
 | normal=>exact⟨.normal,a₁,w₁,hq,Steps.trans harr (.one step_inScope)⟩
 | exit id=>exact⟨.exit id,a₁,w₁,hq,fun k' hk=>harr k' (by simp[exitTo,hk])⟩
 | goto l=>
  cases hf:findLabel body l with
  | some rest=>
   simp only[inSc,hf] at hq;obtain⟨e₂,a₂,w₂,hq₂,harr₂⟩:=hq b k cs;exact⟨e₂,a₂,w₂,hq₂,.of_steps (harr _ (by simp[gotoIn,hf])) harr₂⟩
  | none=>
   simp only[inSc,hf] at hq;exact⟨.goto l,a₁,w₁,hq,fun k' hk=>harr k' (by simp[gotoIn,hf,hk])⟩
 | ret=>exact⟨_,a₁,w₁,hq,harr⟩
 | panic ch=>exact⟨_,a₁,w₁,hq,harr⟩
 | outgrown=>exact⟨_,a₁,w₁,hq,harr⟩
theorem scope_of {x:Code}{Q:Exit→Act→WL→Prop}{a:Act}{w:WL} (h:ScWp P x x Q a w):(Code.scope x).wp P Q a w:=fun b k cs=>let ⟨e,a',w',q,r⟩:=h b k cs;⟨e,a',w',q,.of_steps (.one step_scope) r⟩
def CPost (P:Program) (G:Nat) (m:Mp) (h:AH) (w:WL) (ds:List Deferred) (Q:Exit→Act→WL→Prop) (e:Exit) (a':AA) (h':AH):Prop:=∀ m' w' t',Rel P G m' h' w'→Ext m m' h h' w w'→SlO m' a' t'→Q e ⟨t',ds⟩ w'
theorem evC_ok (HE:EOk P G E)(hmix:P.follows .mixedOrders=true)(ds:List Deferred):∀ (n:Nat) (s:Option Code) (c:Code) (a a':AA) (h h':AH) (e:Exit),evC P G E n s c a h=some (e,a',h')→∀ (m:Mp) (w:WL) (t:Array Value) (Q:Exit→Act→WL→Prop),Rel P G m h w→SlO m a t→CPost P G m h w ds Q e a' h' →
  (match s with
   | none=>c.wp P Q ⟨t,ds⟩ w∧∀ x,c=.loop x→LpWp P x Q ⟨t,ds⟩ w
   | some body=>ScWp P body c Q ⟨t,ds⟩ w):=by
 intro n;induction n with
 | zero=>intro s c a a' h h' e he;cases he
 | succ n ih=>
  intro s c a a' h h' e he m w t Q R hs hQ;change stepC P G E (evC P G E n) s c a h=some (e,a',h') at he
  -- behind a part
  have after:∀ (y:Code) (e1:Exit) (a1:AA) (h1:AH),aftSeq (evC P G E n) y (e1,a1,h1)=some (e,a',h')→∀ K:Act→WL→Prop,(∀ m1 w1 t1,Rel P G m1 h1 w1→Ext m m1 h h1 w w1→SlO m1 a1 t1→(∀ Q',CPost P G m1 h1 w1 ds Q' e a' h'→y.wp P Q' ⟨t1,ds⟩ w1∧∀ x,y=.loop x→LpWp P x Q' ⟨t1,ds⟩ w1)→K ⟨t1,ds⟩ w1)→CPost P G m h w ds (Exit.then K Q) e1 a1 h1:=by
   intro y e1 a1 h1 hy K hKK m1 w1 t1 R1 E1 S1;cases e1 with
   | normal=>
    simp only[aftSeq] at hy;exact hKK m1 w1 t1 R1 E1 S1 fun Q' hq=>ih none y a1 a' h1 h' e hy m1 w1 t1 Q' R1 S1 hq
   | exit id=>simp only[aftSeq,Option.some.injEq,Prod.mk.injEq] at hy;obtain⟨rfl,rfl,rfl⟩:=hy;exact hQ m1 w1 t1 R1 E1 S1
   | goto l=>simp only[aftSeq,Option.some.injEq,Prod.mk.injEq] at hy;obtain⟨rfl,rfl,rfl⟩:=hy;exact hQ m1 w1 t1 R1 E1 S1
   | ret=>simp only[aftSeq,Option.some.injEq,Prod.mk.injEq] at hy;obtain⟨rfl,rfl,rfl⟩:=hy;exact hQ m1 w1 t1 R1 E1 S1
   | panic ch=>simp only[aftSeq,Option.some.injEq,Prod.mk.injEq] at hy;obtain⟨rfl,rfl,rfl⟩:=hy;exact hQ m1 w1 t1 R1 E1 S1
   | outgrown=>simp only[aftSeq,Option.some.injEq,Prod.mk.injEq] at hy;obtain⟨rfl,rfl,rfl⟩:=hy;exact hQ m1 w1 t1 R1 E1 S1
  cases s with
  | some body=>
   simp only[stepC] at he;obtain⟨⟨e1,a1,h1⟩,r1,r2⟩:=bind_some he;refine sc_of (ih none c a a1 h h1 e1 r1 m w t (inSc P body Q) R hs ?_).1;intro m1 w1 t1 R1 E1 S1;cases e1 with
   | goto l=>
    simp only[aftScope] at r2;cases hf:findLabel body l with
    | some rest=>
     rw[hf] at r2;simp only[aftGoto] at r2;simp only[inSc,hf];exact ih (some body) rest a1 a' h1 h' e r2 m1 w1 t1 Q R1 S1 fun m2 w2 t2 R2 E2 S2=>hQ m2 w2 t2 R2 (E1.trans E2) S2
    | none=>
     rw[hf] at r2;simp only[aftGoto,Option.some.injEq,Prod.mk.injEq] at r2;obtain⟨rfl,rfl,rfl⟩:=r2;simp only[inSc,hf];exact hQ m1 w1 t1 R1 E1 S1
   | normal=>simp only[aftScope,Option.some.injEq,Prod.mk.injEq] at r2;obtain⟨rfl,rfl,rfl⟩:=r2;exact hQ m1 w1 t1 R1 E1 S1
   | exit id=>simp only[aftScope,Option.some.injEq,Prod.mk.injEq] at r2;obtain⟨rfl,rfl,rfl⟩:=r2;exact hQ m1 w1 t1 R1 E1 S1
   | ret=>simp only[aftScope,Option.some.injEq,Prod.mk.injEq] at r2;obtain⟨rfl,rfl,rfl⟩:=r2;exact hQ m1 w1 t1 R1 E1 S1
   | panic ch=>simp only[aftScope,Option.some.injEq,Prod.mk.injEq] at r2;obtain⟨rfl,rfl,rfl⟩:=r2;exact hQ m1 w1 t1 R1 E1 S1
   | outgrown=>simp only[aftScope,Option.some.injEq,Prod.mk.injEq] at r2;obtain⟨rfl,rfl,rfl⟩:=r2;exact hQ m1 w1 t1 R1 E1 S1
  | none=>
   simp only[stepC] at he;have here:∀ (a1:AA) (h1:AH) (e1:Exit),some (e1,a,h)=some (e,a',h')→Q e1 ⟨t,ds⟩ w:=by
    intro a1 h1 e1 q;simp only[Option.some.injEq,Prod.mk.injEq] at q;obtain⟨rfl,rfl,rfl⟩:=q;exact hQ m w t R (.refl m h w) hs
   cases c <;> simp only[stepC0] at he <;> try (cases he;done)
   case skip=>exact⟨wp_skip (here a h _ he),fun x q=>by cases q⟩
   case label l=>exact⟨wp_label (here a h _ he),fun x q=>by cases q⟩
   case exit id=>exact⟨wp_exit (here a h _ he),fun x q=>by cases q⟩
   case goto l=>exact⟨wp_goto (here a h _ he),fun x q=>by cases q⟩
   case ret=>exact⟨wp_ret (here a h _ he),fun x q=>by cases q⟩
   case region id ops d=>
    refine⟨?_,fun x q=>by cases q⟩;cases d with
    | false=>
     simp only[evReg] at he;obtain⟨⟨a1,h1⟩,r1,r2⟩:=bind_some he;simp only[nrm,Option.some.injEq,Prod.mk.injEq] at r2;obtain⟨rfl,rfl,rfl⟩:=r2;apply wp_region;rw[List.range_eq_range'];have:=evOps_ok HE (Q:=Q) ds ops.toList 0 a a1 h h1 r1 (by simp) m w t R hs hQ;simpa using this
    | true=>
     simp only[evReg] at he;obtain⟨pl,hp,r1⟩:=bind_some he;obtain⟨rfl,hd⟩:=evDraw_ok HE hmix hp r1;exact hd m w t ds id Q R hs hQ
   case seq x y=>
    refine⟨?_,fun x q=>by cases q⟩;obtain⟨⟨e1,a1,h1⟩,r1,r2⟩:=bind_some he;refine wp_seq (ih none x a a1 h h1 e1 r1 m w t _ R hs ?_).1;exact after y e1 a1 h1 r2 _ fun m1 w1 t1 R1 E1 S1 hk=>(hk Q fun m2 w2 t2 R2 E2 S2=>hQ m2 w2 t2 R2 (E1.trans E2) S2).1
   case cond q x y=>
    refine⟨?_,fun x q=>by cases q⟩;obtain⟨f,hf,r1⟩:=bind_some he;obtain⟨v,hv,r2⟩:=bind_some r1;have hv':=opnd_ok R hf hs hv ds;unfold onCond at r2;split at r2
    ·exact wp_cond hv'.bool (ih none x a a' h h' e r2 m w t Q R hs hQ).1
    ·exact wp_cond hv'.bool (ih none y a a' h h' e r2 m w t Q R hs hQ).1
    cases r2
   case block id x=>
    refine⟨?_,fun x q=>by cases q⟩;obtain⟨⟨e1,a1,h1⟩,r1,r2⟩:=bind_some he;refine wp_block (ih none x a a1 h h1 e1 r1 m w t _ R hs ?_).1;intro m1 w1 t1 R1 E1 S1;cases e1 with
    | exit i=>
     simp only[aftBlock,Option.some.injEq,Prod.mk.injEq] at r2;obtain⟨r3,rfl,rfl⟩:=r2;have:=hQ m1 w1 t1 R1 E1 S1;rw[← r3] at this;simp only[Exit.inBlock];by_cases hi:i=id
     ·subst hi;simpa using this
     rw[if_neg hi];have hb:Nat.beq i id=false:=by
      cases hq:Nat.beq i id with
      | false=>rfl
      | true=>exact absurd (Nat.eq_of_beq_eq_true hq) hi
     rw[hb] at this;exact this
    | normal=>simp only[aftBlock,Option.some.injEq,Prod.mk.injEq] at r2;obtain⟨rfl,rfl,rfl⟩:=r2;exact hQ m1 w1 t1 R1 E1 S1
    | goto l=>simp only[aftBlock,Option.some.injEq,Prod.mk.injEq] at r2;obtain⟨rfl,rfl,rfl⟩:=r2;exact hQ m1 w1 t1 R1 E1 S1
    | ret=>simp only[aftBlock,Option.some.injEq,Prod.mk.injEq] at r2;obtain⟨rfl,rfl,rfl⟩:=r2;exact hQ m1 w1 t1 R1 E1 S1
    | panic ch=>simp only[aftBlock,Option.some.injEq,Prod.mk.injEq] at r2;obtain⟨rfl,rfl,rfl⟩:=r2;exact hQ m1 w1 t1 R1 E1 S1
    | outgrown=>simp only[aftBlock,Option.some.injEq,Prod.mk.injEq] at r2;obtain⟨rfl,rfl,rfl⟩:=r2;exact hQ m1 w1 t1 R1 E1 S1
   case loop x=>
    obtain⟨⟨e1,a1,h1⟩,r1,r2⟩:=bind_some he;have hlp:LpWp P x Q ⟨t,ds⟩ w:=by
     refine lp_of (ih none x a a1 h h1 e1 r1 m w t _ R hs ?_).1;exact after (.loop x) e1 a1 h1 r2 _ fun m1 w1 t1 R1 E1 S1 hk=>(hk Q fun m2 w2 t2 R2 E2 S2=>hQ m2 w2 t2 R2 (E1.trans E2) S2).2 x rfl
    exact⟨loop_of hlp,fun y q=>by cases q;exact hlp⟩
   case scope x=>exact⟨scope_of (ih (some x) x a a' h h' e he m w t Q R hs hQ),fun x q=>by cases q⟩
end
end Go.Proofs.YtmolfmgchbjnbaaGreatDoor.Ev
