/-
  Texts Fd Eb.
-/
import Derived.Test.YtgpamchpeamnfaaGreatDoorMA
import Derived.Test.YtgpamchpeamnfaaGreatDoorM33
import Derived.Test.YtgpamchpeamnfaaGreatDoorM30
set_option linter.unusedSimpArgs false
set_option linter.unusedVariables false
set_option maxRecDepth 100000
set_option maxHeartbeats 40000000
open _root_.Go.Proofs.Tryz
namespace Go.Proofs.YtgpamchpeamnfaaGreatDoor
open Go.RowKit
open Wire Flow Mach
section
variable {w0 W W' : World} {tag tag' : Nat → Nat} {lv : Nat → Bool} {R : Nat → Rw} {sz O : Nat → Nat} {C : Nat → Nat → Value} {K : Value → Prop} {S : List Nat}
theorem Sto.obj (h:Sto w0 W tag lv R sz O C K){i:Nat}(hl:lv i=false)(hi:i≠6∧i≠7∧i≠8)(cs:Array Value)(t:TypeId):Sto w0 (W.alloc (.cells cs t)) (aM tag W.heap.size i) lv R (up sz i cs.size) (up O i W.heap.size) (up C i fun j=>cs.getD j undef) K:=by
 have hf:Fr [] W (W.alloc (.cells cs t)):=(Fr.refl [] W).alloc _
 have S1:=h.chg (S:=[]) (tag':=aM tag W.heap.size i) (Chg.of_fr hf) (fun k hk=>aI hk) (by simp)
 have hn:=wan W (.cells cs t)
 refine⟨S1.fr,S1.low,S1.rows,fun q hq=>?_,fun q hq hz=>?_,fun q hq=>?_,S1.keys⟩
 ·by_cases e:q=i
  ·subst e
   rw[bG] at hq
   rw[bG,bG,bG]
   refine⟨h.fr.size,by simp,cX (Nat.le_refl _),fun j hj=>⟨?_,by unfold World.frozen?;rw[hn];simp⟩⟩
   unfold World.cell?
   rw[hn]
   simp[hj]
  ·rw[aJ _ _ e] at hq
   rw[aJ _ _ e,aJ _ _ e,aJ _ _ e]
   exact S1.objs q hq
 ·by_cases e:q=i
  ·subst e;rw[hl] at hq;cases hq
  ·rw[aJ _ _ e] at hz;exact S1.far q hq hz
 ·by_cases e:q=i
  ·subst e;exact hi
  ·rw[aJ _ _ e] at hq;exact S1.num q hq
theorem Sto.start (hf:Fr [] w0 W)(R:Nat→Rw)(O:Nat→Nat)(C:Nat→Nat→Value):Sto w0 W (fun k=>if k<w0.heap.size then 7 else 6) (fun _=>false) R (fun _=>0) O C (fun _=>False):=
 ⟨hf,(fun k hk=>by simp[hk]),(fun i hi=>by cases hi),(fun i hi=>by omega),(fun i hi=>by cases hi),(fun i hi=>by simp at hi),(fun v hv=>False.elim hv)⟩
theorem Sto.nil (h:Sto w0 W tag lv R sz O C K){i:Nat}(hsz:sz i=0)(hi:i≠6∧i≠7∧i≠8)(e:TypeId)(z:Nat):Sto w0 W (aM tag W.heap.size i) (up lv i true) (up R i ⟨.slice none 0 0,e,z,0,[]⟩) sz O C K:=
 h.new hsz hi (Fr.refl [] W) (World.ownsRow_nil W w0.heap.size e z) (fun g hg=>by simp[Value.ownBlock] at hg)
end
theorem bFk:(prog.info? 58).map (fun i=>(i.zero,i.size,i.bytes))=some (some (.pointer none),1,8):=by kernel_rfl
structure bDv (w0:World) (X b0:Nat) (ob:Obj) (cm cw:Array Value) (ng:Nat) (xs:List Value) (k:Nat) (W:World) (tag:Nat→Nat) (lv:Nat→Bool) (R:Nat→Rw) (sz O:Nat→Nat) (C:Nat→Nat→Value):Prop where
 S:Sto w0 W tag lv R sz O C (fun _=>False)
 x:O 0=X∧sz 0=13∧sz 1=7
 no:∀ i,10≤i→(i<200∨200+2*k≤i)→sz i=0∧lv i=false
 c0:∀ j,j≠7→C 0 j=cm.getD j undef
 c1:∀ j,C 1 j=cw.getD j undef
 w:cm.getD 5 undef=ptr (O 1)
 r2:lv 2=true∧R 2=⟨cm.getD 6 undef,118,3,ng,xs⟩
 r3:lv 3=true∧R 3=⟨C 0 7,58,1,k,(List.range k).map fun j=>.pointer (some ⟨O (200+2*j),0,none⟩)⟩
 r4:lv 4=true∧R 4=⟨.slice none 0 0,89,4,0,[]⟩
 r5:lv 5=true∧R 5=⟨.slice none 0 0,9,1,0,[]⟩
 ae:∀ j,j<k→sz (200+2*j)=1∧lv (201+2*j)=true∧R (201+2*j)=⟨C (200+2*j) 0,171,4,0,[]⟩
 b:b0<W.heap.size∧tag b0=6∧W.heap[b0]?=some ob
def aWw (w0:World) (X b0:Nat) (ob:Obj) (cm cw:Array Value) (ng:Nat) (xs:List Value) (k:Nat) (W:World):Prop:=∃ tag lv R sz O C,bDv w0 X b0 ob cm cw ng xs k W tag lv R sz O C
theorem aWw.step {w0:World}{X b0:Nat}{ob:Obj}{cm cw:Array Value}{ng:Nat}{xs:List Value}{k:Nat}{W:World} (h:aWw w0 X b0 ob cm cw ng xs k W) (hk:k<1000) :
  ∃ (o:Option Addr) (c:Nat),W.cell? ⟨X,7,none⟩=some (.slice o k c)∧∃ W4 vo vc,(Builtin.append_ #[41,41] 41 #[.slice o k c,.slice (some ⟨W.heap.size+1,0,none⟩) 1 1]).run prog ((W.alloc (.cells #[.slice none 0 0] 61)).alloc (.cells #[.pointer (some ⟨W.heap.size,0,none⟩)] 58))=.ok (.slice vo (k+1) vc) W4 ∧
   (W4.cell? ⟨X,7,none⟩=some (.slice o k c)∧W4.frozen? ⟨X,7,none⟩=false)∧aWw w0 X b0 ob cm cw ng xs (k+1) (W4.setCell ⟨X,7,none⟩ (.slice vo (k+1) vc)):=by
 obtain⟨tag,lv,R,sz,O,C,P⟩:=h
 obtain⟨i0,hi,hz0,hz1,hz2⟩:=info_parts bFk
 obtain⟨l3,r3⟩:=P.r3
 obtain⟨o,c,e7⟩:=cN (P.S.row l3 r3).own
 have c7:=P.S.oc (i:=0) (j:=7) (by rw[P.x.2.1];decide)
 rw[P.x.1,e7] at c7
 refine⟨o,c,c7,?_⟩
 have n1:=P.no (200+2*k) (by omega) (.inr (by omega))
 have n2:=P.no (201+2*k) (by omega) (.inr (by omega))
 have S1:=P.S.obj (i:=200+2*k) n1.2 (by omega) #[.slice none 0 0] 61
 have S2:=S1.nil (i:=201+2*k) (by rw[aJ _ _ (by omega)];exact n2.1) (by omega) 171 4
 have F2:Fr [] (W.alloc (.cells #[.slice none 0 0] 61)) ((W.alloc (.cells #[.slice none 0 0] 61)).alloc (.cells #[.pointer (some ⟨W.heap.size,0,none⟩)] 58)):=(Fr.refl [] _).alloc _
 have S3:=S2.frm F2
 have F1:Fr [] W (W.alloc (.cells #[.slice none 0 0] 61)):=(Fr.refl [] W).alloc _
 have hnews:=oQ (W.alloc (.cells #[.slice none 0 0] 61)) #[.pointer (some ⟨W.heap.size,0,none⟩)] 58
 rw[World.size_alloc] at hnews
 generalize hA:W.alloc (.cells #[.slice none 0 0] 61)=WA at *
 have hsA:WA.heap.size=W.heap.size+1:=by rw[← hA];simp
 generalize hB:WA.alloc (.cells #[.pointer (some ⟨W.heap.size,0,none⟩)] 58)=WB at *
 have r3':up R (201+2*k) ⟨.slice none 0 0,171,4,0,[]⟩ 3=⟨C 0 7,58,1,k,(List.range k).map fun j=>.pointer (some ⟨O (200+2*j),0,none⟩)⟩:=by rw[aJ _ _ (by omega)];exact r3
 have l3':up lv (201+2*k) true 3=true:=by rw[aJ _ _ (by omega)];exact l3
 have rowA:=S3.row l3' r3'
 have own3:=rowA.own
 rw[e7] at own3
 obtain⟨v',W4,hr4,hown',hgrow,-,hwh⟩:=run_append_own_at (P:=prog) WB w0.heap.size 41 41 58 i0 _ 1 8 underlying41 hi hz0 hz1 hz2 rfl (by decide) _ _ _ own3 ⟨W.heap.size+1,0,none⟩ 1 1 [.pointer (some ⟨W.heap.size,0,none⟩)] rfl hnews (by intro u hu;simp at hu;rw[hu];rfl) (by unfold maxLen;omega) (by omega) S3.fr.size
 obtain⟨vo,vc,rfl⟩:=iF hown'
 have S4:=S3.grow (i:=3) l3' hown' (by rw[r3'];show WB.grownBy W4 (C 0 7).ownBlock;rw[e7];exact hgrow) (by rw[r3'];show _=(C 0 7).ownBlock∨_;rw[e7];exact hwh)
 have h13:up sz (200+2*k) 1 0=13:=by rw[aJ _ _ (by omega)];exact P.x.2.1
 have S5:=S4.set (i:=0) (j:=7) (by show 7<up sz (200+2*k) 1 0;omega) (.slice vo (k+1) vc)
 have c5:=S4.oc (i:=0) (j:=7) (by show 7<up sz (200+2*k) 1 0;omega)
 have z5:=S4.oz (i:=0) (j:=7) (by show 7<up sz (200+2*k) 1 0;omega)
 have t5:=(S4.objs 0 (by show 0<up sz (200+2*k) 1 0;omega)).2.2.1
 have eO:up O (200+2*k) W.heap.size 0=X:=by rw[aJ _ _ (by omega)];exact P.x.1
 have eC:up C (200+2*k) (fun j=>(#[.slice none 0 0]:Array Value).getD j undef) 0 7=.slice o k c:=by rw[aJ _ _ (by omega)];exact e7
 rw[eO] at S5 c5 z5 t5
 rw[eC] at c5
 refine⟨W4,vo,vc,hr4,⟨c5,z5⟩,_,_,_,_,_,_,S5,?_,?_,?_,?_,?_,?_,?_,?_,?_,?_,?_⟩
 ·exact⟨eO,h13,by rw[aJ _ _ (by omega)];exact P.x.2.2⟩
 ·intro i h1 h2
  rw[aJ _ _ (by omega),aJ _ _ (by omega)]
  exact P.no i h1 (by omega)
 ·intro j hj
  rw[bJ _ _ (by omega),aJ _ _ (by omega)]
  exact P.c0 j hj
 ·intro j
  rw[bJ _ _ (by omega),aJ _ _ (by omega)]
  exact P.c1 j
 ·rw[aJ _ _ (by omega)];exact P.w
 ·rw[aJ _ _ (by omega),aJ _ _ (by omega),aJ _ _ (by omega)];exact P.r2
 ·refine⟨l3',?_⟩
  have hmap:(List.range (k+1)).map (fun j=>Value.pointer (some ⟨up O (200+2*k) W.heap.size (200+2*j),0,none⟩))=(List.range k).map (fun j=>Value.pointer (some ⟨O (200+2*j),0,none⟩))++[.pointer (some ⟨W.heap.size,0,none⟩)]:=by
   rw[List.range_succ,List.map_append,List.map_cons,List.map_nil,bG]
   exact congrArg (·++_) (List.map_congr_left fun j hj=>by rw[aJ _ _ (by have:=List.mem_range.1 hj;omega)])
  rw[bG,fS,hmap]
 ·rw[aJ _ _ (by omega),aJ _ _ (by omega),aJ _ _ (by omega)];exact P.r4
 ·rw[aJ _ _ (by omega),aJ _ _ (by omega),aJ _ _ (by omega)];exact P.r5
 ·intro j hj
  rw[bJ _ _ (by omega)]
  by_cases e:j=k
  ·subst e
   refine⟨by rw[bG];rfl,by rw[bG],?_⟩
   rw[aJ _ _ (by omega),bG,bG]
   rfl
  ·rw[aJ _ _ (by omega),aJ _ _ (by omega),aJ _ _ (by omega),aJ _ _ (by omega),aJ _ _ (by omega)]
   exact P.ae j (by omega)
 ·obtain⟨b1,b2,b3⟩:=P.b
  have bA:b0<WB.heap.size:=Nll b1 (Nat.le_trans F1.size F2.size)
  have hsz:WA.heap.size≤WB.heap.size:=F2.size
  have tb:aM (aM (aM tag W.heap.size (200+2*k)) WA.heap.size (201+2*k)) WB.heap.size 3 b0=6:=by rw[aI bA,aI (by omega),aI b1,b2]
  refine⟨by simp[World.setCell];exact Nll bA hgrow.size,tb,?_⟩
  rw[aL (fun e=>by
   have e':b0=X:=by omega
   rw[e',t5] at tb
   omega)]
  refine (hgrow.block b0 bA (fun e=>?_)).trans ((F2.block b0 (by omega) (by simp)).trans ((F1.block b0 b1 (by simp)).trans b3))
  have:=rowA.tg b0 (by rw[e7];exact e.symm)
  rw[aI (by omega),aI b1] at this
  omega
abbrev cmV (ta pa fa:Option Addr) (tn tc pn pc fn fc:Nat) (gl ar:Int) (b1 G ng:Nat):Array Value:=#[.slice ta tn tc,.slice pa pn pc,.int .i64 gl,.int .i64 ar,.slice fa fn fc,ptr b1,.slice (some ⟨G,0,none⟩) ng ng,.slice none 0 0,.slice none 0 0,.int .i64 0,.int .i64 0,.int .i64 0,.bool false]
abbrev cwV (ra da:Option Addr) (nr rc nd dc:Nat):Array Value:=#[.slice ra nr rc,.slice da nd dc,.string ⟨#[]⟩,.slice none 0 0,.int .i64 0,.int .i64 0,.string ⟨#[]⟩]
theorem bDv.ms {w0:World}{X b0:Nat}{ob:Obj}{ng:Nat}{xs:List Value}{k:Nat}{W:World}{tag:Nat→Nat}{lv:Nat→Bool}{R:Nat→Rw}{sz O:Nat→Nat}{C:Nat→Nat→Value}{ta pa fa ra da:Option Addr}{tn tc pn pc fn fc nr rc nd dc b1 G:Nat}{m:Mo}
  (P:bDv w0 X b0 ob (cmV ta pa fa tn tc pn pc fn fc m.globs m.arrs b1 G ng) (cwV ra da nr rc nd dc) ng xs k W tag lv R sz O C) (hM:eR w0 (.agg #[.slice ta tn tc,.slice pa pn pc,.int .i64 m.globs,.int .i64 m.arrs,.slice fa fn fc]) m) (hg:m.globs=ng) (hk:m.arrs=k) (hk1:k≤1000) (hS:aAq w0 (.slice ra nr rc) (.slice da nd dc) nr nd) (hx:iC ng xs) :
  MS w0 W X m tag lv R sz O C (fun _=>False) 0 0 [] []:=by
 have e:=fun j hj=>P.c0 j hj
 have f:=P.c1
 refine⟨P.S,⟨P.x,⟨?_,e 2 (by decide),e 3 (by decide)⟩,(e 5 (by decide)).trans P.w,⟨P.r2.1,G,xs,ng,ng,hg,e 6 (by decide),by rw[e 6 (by decide)];exact P.r2.2,hx⟩,⟨P.r3.1,k,hk,P.r3.2⟩,fun j hj=>?_,?_,⟨⟨_,f 2,by decide⟩,_,f 6,by decide⟩,⟨P.r5.1,[],by simp,by simp,by rw[f 3];exact P.r5.2⟩,e 9 (by decide),⟨0,e 10 (by decide)⟩,e 11 (by decide),e 12 (by decide),by omega⟩,⟨P.r4.1,by rw[e 8 (by decide)];exact P.r4.2⟩,by simp,by simp⟩
 ·rw[e 0 (by decide),e 1 (by decide),e 2 (by decide),e 3 (by decide),e 4 (by decide)];exact hM
 ·obtain⟨h1,h2,h3⟩:=P.ae j (by omega)
  exact⟨h1,h2,0,[],h3,rfl,by omega,fun i hi=>by omega⟩
 ·refine⟨nr,nd,0,0,?_,f 4,by omega,f 5,by omega⟩
  rw[f 0,f 1];exact hS
theorem bAz (w0:World)(ta pa fa ra da:Option Addr)(tn tc pn pc fn fc nr rc nd dc:Nat)(m:Mo)(hM:eR w0 (.agg #[.slice ta tn tc,.slice pa pn pc,.int .i64 m.globs,.int .i64 m.arrs,.slice fa fn fc]) m)(hMo:A9 m)(hS:aAq w0 (.slice ra nr rc) (.slice da nd dc) nr nd)(h3:3≤m.fns.length)(hl:∀ fn ∈ m.fns,0≤fn.locs∧fn.locs≤1000)(hfit:kM m 0 0 []) :
  Calls prog 9 #[.agg #[.slice ta tn tc,.slice pa pn pc,.int .i64 m.globs,.int .i64 m.arrs,.slice fa fn fc],.slice ra nr rc,.slice da nd dc] w0 fun e W'=>∃ X sz O,e=.returned (ptr X)∧(∀ i,10≤i→i<200→sz i=0)∧GSt w0 X m sz O 0 W':=by
 obtain⟨ng,hng⟩:∃ ng:Nat,m.globs=ng:=⟨m.globs.toNat,by have:=hMo.g.1;omega⟩
 obtain⟨na,hna⟩:∃ na:Nat,m.arrs=na:=⟨m.arrs.toNat,by have:=hMo.a.1;omega⟩
 have hg1:ng≤1000:=by have:=hMo.g.2;omega
 have ha1:na≤1000:=by have:=hMo.a.2;omega
 have hmk:=aLe ng (by omega)
 obtain⟨W1,hW1⟩:=eX (w0.alloc (.cells #[.slice ta tn tc,.slice pa pn pc,.int .i64 m.globs,.int .i64 m.arrs,.slice fa fn fc] 25))
 obtain⟨W2,hW2⟩:=eX (W1.alloc (.cells (cwV ra da nr rc nd dc) 57))
 obtain⟨W3,hW3⟩:=eX (W2.alloc (.cells (zV ng) 118))
 obtain⟨W4,hW4⟩:=eX (W3.alloc (.cells (cmV ta pa fa tn tc pn pc fn fc m.globs m.arrs W1.heap.size W2.heap.size ng) 44))
 have k1:=wan w0 (.cells #[.slice ta tn tc,.slice pa pn pc,.int .i64 m.globs,.int .i64 m.arrs,.slice fa fn fc] 25)
 rw[hW1] at k1
 have F1:Fr [] w0 W1:=by rw[← hW1];exact (Fr.refl [] w0).alloc _
 have F2:Fr [] W1 W2:=by rw[← hW2];exact (Fr.refl [] W1).alloc _
 have F3:Fr [] W2 W3:=by rw[← hW3];exact (Fr.refl [] W2).alloc _
 have F4:Fr [] W3 W4:=by rw[← hW4];exact (Fr.refl [] W3).alloc _
 have b0:w0.heap.size<W1.heap.size:=(Age.1 k1).1
 have S0:=Sto.start F1 (fun _=>⟨.slice none 0 0,0,0,0,[]⟩) (fun _=>0) (fun _ _=>undef)
 have S1:=S0.obj (i:=1) rfl (by decide) (cwV ra da nr rc nd dc) 57
 rw[hW2] at S1
 have own2:=aSr W2 w0.heap.size ng (F1.trans F2).size (by omega)
 rw[hW3] at own2
 have S2:=S1.new (i:=2) rfl (by decide) F3 own2 (fun g hg=>by simp only[Value.ownBlock,Option.some.injEq] at hg;omega)
 have S3:=S2.obj (i:=0) rfl (by decide) (cmV ta pa fa tn tc pn pc fn fc m.globs m.arrs W1.heap.size W2.heap.size ng) 44
 rw[hW4] at S3
 have S6:=((S3.nil (i:=3) rfl (by decide) 58 1).nil (i:=4) rfl (by decide) 89 4).nil (i:=5) rfl (by decide) 9 1
 have s2:W1.heap.size≤W2.heap.size:=F2.size
 have s3:W2.heap.size≤W3.heap.size:=F3.size
 have s4:W3.heap.size≤W4.heap.size:=F4.size
 have off:∀ i,10≤i→i≠0∧i≠1∧i≠2∧i≠3∧i≠4∧i≠5:=by omega
 have P0:aWw w0 W3.heap.size w0.heap.size (.cells #[.slice ta tn tc,.slice pa pn pc,.int .i64 m.globs,.int .i64 m.arrs,.slice fa fn fc] 25) (cmV ta pa fa tn tc pn pc fn fc m.globs m.arrs W1.heap.size W2.heap.size ng) (cwV ra da nr rc nd dc) ng (zV ng).toList 0 W4.drew:=by
  refine⟨_,_,_,_,_,_,S6.frm ((Fr.refl [] W4).drew),⟨rfl,rfl,rfl⟩,fun i hi _=>?_,fun j _=>rfl,fun j=>rfl,rfl,⟨rfl,rfl⟩,⟨rfl,rfl⟩,⟨rfl,rfl⟩,⟨rfl,rfl⟩,(fun j hj=>by omega),(by show _<W4.heap.size;omega),?_,?_⟩
  ·obtain⟨n0,n1,n2,n3,n4,n5⟩:=off i hi
   exact⟨by rw[aJ _ _ n0,aJ _ _ n1],by rw[aJ _ _ n5,aJ _ _ n4,aJ _ _ n3,aJ _ _ n2]⟩
  ·rw[aI (by omega),aI (by omega),aI (by omega),aI (by omega),aI (by omega),aI b0]
   simp
  ·exact (F4.block _ (by omega) (by simp)).trans ((F3.block _ (by omega) (by simp)).trans ((F2.block _ b0 (by simp)).trans k1))
 have dB:∀ w,Fr [] W1 w→∀ t,w.cell? ⟨w0.heap.size,t,none⟩=(#[.slice ta tn tc,.slice pa pn pc,.int .i64 m.globs,.int .i64 m.arrs,.slice fa fn fc]:Array Value)[t]?:=fun w hw t=>(hw.cell (p:=⟨w0.heap.size,t,none⟩) b0 (by simp)).trans (by unfold World.cell?;rw[k1];rfl)
 have q0:=dB W2 F2 0
 have q1:=dB W2 F2 1
 have q2:=dB W2 F2 2
 have q3:=dB W2 F2 3
 have q4:=dB W2 F2 4
 have p0:=dB W3 (F2.trans F3) 0
 have p1:=dB W3 (F2.trans F3) 1
 have p2:=dB W3 (F2.trans F3) 2
 have p3:=dB W3 (F2.trans F3) 3
 have p4:=dB W3 (F2.trans F3) 4
 simp at q0 q1 q2 q3 q4 p0 p1 p2 p3 p4
 have HM:Hid _:=AI hM (AI hS (AI h3 (AI hl hfit)))
 clear hM hS h3 hl hfit S0 S1 S2 S3 S6 own2 off dB k1 F1 F2 F3 F4 s2 s3 s4 b0
 have HMO:Hid _:=hMo
 clear hMo
 generalize hX:W3.heap.size=X at *
 generalize hgl:m.globs=gl at *
 generalize har:m.arrs=ar at *
 subst hng hna
 go_enter func9,ntmps9
 go_wp2
 go_region
 go_wp2
 clear q0 q1 q2 q3 q4 p0 p1 p2 p3 p4 hmk
 go_loopw [9] (fun iv wr=>∃ k:Nat,k≤na∧iv=.int .i64 k∧aWw w0 X w0.heap.size (.cells #[.slice ta tn tc,.slice pa pn pc,.int .i64 ng,.int .i64 na,.slice fa fn fc] 25) (cmV ta pa fa tn tc pn pc fn fc ng na W1.heap.size W2.heap.size ng) (cwV ra da nr rc nd dc) ng (zV ng).toList k wr) (fun iv _=>na-(intOf iv).toNat)
 case atStart=>exact⟨0,by omega,rfl,P0⟩
 case round=>
  clear P0
  obtain⟨k,hk,rfl,P⟩:=hrel
  have cb:wr.cell? ⟨w0.heap.size,3,none⟩=some (.int .i64 na):=by
   obtain⟨tag,lv,R,sz,O,C,P⟩:=P
   unfold World.cell?;rw[P.b.2.2];rfl
  by_cases hlt:k<na
  ·have g1:(k:Int)<na:=by omega
   obtain⟨o,c,c7,V,vo,vc,hr,⟨p7,z7⟩,P'⟩:=P.step (by omega)
   have HZ:Hid _:=P'
   have Hr:Hid _:=hr
   clear P P' hr
   go_wp2_with (at_builtin;refine sZ rfl (.tmp 31) (.tmp 34) 41 rfl _ _ _ rfl rfl Hr.out ?_)
   clear Hr c7 cb
   go_wp2
   go_roundw
   case rel=>exact⟨k+1,by omega,by simp,HZ.out⟩
   case measure=>simp[intOf] <;> omega
  ·have g1:¬ ((k:Int)<na):=by omega
   obtain rfl:k=na:=by omega
   obtain⟨tag,lv,R,sz,O,C,P⟩:=P
   obtain⟨hM,hS,h3,hl,hfit⟩:=HM.out
   rw[← hgl,← har] at P hM
   have hms:=P.ms hM hgl har ha1 hS (by simpa using zR (na:=0) (nl:=ng) (cs:=[]) ⟨rfl,fun i hi=>by omega⟩ (by omega))
   have hfl:0<m.fns.length:=by omega
   have hl0:=hl _ (List.getElem_mem hfl)
   have hen:Calls prog 16 #[ptr X,.int .i64 0,.slice none 0 0] wr _:=aLy hms (fun i h1 h2=>(P.no i h1 (.inl h2)).1) (by simp) (f:=0) (nl:=m.fns[0].locs.toNat) (Lge hfl) (by omega) (by omega) none 0 0 [] ⟨rfl,fun i hi=>by omega⟩ (by omega) (fun h=>absurd h (by omega))
   have HZ:Hid _:=AI hfl (AI (fun i h1 h2=>(P.no i h1 (.inl h2)).1) hfit)
   clear P hM hS h3 hl hfit hms HM HMO hl0 hfl
   go_wp2_with fail
   refine hen.mono ?_
   rintro e V ⟨rfl,tag',lv',R',lvv,v,h5,-⟩
   clear hen cb
   go_wp2
   go_ret
   exact⟨X,sz,O,rfl,HZ.out.2.1,tag',lv',R',_,_,0,_,_,h5,⟨Int.le_refl _,by decide⟩,fun _=>FI.one (m:=m) (f:=0) (by decide) HZ.out.1 HZ.out.2.2⟩
theorem bGw (n:Int):-9223372036854775808≤wrap64 n∧wrap64 n≤9223372036854775807:=by
 unfold wrap64
 omega
theorem aTu (E:Ev)(ks o r:List UInt8)(par:Nat→Nat)(op a:Nat)(pl nx b:Int)(tag:Nat→Nat)(W:World)(h:MT E ks tag W)(hst:0≤E.st∧E.st≤9)(hp:iM E.w0)(hop:op=18∨op=19∨op=20∨op=21∨op=22∨op=23∨op=24∨op=25∨op=26∨op=27∨op=28∨op=29∨op=30∨op=31∨op=32∨op=33∨op=34)(ha:after par op a ks=some (o,r)) :
  Calls prog 41 #[ptr E.X,spV pl nx op a b] W (OpP E o tag W):=by
 obtain⟨top,rfl,hw,rfl,hl⟩:=gU ha
 clear ha
 have HM:Hid _:=fun ks (h:MT E ks tag W)=>(ML.start h hst).new (spO pl nx op a b)
 rcases hop with rfl | rfl | rfl | rfl | rfl | rfl | rfl | rfl | rfl | rfl | rfl | rfl | rfl | rfl | rfl | rfl | rfl
 iterate 5
  ·obtain⟨x,y,rfl,hx,hy⟩:=oC (show leS top [110,110] from hw)
   obtain rfl:=qT hx
   obtain rfl:=qT hy
   rw[show r++[110,110]=(r++[110])++[110] by simp] at h
   have hl:r.length<1024:=by have:(r++[110]).length≤1024:=hl;simp at this;omega
   have M:=HM.out _ h
   clear h hw
   go_enter func41,ntmps41
   go_wp2_with fail
   refine (M.number).mono ?_
   rintro e W2 ⟨y,rfl,hy,M2⟩
   clear M
   go_wp2_with fail
   refine (M2.number).mono ?_
   rintro e W3 ⟨x,rfl,hx,M3⟩
   clear M2
   have q2:=M3.cell (List.mem_cons_self ..) 2
   simp at q2
   go_wp2_with fail
   refine Calls.mono (aSv _ x y (by decide) W3) ?_
   rintro e W4 ⟨⟨n,st,rfl,hn0,hn1,hs⟩,hw⟩
   replace hw:=hw.symm
   subst hw
   clear q2
   go_wp2_with fail
   refine (M3.ends (by omega)).mono ?_
   rintro e W4 ⟨rfl,M4⟩
   clear M3
   go_wp2_with fail
   refine (M4.whole _).mono ?_
   rintro e W5 ⟨rfl,M5⟩
   clear M4
   go_wp2_with fail
   refine (M5.put 110 nE (iT (by omega)) hl).mono ?_
   rintro e W6 ⟨rfl,M6⟩
   clear M5
   go_wp2
   go_end0
   exact⟨rfl,M6.drop⟩
 ·obtain⟨x,rfl,hx⟩:=dU (show leS top [110] from hw)
  obtain rfl:=qT hx
  have hl:r.length<1024:=by have:(r++[110]).length≤1024:=hl;simp at this;omega
  have M:=HM.out _ h
  clear h hw
  go_enter func41,ntmps41
  go_wp2_with fail
  refine (M.number).mono ?_
  rintro e W2 ⟨x,rfl,hx,M2⟩
  clear M
  go_wp2_with fail
  refine (M2.whole _).mono ?_
  rintro e W3 ⟨rfl,M3⟩
  clear M2
  go_wp2_with fail
  refine (M3.put 110 nE (iT (bGw _)) hl).mono ?_
  rintro e W4 ⟨rfl,M4⟩
  clear M3
  go_wp2
  go_end0
  exact⟨rfl,M4.drop⟩
 ·obtain⟨x,rfl,hx⟩:=dU (show leS top [110] from hw)
  obtain rfl:=qT hx
  have hl:r.length<1024:=by have:(r++[110]).length≤1024:=hl;simp at this;omega
  have M:=HM.out _ h
  clear h hw
  go_enter func41,ntmps41
  go_wp2_with fail
  refine (M.number).mono ?_
  rintro e W2 ⟨x,rfl,hx,M2⟩
  clear M
  go_wp2_with fail
  refine (M2.truth _).mono ?_
  rintro e W3 ⟨⟨tv,rfl,ht0,ht1⟩,M3⟩
  clear M2
  go_wp2_with fail
  refine (M3.whole _).mono ?_
  rintro e W4 ⟨rfl,M4⟩
  clear M3
  go_wp2_with fail
  refine (M4.put 110 nE (iT (by omega)) hl).mono ?_
  rintro e W5 ⟨rfl,M5⟩
  clear M4
  go_wp2
  go_end0
  exact⟨rfl,M5.drop⟩
 ·obtain⟨x,y,rfl,hx,hy⟩:=oC (show leS top [116,116] from hw)
  obtain rfl:=jU hx
  obtain rfl:=jU hy
  rw[show r++[116,116]=(r++[116])++[116] by simp] at h
  have hl:r.length<1024:=by have:(r++[116]).length≤1024:=hl;simp at this;omega
  have M:=HM.out _ h
  clear h hw
  go_enter func41,ntmps41
  go_wp2_with fail
  refine (M.text).mono ?_
  rintro e W2 ⟨t,rfl,ht,M2⟩
  clear M
  go_wp2_with fail
  refine (M2.text).mono ?_
  rintro e W3 ⟨u,rfl,hu,M3⟩
  clear M2
  go_wp2_with fail
  refine (aFp u t hu ht W3).mono ?_
  rintro e W4 ⟨⟨j,st,rfl,hj,hs⟩,hw⟩
  replace hw:=hw.symm
  subst hw
  go_wp2_with fail
  refine (M3.ends (by omega)).mono ?_
  rintro e W4 ⟨rfl,M4⟩
  clear M3
  go_wp2_with fail
  refine (M4.words _).mono ?_
  rintro e W5 ⟨rfl,M5⟩
  clear M4
  go_wp2_with fail
  refine (M5.put 116 O3 (vB (by omega)) hl).mono ?_
  rintro e W6 ⟨rfl,M6⟩
  clear M5
  go_wp2
  go_end0
  exact⟨rfl,M6.drop⟩
 ·obtain⟨x,rfl,hx⟩:=dU (show leS top [97] from hw)
  replace hx:=lP hx
  have hl:r.length<1024:=by have:(r++[110]).length≤1024:=hl;simp at this;omega
  have M:=HM.out _ h
  clear h hw
  go_enter func41,ntmps41
  go_wp2_with fail
  refine (M.value hx).mono ?_
  rintro e W2 ⟨d,n,s,rfl,hv,M2⟩
  clear M
  replace M2:=M2.new (.cells #[.int .i64 d,.int .i64 n,.string s] 118)
  go_wp2_with fail
  refine (xA d n s hv.1 _).mono ?_
  rintro e W3 ⟨⟨m,rfl,hm0,hm1⟩,hf⟩
  have M3:=M2.frm hf
  clear M2 hf
  go_wp2_with fail
  refine (M3.whole _).mono ?_
  rintro e W4 ⟨rfl,M4⟩
  clear M3
  go_wp2_with fail
  refine (M4.put 110 nE (iT (⟨hm0,hm1⟩)) hl).mono ?_
  rintro e W5 ⟨rfl,M5⟩
  clear M4
  go_wp2
  go_end0
  exact⟨rfl,M5.drop⟩
 ·obtain⟨x,rfl,hx⟩:=dU (show leS top [97] from hw)
  replace hx:=lP hx
  have hl:r.length<1024:=by have:(r++[116]).length≤1024:=hl;simp at this;omega
  have M:=HM.out _ h
  clear h hw
  go_enter func41,ntmps41
  go_wp2_with fail
  refine (M.value hx).mono ?_
  rintro e W2 ⟨d,n,s,rfl,hv,M2⟩
  clear M
  replace M2:=M2.new (.cells #[.int .i64 d,.int .i64 n,.string s] 118)
  go_wp2_with fail
  refine (uF d n s hv.1 _ (hp.fr M2.fr)).mono ?_
  rintro e W3 ⟨⟨m,rfl,hm⟩,hf⟩
  have M3:=M2.frm hf
  clear M2 hf
  go_wp2_with fail
  refine (M3.words _).mono ?_
  rintro e W4 ⟨rfl,M4⟩
  clear M3
  go_wp2_with fail
  refine (M4.put 116 O3 (vB (hm)) hl).mono ?_
  rintro e W5 ⟨rfl,M5⟩
  clear M4
  go_wp2
  go_end0
  exact⟨rfl,M5.drop⟩
 ·obtain⟨x,rfl,hx⟩:=dU (show leS top [97] from hw)
  replace hx:=lP hx
  have hl:r.length<1024:=by have:(r++[110]).length≤1024:=hl;simp at this;omega
  have M:=HM.out _ h
  clear h hw
  go_enter func41,ntmps41
  go_wp2_with fail
  refine (M.value hx).mono ?_
  rintro e W2 ⟨d,n,s,rfl,hv,M2⟩
  clear M
  replace M2:=M2.new (.cells #[.int .i64 d,.int .i64 n,.string s] 118)
  go_wp2_with fail
  refine (aKe d n s hv.1 _).mono ?_
  rintro e W3 ⟨⟨m,rfl⟩,hf⟩
  have M3:=M2.frm hf
  clear M2 hf
  go_wp2_with fail
  refine (M3.truth _).mono ?_
  rintro e W4 ⟨⟨tv,rfl,ht0,ht1⟩,M4⟩
  clear M3
  go_wp2_with fail
  refine (M4.whole _).mono ?_
  rintro e W5 ⟨rfl,M5⟩
  clear M4
  go_wp2_with fail
  refine (M5.put 110 nE (iT (by omega)) hl).mono ?_
  rintro e W6 ⟨rfl,M6⟩
  clear M5
  go_wp2
  go_end0
  exact⟨rfl,M6.drop⟩
 iterate 6
  ·obtain⟨x,y,rfl,hx,hy⟩:=oC (show leS top [97,97] from hw)
   replace hx:=lP hx
   replace hy:=lP hy
   rw[show r++[x,y]=(r++[x])++[y] by simp] at h
   have hl:r.length<1024:=by have:(r++[110]).length≤1024:=hl;simp at this;omega
   have M:=HM.out _ h
   clear h hw
   go_enter func41,ntmps41
   go_wp2_with fail
   refine (M.value hy).mono ?_
   rintro e W2 ⟨d,n,s,rfl,hv,M2⟩
   clear M
   replace M2:=M2.new (.cells #[.int .i64 d,.int .i64 n,.string s] 118)
   go_wp2_with fail
   refine (M2.value hx).mono ?_
   rintro e W3 ⟨d',n',s',rfl,hv',M3⟩
   clear M2
   replace M3:=M3.new (.cells #[.int .i64 d',.int .i64 n',.string s'] 118)
   have q2:=M3.cell (List.mem_cons_of_mem _ (List.mem_cons_of_mem _ (List.mem_cons_self ..))) 2
   simp at q2
   have p0:=M3.cell (List.mem_cons_of_mem _ (List.mem_cons_self ..)) 0
   have p1:=M3.cell (List.mem_cons_of_mem _ (List.mem_cons_self ..)) 1
   have p2:=M3.cell (List.mem_cons_of_mem _ (List.mem_cons_self ..)) 2
   simp at p0 p1 p2
   go_wp2_with fail
   refine Calls.mono (Zo3 _ (by decide) d' n' s' d n s hv'.1 hv.1 _ (hp.fr M3.fr)) ?_
   rintro e W4 ⟨⟨m,rfl,hm0,hm1⟩,hf⟩
   have M4:=M3.frm hf
   clear M3 hf q2 p0 p1 p2
   go_wp2_with fail
   refine (M4.whole _).mono ?_
   rintro e W5 ⟨rfl,M5⟩
   clear M4
   go_wp2_with fail
   refine (M5.put 110 nE (iT (⟨hm0,hm1⟩)) hl).mono ?_
   rintro e W6 ⟨rfl,M6⟩
   clear M5
   go_wp2
   go_end0
   exact⟨rfl,M6.drop⟩
end Go.Proofs.YtgpamchpeamnfaaGreatDoor
