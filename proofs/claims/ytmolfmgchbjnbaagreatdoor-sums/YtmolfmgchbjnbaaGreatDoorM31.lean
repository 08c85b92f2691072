import Derived.Test.YtmolfmgchbjnbaaGreatDoorM30
set_option linter.unusedSimpArgs false
set_option linter.unusedVariables false
set_option maxRecDepth 100000
set_option maxHeartbeats 40000000
open _root_.Go.Proofs.Tryz
namespace Go.Proofs.YtmolfmgchbjnbaaGreatDoor
open Go.RowKit
open Wire Flow Mach
namespace Tok
def pos (A:List Ln):Nat:=(A.flatMap lnB).length
theorem dec_line {m:Mo}{f q:Nat}{L A B:List Ln}{x:Ln} (hc:codeOf m f=L.flatMap lnB) (hq:locsOf m f=q) (hL:L=A++x :: B) (hx:Fit m f q x):decodeL m f (locsOf m f) (codeOf m f) (pos A)=.inr ⟨pos A,pos (A++[x]),x.1,(x.2.headD 0).toNat,0⟩:=by
 have e1:codeOf m f=A.flatMap lnB++(lnB x++B.flatMap lnB):=by rw[hc,hL,List.flatMap_append,List.flatMap_cons]
 have hx0:0<(lnB x).length:=by simp[lnB]
 have:=line_decode (m:=m) (f:=f) (locs:=q) (c:=codeOf m f) (i:=pos A) (x:=x) (r:=B.flatMap lnB) (by rw[e1];unfold pos;simp only[Lla];omega) (by rw[e1];exact List.drop_left) hx;rw[hq,this];unfold stpOf pos;rw[List.flatMap_append,Lla];simp
section
variable {E:Env}{L A B:List Ln}{n k u:Nat}{S:Mach.St}{w:Wd}{rest:List Cell}{c:Int}
theorem push_num (hE:SmE E)(hM:ModOk E.mo)(hwr:∀ z,E.wr z=z)(hc:codeOf E.mo 0=L.flatMap lnB)(hq:locsOf E.mo 0=0){s:Bool}(hn:n≤1000000000)(hL:L=A++(0,[((2*n:Nat):Int)]) :: (negL s++B))(h:Mach.Steps E k S ⟨w,[⟨0,pos A,[],rest⟩],0,c,u⟩) :
  ∃ k' u',k'≤k+2∧Mach.Steps E k' S ⟨w,[⟨0,pos (A++[(0,[((2*n:Nat):Int)])]++negL s),[],rest++[cv (whole (cond s (-(n:Int)) n))]⟩],0,c,u'⟩:=by
 have hs:signedN (2*n)=(n:Int):=by unfold signedN;rw[if_pos (by omega),Nat.mul_div_cancel_left _ (by decide)]
 have d:=dec_line (f:=0) (q:=0) (x:=(0,[((2*n:Nat):Int)])) hc hq hL (fit_num (by omega));rw[show rest=rest++[] by simp] at h;have h1:=h.op (top:=[]) hE hM d rfl rfl (w':=w) (locs':=[]) (top':=[cv (whole (n:Int))]) (go:=none) (by
  show Eff.put _ _ (whole (signedN (Int.toNat ((2*n:Nat):Int))))=_;rw[Int.toNat_natCast,hs];rfl)
 cases s with
 | false=>exact⟨k+1,u+1,by omega,by simpa [negL] using h1⟩
 | true=>
  have d2:=dec_line (f:=0) (q:=0) (A:=A++[(0,[((2*n:Nat):Int)])]) (B:=B) (x:=(23,[])) hc hq (by rw[hL];simp[negL]) (fit_op rfl);have h2:=h1.op (rest:=rest) (top:=[cv (whole (n:Int))]) hE hM d2 rfl rfl (w':=w) (locs':=[]) (top':=[cv (whole (-(n:Int)))]) (go:=none) (by
   show Eff.put _ _ (whole (E.wr (-(n:Int))))=_;rw[hwr];rfl)
  exact⟨k+2,u+2,by omega,h2⟩
theorem print_end (hE:SmE E)(hM:ModOk E.mo)(hc:codeOf E.mo 0=L.flatMap lnB)(hq:locsOf E.mo 0=0)(hc2:codeOf E.mo 2=[52])(hq2:locsOf E.mo 2=0){z:Int}(hL:L=A++[(27,[]),(44,[1]),(52,[])])(hr:w.recs.drop w.nr=[])(ho:w.out=none0)(hz:(E.itoa z).size≤100)(h:Mach.Steps E k S ⟨w,[⟨0,pos A,[],[cv (whole z)]⟩],0,c,u⟩) :
  ∃ D,Mach.Steps E (k+4) S D∧D.st=1∧D.code=c∧D.w.out=⟨((bl (E.itoa z))++[10]).toArray⟩:=by
 have d1:=dec_line (f:=0) (q:=0) (A:=A) (B:=[(44,[1]),(52,[])]) (x:=(27,[])) hc hq hL (fit_op rfl);have h1:=h.op (rest:=[]) (top:=[cv (whole z)]) hE hM d1 rfl rfl (w':=w) (locs':=[]) (top':=[cv (words (E.itoa z))]) (go:=none) rfl;have d2:=dec_line (f:=0) (q:=0) (A:=A++[(27,[])]) (B:=[(52,[])]) (x:=(44,[1])) hc hq (by rw[hL];simp) fit_print;have hp:printW w [E.itoa z]=({ w with out:=⟨((bl (E.itoa z))++[10]).toArray⟩ },0):=by
  have hbl:=bl_length (E.itoa z);unfold printW;rw[ho,if_neg (by simp only[joinF,none0,ByteArray.size];simp;rw[hbl];omega)];simp[joinF,none0]
 have h2:=h1.op (rest:=[]) (top:=[cv (words (E.itoa z))]) hE hM d2 rfl rfl (w':={ w with out:=⟨((bl (E.itoa z))++[10]).toArray⟩ }) (locs':=[]) (top':=[]) (go:=none) (by
  show Eff.off (printW w [E.itoa z]).1 _ (printW w [E.itoa z]).2=_;rw[hp];rfl)
 have d3:=dec_line (f:=0) (q:=0) (A:=A++[(27,[])]++[(44,[1])]) (B:=[]) (x:=(52,[])) hc hq (by rw[hL];simp) (fit_end (by decide));have h3:=h2.over_last hE hM d3 (by decide) hr;have d4:decodeL E.mo 2 (locsOf E.mo 2) (codeOf E.mo 2) 0=.inr ⟨0,1,52,0,0⟩:=by rw[hc2,hq2];rfl
 have e4:enter E.mo 2 []=⟨2,0,[],[]⟩:=by unfold enter;rw[hq2];rfl
 rw[e4] at h3;have h4:=h3.over_end hE hM d4;exact⟨_,h4,rfl,rfl,rfl⟩
end
end Tok
open Go.RowKit
open Wire Flow Mach
namespace Tok
def reckN (g:UInt8) (a b:Int):Int:=if g=43 then a+b else if g=45 then a-b else if g=42 then a*b else if g=60 then (if a<b then 1 else 0) else if g=37 then a.tmod b else a.tdiv b
def reckL (g:UInt8) (a b:Int):Int × Nat:=if (g=47∨g=37)∧b=0 then (0,3) else if reckN g a b>1000000000∨reckN g a b < -1000000000 then (0,4) else (reckN g a b,1)
def lim (n:Int) (k:Nat):Int × Nat:=if n>1000000000∨n < -1000000000 then (0,4) else (n,k)
theorem lim_key (n:Int):lim n 0=if (lim n 1).2=1 then ((lim n 1).1,0) else (0,(lim n 1).2):=by
 unfold lim;by_cases h:n>1000000000∨n < -1000000000
 ·rw[if_pos h,if_pos h];rfl
 rw[if_neg h,if_neg h];rfl
theorem reckL_zero {g:UInt8}(hg:g=47∨g=37)(a:Int):reckL g a 0=(0,3):=by unfold reckL;rw[if_pos ⟨hg,rfl⟩]
theorem reckL_lim {g:UInt8}{a b:Int} (h:¬ ((g=47∨g=37)∧b=0)):reckL g a b=lim (reckN g a b) 1:=by unfold reckL;rw[if_neg h];rfl
theorem reck_sum {m:Mo}{g:UInt8} (hg:g ∈ [43,45,42,47,37]) (a b:Int):sumOp (envP m) (opN g) a b=if (reckL g a b).2=1 then ((reckL g a b).1,0) else (0,(reckL g a b).2):=by
 have ht:a-a.tdiv b*b=a.tmod b:=by rw[Int.tmod_def,Int.mul_comm]
 simp only[List.mem_cons,List.not_mem_nil,or_false] at hg;rcases hg with rfl | rfl | rfl | rfl | rfl
 ·rw[reckL_lim (by simp)];exact lim_key (a+b)
 ·rw[reckL_lim (by simp)];exact lim_key (a-b)
 ·rw[reckL_lim (by simp)];exact lim_key (a*b)
 ·by_cases hb:b=0
  ·subst hb;rw[reckL_zero (.inl rfl)];rfl
  rw[reckL_lim (fun h=>hb h.2),← lim_key];unfold sumOp;rw[if_neg (by rintro (⟨-,h⟩ | ⟨-,h⟩) <;> exact hb h)]
  rfl
 by_cases hb:b=0
 ·subst hb;rw[reckL_zero (.inr rfl)];rfl
 rw[reckL_lim (fun h=>hb h.2),← lim_key];unfold sumOp;rw[if_neg (by rintro (⟨-,h⟩ | ⟨-,h⟩) <;> exact hb h)]
 show lim (a-a.tdiv b*b) 0=lim (a.tmod b) 0;rw[ht]
theorem op_run {E:Env}{m:Mo} (hEm:E=envP m) {L A:List Ln}{k u:Nat}{S:Mach.St}{w:Wd}{c:Int} (hE:SmE E) (hM:ModOk E.mo) (hc:codeOf E.mo 0=L.flatMap lnB) (hq:locsOf E.mo 0=0) {g:UInt8} (hg:g ∈ opsL) {a b:Int}{B:List Ln} (hL:L=A++(opN g,[]) :: B) (h:Mach.Steps E k S ⟨w,[⟨0,pos A,[],[cv (whole a),cv (whole b)]⟩],0,c,u⟩) :
  ((reckL g a b).2=1∧Mach.Steps E (k+1) S ⟨w,[⟨0,pos (A++[(opN g,[])]),[],[cv (whole (reckL g a b).1)]⟩],0,c,u+1⟩)∨((reckL g a b).2≠1∧∃ frs,Mach.Steps E (k+1) S ⟨w,frs,(reckL g a b).2,0,u+1⟩∧(reckL g a b).2≠0):=by
 have d:=dec_line (f:=0) (q:=0) (x:=(opN g,[])) hc hq hL (fit_op (opN_ok hg).1);by_cases h60:g=60
 ·subst h60;have e1:reckL 60 a b=(if a<b then 1 else 0,1):=by
   rw[reckL_lim (by simp)];show lim (if a<b then 1 else 0) 1=_;unfold lim;rw[if_neg (by split <;> omega)]
  refine .inl ⟨by rw[e1],?_⟩;rw[e1];refine h.op (rest:=[]) (top:=[cv (whole a),cv (whole b)]) hE hM d rfl rfl (w':=w) (locs':=[]) (top':=[cv (whole (if a<b then 1 else 0))]) (go:=none) ?_;show Eff.put _ _ (whole (Mach.truth (Mach.cmpOp 29 (Mach.cmpI a b))))=_;have e2:Mach.truth (Mach.cmpOp 29 (Mach.cmpI a b))=if a<b then 1 else 0:=by
   unfold Mach.cmpI;by_cases hab:a<b
   ·rw[if_pos hab,if_pos hab];rfl
   rw[if_neg hab,if_neg hab];split <;> rfl
  rw[e2];rfl
 have hg5:g ∈ [43,45,42,47,37]:=by simp[opsL] at hg ⊢;grind
 have hs:=reck_sum (m:=m) hg5 a b;rw[← hEm] at hs;have he:eff E w [] (opN g) 0 0 [cv (whole a),cv (whole b)]=⟨w,[],[cv (whole (sumOp E (opN g) a b).1)],(sumOp E (opN g) a b).2,0,none⟩:=by
  simp only[List.mem_cons,List.not_mem_nil,or_false] at hg5;rcases hg5 with rfl | rfl | rfl | rfl | rfl <;> rfl
 have hwt:([cv (whole a),cv (whole b)]:List Cell).length=(want (parOf E.mo) (opN g) 0).length:=by
  simp only[List.mem_cons,List.not_mem_nil,or_false] at hg5;rcases hg5 with rfl | rfl | rfl | rfl | rfl <;> rfl
 have hop:(opN g==50 || opN g==51 || opN g==52)=false:=by
  simp only[List.mem_cons,List.not_mem_nil,or_false] at hg5;rcases hg5 with rfl | rfl | rfl | rfl | rfl <;> rfl
 by_cases h1:(reckL g a b).2=1
 ·rw[if_pos h1] at hs;rw[hs] at he;exact .inl ⟨h1,h.op (rest:=[]) (top:=[cv (whole a),cv (whole b)]) hE hM d hwt hop he⟩
 rw[if_neg h1] at hs;rw[hs] at he;have h0:(reckL g a b).2≠0:=by
  unfold reckL;split
  ·decide
  split <;> simp
 exact .inr ⟨h1,_,h.fault (rest:=[]) (top:=[cv (whole a),cv (whole b)]) hE hM d hwt hop h0 he,h0⟩
theorem sum_run {g:UInt8}(hg:g ∈ opsL){a b:Int}(ha:a.natAbs≤1000000000)(hb:b.natAbs≤1000000000)(hG:GoodM (sumMo g a b) 0 0) :
  ∃ D,Plays (envP (sumMo g a b)) 100000 (begin_ (sumMo g a b) [] []) D∧D.st=(reckL g a b).2∧D.code=0∧D.w.out=if (reckL g a b).2=1 then ⟨(Lib.itoa (reckL g a b).1++[10]).toArray⟩ else none0:=by
 obtain⟨E,hEm⟩:∃ E,E=envP (sumMo g a b):=⟨_,rfl⟩;have hmo:E.mo=sumMo g a b:=by rw[hEm];rfl
 have hE:SmE E:=by rw[hEm];exact hG.goE.sm
 have hM:ModOk E.mo:=by rw[hmo];exact hG.ok
 have hwr:∀ z,E.wr z=z:=by rw[hEm];exact fun _=>rfl
 have hc:codeOf E.mo 0=(sumL g (decide (a<0)) (decide (b<0)) ((2*a.natAbs:Nat):Int) ((2*b.natAbs:Nat):Int)).flatMap lnB:=by rw[hmo];show bl (lnsC _)=_;simp[lnsC,bl]
 have hq:locsOf E.mo 0=0:=by rw[hmo];rfl
 have hc2:codeOf E.mo 2=[52]:=by rw[hmo];rfl
 have hq2:locsOf E.mo 2=0:=by rw[hmo];rfl
 have hs0:Mach.Steps E 0 (begin_ (sumMo g a b) [] []) ⟨⟨[],0,[],0,none0,[],none0,[],[]⟩,[⟨0,pos [],[],[]⟩],0,0,0⟩:=by
  have:=Mach.Steps.refl (E:=E) (good_begin (E:=E) hM (recs:=[]) (draws:=[]) (by simp) (by simp) (by simp) (by simp));rw[hmo] at this;exact this
 rw[← hEm];obtain⟨k1,u1,hk1,h1⟩:=push_num (A:=[]) (B:=[(0,[((2*b.natAbs:Nat):Int)])]++negL (decide (b<0))++[(opN g,[]),(27,[]),(44,[1]),(52,[])]) (s:=decide (a<0)) hE hM hwr hc hq ha (by simp[sumL]) hs0;obtain⟨k2,u2,hk2,h2⟩:=push_num (A:=[]++[(0,[((2*a.natAbs:Nat):Int)])]++negL (decide (a<0))) (B:=[(opN g,[]),(27,[]),(44,[1]),(52,[])]) (s:=decide (b<0)) hE hM hwr hc hq hb (by simp[sumL]) h1;have sgn:∀ z:Int,cond (decide (z<0)) (-(z.natAbs:Int)) (z.natAbs:Int)=z:=fun z=>by
  by_cases hz:z<0
  ·rw[decide_eq_true hz];show -(z.natAbs:Int)=z;omega
  rw[decide_eq_false hz];show (z.natAbs:Int)=z;omega
 rw[sgn,sgn] at h2;have h2':Mach.Steps E k2 (begin_ (sumMo g a b) [] []) ⟨⟨[],0,[],0,none0,[],none0,[],[]⟩,[⟨0,pos ([]++[(0,[((2*a.natAbs:Nat):Int)])]++negL (decide (a<0))++[(0,[((2*b.natAbs:Nat):Int)])]++negL (decide (b<0))),[],[cv (whole a),cv (whole b)]⟩],0,0,u2⟩:=h2;rcases op_run hEm hE hM hc hq hg (B:=[(27,[]),(44,[1]),(52,[])]) (by simp[sumL]) h2' with ⟨hr,h3⟩ | ⟨hr,frs,h3,h0⟩
 ·have hsz:(E.itoa (reckL g a b).1).size≤100:=by
   have hn:(reckL g a b).1.natAbs≤1000000000:=by
    unfold reckL;split
    ·simp
    split
    ·simp
    ·rename_i q;simp at q ⊢;omega
   have:=itoa_len (a:=(reckL g a b).1) 9 (by omega);rw[hEm];show (itoaB _).size≤100;unfold itoaB;show (Lib.itoa _).toArray.size≤100;simp;omega
  obtain⟨D,hD,d1,d2,d3⟩:=print_end hE hM hc hq hc2 hq2 (by simp[sumL]) rfl rfl hsz h3;refine⟨D,hD.till (by rw[d1];decide) (by omega),by rw[d1,hr],d2,?_⟩;rw[if_pos hr,d3,hEm];show (⟨(bl (itoaB _)++[10]).toArray⟩:BA)=_;simp[itoaB,bl]
 exact⟨_,h3.till h0 (by omega),rfl,rfl,by rw[if_neg hr]⟩
end Tok
open Go.RowKit
open Wire Flow Mach
namespace Tok
section
variable {E:Env}{n:Nat}{S:Mach.St}{w w':Wd}{f at_:Nat}{locs locs':List Val}{rest top top':List Cell}{c:Int}{u:Nat}{i:Stp}{go:Option Nat}{low:List Frm}
theorem opL (h:Mach.Steps E n S ⟨w,low++[⟨f,at_,locs,rest++top⟩],0,c,u⟩)(hE:SmE E)(hM:ModOk E.mo)(hd:decodeL E.mo f (locsOf E.mo f) (codeOf E.mo f) at_=.inr i)(hl:top.length=(want (parOf E.mo) i.op i.a).length)(hop:(i.op==50 || i.op==51 || i.op==52)=false)(he:eff E w locs i.op i.a i.b top=⟨w',locs',top',0,0,go⟩) :
  Mach.Steps E (n+1) S ⟨w',low++[⟨f,go.getD i.nx,locs',rest++top'⟩],0,c,u+1⟩:=by
 have h2:=h.next hE hM rfl (low:=low) (fr:=⟨f,at_,locs,rest++top⟩) rfl hd rfl hl;simp only[Bool.or_eq_false_iff,beq_eq_false_iff_ne] at hop;unfold Mach.does at h2;rw[if_neg hop.1.1,if_neg hop.1.2,if_neg hop.2] at h2;simp only[he] at h2;exact h2
theorem faultL (h:Mach.Steps E n S ⟨w,low++[⟨f,at_,locs,rest++top⟩],0,c,u⟩)(hE:SmE E)(hM:ModOk E.mo)(hd:decodeL E.mo f (locsOf E.mo f) (codeOf E.mo f) at_=.inr i)(hl:top.length=(want (parOf E.mo) i.op i.a).length)(hop:(i.op==50 || i.op==51 || i.op==52)=false){st:Nat}{code:Int} (hst:st≠0) (he:eff E w locs i.op i.a i.b top=⟨w',locs',top',st,code,go⟩) :
  Mach.Steps E (n+1) S ⟨w',low++[⟨f,at_,locs,rest++top⟩],st,code,u+1⟩:=by
 have h2:=h.next hE hM rfl (low:=low) (fr:=⟨f,at_,locs,rest++top⟩) rfl hd rfl hl;simp only[Bool.or_eq_false_iff,beq_eq_false_iff_ne] at hop;unfold Mach.does at h2;rw[if_neg hop.1.1,if_neg hop.1.2,if_neg hop.2] at h2;simp only[he,ne_eq,hst,not_false_eq_true,if_true] at h2;exact h2
theorem callL {a nx:Nat}(h:Mach.Steps E n S ⟨w,low++[⟨f,at_,locs,rest++top⟩],0,c,u⟩)(hE:SmE E)(hM:ModOk E.mo)(hd:decodeL E.mo f (locsOf E.mo f) (codeOf E.mo f) at_=.inr ⟨at_,nx,50,a,0⟩)(hl:top.length=(want (parOf E.mo) 50 a).length) :
  (20<low.length+1∧∃ frs,Mach.Steps E (n+1) S ⟨w,frs,9,c,u+1⟩)∨(low.length+1≤20∧Mach.Steps E (n+1) S ⟨w,(low++[⟨f,nx,locs,rest⟩])++[enter E.mo a (top.map Cell.v)],0,c,u+1⟩):=by
 have h2:=h.next hE hM rfl (low:=low) (fr:=⟨f,at_,locs,rest++top⟩) rfl hd rfl hl;unfold Mach.does at h2;rw[if_pos rfl] at h2;by_cases q:20<low.length+1
 ·rw[if_pos q] at h2;exact .inl ⟨q,_,h2⟩
 rw[if_neg q] at h2;refine .inr ⟨by omega,?_⟩;rw[List.append_assoc];exact h2
theorem retL {nx:Nat}{g:Frm}{v:Cell} (h:Mach.Steps E n S ⟨w,(low++[g])++[⟨f,at_,locs,[v]⟩],0,c,u⟩) (hE:SmE E) (hM:ModOk E.mo) (hd:decodeL E.mo f (locsOf E.mo f) (codeOf E.mo f) at_=.inr ⟨at_,nx,51,0,0⟩) :
  Mach.Steps E (n+1) S ⟨w,low++[⟨g.f,g.at_,g.locs,g.stk++[cv v.v]⟩],0,c,u+1⟩:=by
 have h2:=h.next hE hM rfl (low:=low++[g]) (fr:=⟨f,at_,locs,[v]⟩) rfl hd (rest:=[]) (top:=[v]) rfl rfl;unfold Mach.does at h2;rw[if_neg (show ¬ (51:Nat)=50 by decide),if_pos (show (51:Nat)=51 from rfl)] at h2;simp only[List.getLast?_append,List.getLast?_singleton,Option.some_or,List.dropLast_concat] at h2;exact h2
end
def fact:Nat→Nat
 | 0=>1
 | n+1=>(n+1)*fact n
theorem fact_pos:∀ n,0<fact n
 | 0=>by decide
 | n+1=>Nat.mul_pos (by omega) (fact_pos n)
theorem fact_le (n:Nat):fact n≤fact (n+1):=by
 have:=fact_pos n;simp only[fact];exact Nat.le_mul_of_pos_left _ (by omega)
def FacP (E:Env) (S:Mach.St) (w:Wd) (low:List Frm) (g:Frm) (n:Nat) (j:Nat) (D:Mach.St):Prop:=
 Mach.Steps E j S D∧D.w=w∧D.code=0∧((D.st=0∧low.length+1+n≤21∧fact n≤1000000000∧∃ u,D=⟨w,low++[⟨g.f,g.at_,g.locs,g.stk++[cv (whole (fact n:Nat))]⟩],0,0,u⟩)∨(D.st=4∧low.length+1+n≤21∧1000000000<fact n)∨(D.st=9∧21<low.length+1+n))
section
variable {E:Env}{a:Nat}{S:Mach.St}{w:Wd}
theorem fac_head (hmo:E.mo=facMo a)(hE:SmE E)(hM:ModOk E.mo){low:List Frm}{x:Int}{j u:Nat} (h:Mach.Steps E j S ⟨w,low++[⟨3,0,[whole x],[]⟩],0,0,u⟩):Mach.Steps E (j+4) S ⟨w,low++[⟨3,if x<2 then 7 else 11,[whole x],[]⟩],0,0,u+4⟩:=by
 have d0:decodeL E.mo 3 (locsOf E.mo 3) (codeOf E.mo 3) 0=.inr ⟨0,2,3,0,0⟩:=by rw[hmo];rfl
 have d2:decodeL E.mo 3 (locsOf E.mo 3) (codeOf E.mo 3) 2=.inr ⟨2,4,0,4,0⟩:=by rw[hmo];rfl
 have d4:decodeL E.mo 3 (locsOf E.mo 3) (codeOf E.mo 3) 4=.inr ⟨4,5,29,0,0⟩:=by rw[hmo];rfl
 have d5:decodeL E.mo 3 (locsOf E.mo 3) (codeOf E.mo 3) 5=.inr ⟨5,7,49,11,0⟩:=by rw[hmo];rfl
 have h1:=opL (rest:=[]) (top:=[]) h hE hM d0 rfl rfl (w':=w) (locs':=[whole x]) (top':=[cv (whole x)]) (go:=none) rfl;have h2:=opL (rest:=[cv (whole x)]) (top:=[]) h1 hE hM d2 rfl rfl (w':=w) (locs':=[whole x]) (top':=[cv (whole 2)]) (go:=none) rfl;have h3:=opL (rest:=[]) (top:=[cv (whole x),cv (whole 2)]) h2 hE hM d4 rfl rfl (w':=w) (locs':=[whole x]) (top':=[cv (whole (if x<2 then 1 else 0))]) (go:=none) (by
  show Eff.put _ _ (whole (Mach.truth (Mach.cmpOp 29 (Mach.cmpI x 2))))=_;have e2:Mach.truth (Mach.cmpOp 29 (Mach.cmpI x 2))=if x<2 then 1 else 0:=by
   unfold Mach.cmpI;by_cases hab:x<2
   ·rw[if_pos hab,if_pos hab];rfl
   rw[if_neg hab,if_neg hab];split <;> rfl
  rw[e2];rfl)
 by_cases hx:x<2
 ·rw[if_pos hx] at h3 ⊢;exact opL (rest:=[]) (top:=[cv (whole 1)]) h3 hE hM d5 rfl rfl (w':=w) (locs':=[whole x]) (top':=[]) (go:=none) rfl
 rw[if_neg hx] at h3 ⊢;exact opL (rest:=[]) (top:=[cv (whole 0)]) h3 hE hM d5 rfl rfl (w':=w) (locs':=[whole x]) (top':=[]) (go:=some 11) rfl
theorem fac_small (hmo:E.mo=facMo a)(hE:SmE E)(hM:ModOk E.mo){low:List Frm}{g:Frm}{x:Int} (hx:x<2) {j u:Nat} (h:Mach.Steps E j S ⟨w,(low++[g])++[⟨3,0,[whole x],[]⟩],0,0,u⟩):Mach.Steps E (j+7) S ⟨w,low++[⟨g.f,g.at_,g.locs,g.stk++[cv (whole 1)]⟩],0,0,u+7⟩:=by
 have d7:decodeL E.mo 3 (locsOf E.mo 3) (codeOf E.mo 3) 7=.inr ⟨7,9,0,2,0⟩:=by rw[hmo];rfl
 have d9:decodeL E.mo 3 (locsOf E.mo 3) (codeOf E.mo 3) 9=.inr ⟨9,11,48,24,0⟩:=by rw[hmo];rfl
 have d24:decodeL E.mo 3 (locsOf E.mo 3) (codeOf E.mo 3) 24=.inr ⟨24,25,51,0,0⟩:=by rw[hmo];rfl
 have h4:=fac_head hmo hE hM h;rw[if_pos hx] at h4;have h5:=opL (rest:=[]) (top:=[]) h4 hE hM d7 rfl rfl (w':=w) (locs':=[whole x]) (top':=[cv (whole 1)]) (go:=none) rfl;have h6:=opL (rest:=[cv (whole 1)]) (top:=[]) h5 hE hM d9 rfl rfl (w':=w) (locs':=[whole x]) (top':=[]) (go:=some 24) rfl;exact retL h6 hE hM d24
theorem fac_down (hmo:E.mo=facMo a)(hwr:∀ z,E.wr z=z)(hE:SmE E)(hM:ModOk E.mo){low:List Frm}{x:Int} (hx:¬ x<2) (hx2:x≤1000) {j u:Nat} (h:Mach.Steps E j S ⟨w,low++[⟨3,0,[whole x],[]⟩],0,0,u⟩):Mach.Steps E (j+10) S ⟨w,low++[⟨3,20,[whole x],[cv (whole x)]++[cv (whole (x-1))]⟩],0,0,u+10⟩:=by
 have d11:decodeL E.mo 3 (locsOf E.mo 3) (codeOf E.mo 3) 11=.inr ⟨11,13,3,0,0⟩:=by rw[hmo];rfl
 have d13:decodeL E.mo 3 (locsOf E.mo 3) (codeOf E.mo 3) 13=.inr ⟨13,14,26,0,0⟩:=by rw[hmo];rfl
 have d14:decodeL E.mo 3 (locsOf E.mo 3) (codeOf E.mo 3) 14=.inr ⟨14,16,3,0,0⟩:=by rw[hmo];rfl
 have d16:decodeL E.mo 3 (locsOf E.mo 3) (codeOf E.mo 3) 16=.inr ⟨16,17,26,0,0⟩:=by rw[hmo];rfl
 have d17:decodeL E.mo 3 (locsOf E.mo 3) (codeOf E.mo 3) 17=.inr ⟨17,19,0,2,0⟩:=by rw[hmo];rfl
 have d19:decodeL E.mo 3 (locsOf E.mo 3) (codeOf E.mo 3) 19=.inr ⟨19,20,19,0,0⟩:=by rw[hmo];rfl
 have h4:=fac_head hmo hE hM h;rw[if_neg hx] at h4;have h5:=opL (rest:=[]) (top:=[]) h4 hE hM d11 rfl rfl (w':=w) (locs':=[whole x]) (top':=[cv (whole x)]) (go:=none) rfl;have h6:=opL (rest:=[]) (top:=[cv (whole x)]) h5 hE hM d13 rfl rfl (w':=w) (locs':=[whole x]) (top':=[cv (whole x)]) (go:=none) rfl;have h7:=opL (rest:=[cv (whole x)]) (top:=[]) h6 hE hM d14 rfl rfl (w':=w) (locs':=[whole x]) (top':=[cv (whole x)]) (go:=none) rfl;have h8:=opL (rest:=[cv (whole x)]) (top:=[cv (whole x)]) h7 hE hM d16 rfl rfl (w':=w) (locs':=[whole x]) (top':=[cv (whole x)]) (go:=none) rfl;have h9:=opL (rest:=[cv (whole x),cv (whole x)]) (top:=[]) h8 hE hM d17 rfl rfl (w':=w) (locs':=[whole x]) (top':=[cv (whole 1)]) (go:=none) rfl;have e:sumOp E 19 x 1=(x-1,0):=by
  unfold sumOp;rw[if_neg (by simp)];simp only[hwr];show (if x-1>1000000000∨x-1 < -1000000000 then _ else _)=_;rw[if_neg (by omega)];rfl
 exact opL (rest:=[cv (whole x)]) (top:=[cv (whole x),cv (whole 1)]) h9 hE hM d19 rfl rfl (w':=w) (locs':=[whole x]) (top':=[cv (whole (x-1))]) (go:=none) (by
  show Eff.mk _ _ [cv (whole (sumOp E 19 x 1).1)] (sumOp E 19 x 1).2 _ _=_;rw[e])
theorem fac_call (hEm:E=envP (facMo a))(hE:SmE E)(hM:ModOk E.mo):∀ (n:Nat) (low:List Frm) (g:Frm) (j u:Nat),n≤100→low.length+1≤20→Mach.Steps E j S ⟨w,(low++[g])++[⟨3,0,[whole (n:Nat)],[]⟩],0,0,u⟩→∃ j' D,j'≤j+20*(n+1)∧FacP E S w low g n j' D:=by
 have hmo:E.mo=facMo a:=by rw[hEm];rfl
 have hwr:∀ z,E.wr z=z:=by rw[hEm];exact fun _=>rfl
 intro n;induction n with
 | zero=>
  intro low g j u hn hlow h;exact⟨_,_,by omega,fac_small hmo hE hM (by decide) h,rfl,rfl,.inl ⟨rfl,by omega,by decide,_,rfl⟩⟩
 | succ n ih=>
  intro low g j u hn hlow h;by_cases h0:n=0
  ·subst h0;exact⟨_,_,by omega,fac_small hmo hE hM (by decide) h,rfl,rfl,.inl ⟨rfl,by omega,by decide,_,rfl⟩⟩
  have hx:((n+1:Nat):Int)-1=(n:Nat):=by omega
  have h1:=fac_down hmo hwr hE hM (x:=((n+1:Nat):Int)) (by omega) (by omega) h;rw[hx] at h1;have dc:decodeL E.mo 3 (locsOf E.mo 3) (codeOf E.mo 3) 20=.inr ⟨20,22,50,3,0⟩:=by rw[hmo];rfl
  rcases callL h1 hE hM dc (by rw[hmo];rfl) with ⟨q,frs,h2⟩ | ⟨q,h2⟩
  ·simp only[Lla,List.length_singleton] at q;exact⟨_,_,by omega,h2,rfl,rfl,.inr (.inr ⟨rfl,by omega⟩)⟩
  simp only[Lla,List.length_singleton] at q;have e3:enter E.mo 3 (([cv (whole (n:Nat))]:List Cell).map Cell.v)=⟨3,0,[whole (n:Nat)],[]⟩:=by rw[hmo];rfl
  rw[e3] at h2;obtain⟨j2,D,hj,hS,hw,hcd,hD⟩:=ih (low++[g]) ⟨3,22,[whole ((n+1:Nat):Int)],[cv (whole ((n+1:Nat):Int))]⟩ _ _ (by omega) (by simp;omega) h2;simp only[Lla,List.length_singleton] at hD;have hmono:=fact_le n;rcases hD with ⟨hst,hl,hf,u2,rfl⟩ | ⟨hst,hl,hf⟩ | ⟨hst,hl⟩
  ·have d22:decodeL E.mo 3 (locsOf E.mo 3) (codeOf E.mo 3) 22=.inr ⟨22,23,26,0,0⟩:=by rw[hmo];rfl
   have d23:decodeL E.mo 3 (locsOf E.mo 3) (codeOf E.mo 3) 23=.inr ⟨23,24,20,0,0⟩:=by rw[hmo];rfl
   have d24:decodeL E.mo 3 (locsOf E.mo 3) (codeOf E.mo 3) 24=.inr ⟨24,25,51,0,0⟩:=by rw[hmo];rfl
   have h3:=opL (rest:=[cv (whole ((n+1:Nat):Int))]) (top:=[cv (whole (fact n:Nat))]) hS hE hM d22 rfl rfl (w':=w) (locs':=[whole ((n+1:Nat):Int)]) (top':=[cv (whole (fact n:Nat))]) (go:=none) rfl;have em:((n+1:Nat):Int)*(fact n:Nat)=(fact (n+1):Nat):=by simp only[fact];push_cast;rfl
   have es:sumOp E 20 ((n+1:Nat):Int) (fact n:Nat)=lim (fact (n+1):Nat) 0:=by
    unfold sumOp;rw[if_neg (by simp)];simp only[hwr];show lim (((n+1:Nat):Int)*(fact n:Nat)) 0=_;rw[em]
   by_cases hb:fact (n+1)≤1000000000
   ·have e1:lim (fact (n+1):Nat) 0=(((fact (n+1):Nat):Int),0):=by unfold lim;rw[if_neg (by omega)]
    have h4:=opL (rest:=[]) (top:=[cv (whole ((n+1:Nat):Int)),cv (whole (fact n:Nat))]) h3 hE hM d23 rfl rfl (w':=w) (locs':=[whole ((n+1:Nat):Int)]) (top':=[cv (whole (fact (n+1):Nat))]) (go:=none) (by
     show Eff.mk _ _ [cv (whole (sumOp E 20 ((n+1:Nat):Int) ((fact n:Nat):Int)).1)] (sumOp E 20 ((n+1:Nat):Int) ((fact n:Nat):Int)).2 _ _=_;rw[es,e1])
    have h5:=retL h4 hE hM d24;exact⟨_,_,by omega,h5,rfl,rfl,.inl ⟨rfl,by omega,hb,_,rfl⟩⟩
   have e1:lim (fact (n+1):Nat) 0=(0,4):=by unfold lim;rw[if_pos (by omega)]
   have h4:=faultL (rest:=[]) (top:=[cv (whole ((n+1:Nat):Int)),cv (whole (fact n:Nat))]) h3 hE hM d23 rfl rfl (st:=4) (code:=0) (by decide) (w':=w) (locs':=[whole ((n+1:Nat):Int)]) (top':=[cv (whole 0)]) (go:=none) (by
    show Eff.mk _ _ [cv (whole (sumOp E 20 ((n+1:Nat):Int) ((fact n:Nat):Int)).1)] (sumOp E 20 ((n+1:Nat):Int) ((fact n:Nat):Int)).2 _ _=_;rw[es,e1])
   exact⟨_,_,by omega,h4,rfl,rfl,.inr (.inl ⟨rfl,by omega,by omega⟩)⟩
  ·exact⟨j2,D,by omega,hS,hw,hcd,.inr (.inl ⟨hst,by omega,by omega⟩)⟩
  exact⟨j2,D,by omega,hS,hw,hcd,.inr (.inr ⟨hst,by omega⟩)⟩
def facR (k:Nat):Nat:=if k>20 then 9 else if fact k>1000000000 then 4 else 1
theorem fac_run {k:Nat}(hk:k≤29)(hG:GoodM (facMo (2*k)) 0 0) :
  ∃ D,Plays (envP (facMo (2*k))) 100000 (begin_ (facMo (2*k)) [] []) D∧D.st=facR k∧D.code=0∧D.w.out=if facR k=1 then ⟨(Lib.itoa (fact k:Nat)++[10]).toArray⟩ else none0:=by
 obtain⟨E,hEm⟩:∃ E,E=envP (facMo (2*k)):=⟨_,rfl⟩;have hmo:E.mo=facMo (2*k):=by rw[hEm];rfl
 have hE:SmE E:=by rw[hEm];exact hG.goE.sm
 have hM:ModOk E.mo:=by rw[hmo];exact hG.ok
 have hc:codeOf E.mo 0=(facL ((2*k:Nat):Int)).flatMap lnB:=by rw[hmo];show bl (lnsC _)=_;simp[lnsC,bl]
 have hq:locsOf E.mo 0=0:=by rw[hmo];rfl
 have hc2:codeOf E.mo 2=[52]:=by rw[hmo];rfl
 have hq2:locsOf E.mo 2=0:=by rw[hmo];rfl
 have hs0:Mach.Steps E 0 (begin_ (facMo (2*k)) [] []) ⟨⟨[],0,[],0,none0,[],none0,[],[]⟩,[]++[⟨0,pos [],[],[]++[]⟩],0,0,0⟩:=by
  have:=Mach.Steps.refl (E:=E) (good_begin (E:=E) hM (recs:=[]) (draws:=[]) (by simp) (by simp) (by simp) (by simp));rw[hmo] at this;exact this
 rw[← hEm];have hs:signedN (2*k)=(k:Int):=by unfold signedN;rw[if_pos (by omega),Nat.mul_div_cancel_left _ (by decide)]
 have d0:=dec_line (f:=0) (q:=0) (A:=[]) (B:=[(50,[3]),(27,[]),(44,[1]),(52,[])]) (x:=(0,[((2*k:Nat):Int)])) hc hq rfl (fit_num (by omega));have h1:=opL hs0 hE hM d0 rfl rfl (w':=⟨[],0,[],0,none0,[],none0,[],[]⟩) (locs':=[]) (top':=[cv (whole (k:Int))]) (go:=none) (by
  show Eff.put _ _ (whole (signedN (Int.toNat ((2*k:Nat):Int))))=_;rw[Int.toNat_natCast,hs];rfl)
 have d1:=dec_line (m:=E.mo) (f:=0) (q:=0) (A:=[(0,[((2*k:Nat):Int)])]) (B:=[(27,[]),(44,[1]),(52,[])]) (x:=(50,[3])) hc hq rfl (by rw[hmo];exact fit_call);rcases callL h1 hE hM d1 (by rw[hmo];rfl) with ⟨q,-⟩ | ⟨-,h2⟩
 ·exact absurd q (by decide)
 have e3:enter E.mo 3 (([cv (whole (k:Nat))]:List Cell).map Cell.v)=⟨3,0,[whole (k:Nat)],[]⟩:=by rw[hmo];rfl
 have h2':Mach.Steps E 2 (begin_ (facMo (2*k)) [] []) ⟨⟨[],0,[],0,none0,[],none0,[],[]⟩,([]++[⟨0,pos ([(0,[((2*k:Nat):Int)])]++[(50,[3])]),[],[]⟩])++[enter E.mo 3 (([cv (whole (k:Nat))]:List Cell).map Cell.v)],0,0,0+1+1⟩:=h2;rw[e3] at h2';obtain⟨j,D,hj,hS,hw,hcd,hD⟩:=fac_call hEm hE hM k [] _ 2 _ (by omega) (by decide) h2';rcases hD with ⟨hst,hl,hf,u2,rfl⟩ | ⟨hst,hl,hf⟩ | ⟨hst,hl⟩
 ·have hl:k≤20:=by simp at hl;omega
  have hr:facR k=1:=by unfold facR;rw[if_neg (by omega),if_neg (by omega)]
  have hsz:(E.itoa ((fact k:Nat):Int)).size≤100:=by
   have:=itoa_len (a:=((fact k:Nat):Int)) 9 (by omega);rw[hEm];show (Lib.itoa _).toArray.size≤100;simp;omega
  have hS':Mach.Steps E j (begin_ (facMo (2*k)) [] []) ⟨⟨[],0,[],0,none0,[],none0,[],[]⟩,[⟨0,pos ([(0,[((2*k:Nat):Int)])]++[(50,[3])]),[],[cv (whole ((fact k:Nat):Int))]⟩],0,0,u2⟩:=hS;obtain⟨D,hD,d1,d2,d3⟩:=print_end (L:=facL ((2*k:Nat):Int)) hE hM hc hq hc2 hq2 rfl rfl rfl hsz hS';refine⟨D,hD.till (by rw[d1];decide) (by omega),by rw[d1,hr],d2,?_⟩;rw[if_pos hr,d3,hEm];show (⟨(bl (itoaB _)++[10]).toArray⟩:BA)=_;simp[itoaB,bl]
 ·have hl:k≤20:=by simp at hl;omega
  have hr:facR k=4:=by unfold facR;rw[if_neg (by omega),if_pos (by omega)]
  exact⟨D,hS.till (by rw[hst];decide) (by omega),by rw[hst,hr],hcd,by rw[hr,hw];rfl⟩
 have hl:20<k:=by simp at hl;omega
 have hr:facR k=9:=by unfold facR;rw[if_pos (by omega)]
 exact⟨D,hS.till (by rw[hst];decide) (by omega),by rw[hst,hr],hcd,by rw[hr,hw];rfl⟩
end
end Tok
open Go.RowKit
open Wire Flow
namespace Tok
def isN (n:Int):Bool:=decide (-1000000000≤n) && decide (n≤1000000000)
theorem written_any (n:Int)(w:WL)(h0:-9223372036854775808≤n)(h1:n≤9223372036854775807)(ht:PowTab w) :
  Calls prog 26 #[iA n] w fun e w'=>e=.returned (.tuple #[.string (itoaB n),iA (if n<0 then 1 else 0),.bool (isN n)])∧Fr [] w w':=by
 have hi:=itoa_any n w h0 h1 ht;unfold isN;by_cases hn:n<0
 ·rw[if_pos hn];by_cases h2:-1000000000≤n
  ·have e1:decide (-1000000000≤n)=true:=decide_eq_true h2;have e2:decide (n≤1000000000)=true:=decide_eq_true (by omega);rw[e1,e2];have g2:n≤1000000000:=by omega
   go_enter func26,ntmps26;go_wp2_with fail;refine hi.mono ?_;rintro e w' ⟨rfl,F⟩;go_wp2;go_ret3;exact⟨rfl,F⟩
  have e1:decide (-1000000000≤n)=false:=decide_eq_false h2;rw[e1];go_enter func26,ntmps26;go_wp2_with fail;refine hi.mono ?_;rintro e w' ⟨rfl,F⟩;go_wp2;go_ret3;exact⟨rfl,F⟩
 rw[if_neg hn];have e1:decide (-1000000000≤n)=true:=decide_eq_true (by omega);have g1:-1000000000≤n:=by omega
 rw[e1];by_cases h2:n≤1000000000
 ·have e2:decide (n≤1000000000)=true:=decide_eq_true h2;rw[e2];go_enter func26,ntmps26;go_wp2_with fail;refine hi.mono ?_;rintro e w' ⟨rfl,F⟩;go_wp2;go_ret3;exact⟨rfl,F⟩
 have e2:decide (n≤1000000000)=false:=decide_eq_false h2;rw[e2];go_enter func26,ntmps26;go_wp2_with fail;refine hi.mono ?_;rintro e w' ⟨rfl,F⟩;go_wp2;go_ret3;exact⟨rfl,F⟩
def RckP (g:UInt8) (a b:Int) (w:WL) (e:Ending) (w':WL):Prop:=e=.returned (.tuple #[.int .i64 (reckL g a b).1,.int .i64 ((reckL g a b).2:Nat)])∧w'=w
theorem mul_lim {a b:Int}(ha:a.natAbs≤1000000000)(hb:b.natAbs≤1000000000):(a*b).natAbs≤1000000000000000000:=by
 rw[Int.natAbs_mul];exact Nat.mul_le_mul ha hb
theorem tdiv_lim {a b:Int}(ha:a.natAbs≤1000000000):(a.tdiv b).natAbs≤1000000000:=by
 rw[Int.natAbs_tdiv];exact Nat.le_trans (Nat.div_le_self _ _) ha
theorem tmod_lim {a b:Int}(ha:a.natAbs≤1000000000):(a.tmod b).natAbs≤1000000000:=by
 rw[Int.natAbs_tmod];exact Nat.le_trans (Nat.mod_le _ _) ha
theorem rck_lim {g:UInt8}{a b n:Int}{w:WL} (h:¬ ((g=47∨g=37)∧b=0)) (hn:reckN g a b=n) (hc:(n>1000000000∨n < -1000000000→Calls prog 27 #[.string ⟨#[g]⟩,iA a,iA b] w fun e w'=>e=.returned (.tuple #[iA 0,iA 4])∧w'=w)) (hd:(-1000000000≤n→n≤1000000000→Calls prog 27 #[.string ⟨#[g]⟩,iA a,iA b] w fun e w'=>e=.returned (.tuple #[iA n,iA 1])∧w'=w)):Calls prog 27 #[.string ⟨#[g]⟩,iA a,iA b] w (RckP g a b w):=by
 unfold RckP;rw[reckL_lim h,hn];unfold lim;by_cases c:n>1000000000∨n < -1000000000
 ·rw[if_pos c];exact hc c
 rw[if_neg c];exact hd (by omega) (by omega)
theorem reck_add {a b:Int}(ha:a.natAbs≤1000000000)(hb:b.natAbs≤1000000000)(w:WL):Calls prog 27 #[.string ⟨#[43]⟩,iA a,iA b] w (RckP 43 a b w):=by
 have hw:IntKind.i64.wrap (a+b)=a+b:=by rw[IntKind.wrap_i64];omega
 obtain⟨n,hn⟩:=eXi (a+b);rw[hn] at hw;refine rck_lim (n:=n) (by simp) hn (fun c=>?_) (fun c1 c2=>?_)
 ·by_cases c1:1000000000<n
  ·go_enter func27,ntmps27;go_wp2;go_ret2;exact⟨rfl,rfl⟩
  have c2:n < -1000000000:=by omega
  go_enter func27,ntmps27;go_wp2;go_ret2;exact⟨rfl,rfl⟩
 have g1:¬ 1000000000<n:=by omega
 have g2:¬ n < -1000000000:=by omega
 go_enter func27,ntmps27;go_wp2;go_ret2;exact⟨rfl,rfl⟩
end Tok
open Go.RowKit
open Wire Flow
namespace Tok
theorem reck_sub {a b:Int}(ha:a.natAbs≤1000000000)(hb:b.natAbs≤1000000000)(w:WL):Calls prog 27 #[.string ⟨#[45]⟩,iA a,iA b] w (RckP 45 a b w):=by
 have hw:IntKind.i64.wrap (a-b)=a-b:=by rw[IntKind.wrap_i64];omega
 obtain⟨n,hn⟩:=eXi (a-b);rw[hn] at hw;refine rck_lim (n:=n) (by simp) hn (fun c=>?_) (fun c1 c2=>?_)
 ·by_cases c1:1000000000<n
  ·go_enter func27,ntmps27;go_wp2;go_ret2;exact⟨rfl,rfl⟩
  have c2:n < -1000000000:=by omega
  go_enter func27,ntmps27;go_wp2;go_ret2;exact⟨rfl,rfl⟩
 have g1:¬ 1000000000<n:=by omega
 have g2:¬ n < -1000000000:=by omega
 go_enter func27,ntmps27;go_wp2;go_ret2;exact⟨rfl,rfl⟩
theorem reck_mul {a b:Int}(ha:a.natAbs≤1000000000)(hb:b.natAbs≤1000000000)(w:WL):Calls prog 27 #[.string ⟨#[42]⟩,iA a,iA b] w (RckP 42 a b w):=by
 have hm:=mul_lim ha hb;have hw:IntKind.i64.wrap (a*b)=a*b:=by rw[IntKind.wrap_i64];omega
 obtain⟨n,hn⟩:=eXi (a*b);rw[hn] at hw hm;refine rck_lim (n:=n) (by simp) hn (fun c=>?_) (fun c1 c2=>?_)
 ·by_cases c1:1000000000<n
  ·go_enter func27,ntmps27;go_wp2;go_ret2;exact⟨rfl,rfl⟩
  have c2:n < -1000000000:=by omega
  go_enter func27,ntmps27;go_wp2;go_ret2;exact⟨rfl,rfl⟩
 have g1:¬ 1000000000<n:=by omega
 have g2:¬ n < -1000000000:=by omega
 go_enter func27,ntmps27;go_wp2;go_ret2;exact⟨rfl,rfl⟩
theorem reck_lt {a b:Int}(ha:a.natAbs≤1000000000)(hb:b.natAbs≤1000000000)(w:WL):Calls prog 27 #[.string ⟨#[60]⟩,iA a,iA b] w (RckP 60 a b w):=by
 unfold RckP;by_cases hab:a<b
 ·have e:reckL 60 a b=(1,1):=by
   rw[reckL_lim (by simp)];show lim (if a<b then 1 else 0) 1=_;rw[if_pos hab];rfl
  rw[e];go_enter func27,ntmps27;go_wp2;go_ret2;exact⟨rfl,rfl⟩
 have e:reckL 60 a b=(0,1):=by
  rw[reckL_lim (by simp)];show lim (if a<b then 1 else 0) 1=_;rw[if_neg hab];rfl
 rw[e];go_enter func27,ntmps27;go_wp2;go_ret2;exact⟨rfl,rfl⟩
theorem reck_div {a b:Int}(ha:a.natAbs≤1000000000)(hb:b.natAbs≤1000000000)(w:WL):Calls prog 27 #[.string ⟨#[47]⟩,iA a,iA b] w (RckP 47 a b w):=by
 by_cases hb0:b=0
 ·subst hb0;unfold RckP;rw[reckL_zero (.inl rfl)];go_enter func27,ntmps27;go_wp2;go_ret2;exact⟨rfl,rfl⟩
 have gb:(b==0)=false:=by simpa using hb0
 have hm:=tdiv_lim (b:=b) ha;have hw:IntKind.i64.wrap (a.tdiv b)=a.tdiv b:=by rw[IntKind.wrap_i64];omega
 obtain⟨n,hn⟩:=eXi (a.tdiv b);rw[hn] at hw hm;refine rck_lim (n:=n) (fun h=>hb0 h.2) hn (fun c=>by omega) (fun c1 c2=>?_)
 ·have g1:¬ 1000000000<n:=by omega
  have g2:¬ n < -1000000000:=by omega
  go_enter func27,ntmps27;go_wp2;go_ret2;exact⟨rfl,rfl⟩
theorem reck_mod {a b:Int}(ha:a.natAbs≤1000000000)(hb:b.natAbs≤1000000000)(w:WL):Calls prog 27 #[.string ⟨#[37]⟩,iA a,iA b] w (RckP 37 a b w):=by
 by_cases hb0:b=0
 ·subst hb0;unfold RckP;rw[reckL_zero (.inr rfl)];go_enter func27,ntmps27;go_wp2;go_ret2;exact⟨rfl,rfl⟩
 have gb:(b==0)=false:=by simpa using hb0
 have hm:=tmod_lim (b:=b) ha;have hm2:=tdiv_lim (b:=b) ha;have hw2:IntKind.i64.wrap (a.tdiv b)=a.tdiv b:=by rw[IntKind.wrap_i64];omega
 obtain⟨n,hn⟩:=eXi (a.tmod b);rw[hn] at hm;refine rck_lim (n:=n) (fun h=>hb0 h.2) hn (fun c=>by omega) (fun c1 c2=>?_)
 ·have g1:¬ 1000000000<n:=by omega
  have g2:¬ n < -1000000000:=by omega
  go_enter func27,ntmps27;go_wp2;go_ret2;exact⟨rfl,rfl⟩
theorem reckoned_any {g:UInt8}(hg:g ∈ opsL){a b:Int}(ha:a.natAbs≤1000000000)(hb:b.natAbs≤1000000000)(w:WL):Calls prog 27 #[.string ⟨#[g]⟩,iA a,iA b] w (RckP g a b w):=by
 simp only[opsL,List.mem_cons,List.not_mem_nil,or_false] at hg;rcases hg with rfl | rfl | rfl | rfl | rfl | rfl
 ·exact reck_add ha hb w
 ·exact reck_sub ha hb w
 ·exact reck_mul ha hb w
 ·exact reck_div ha hb w
 ·exact reck_mod ha hb w
 exact reck_lt ha hb w
end Tok
open Go.RowKit
open Wire Flow
namespace Tok
open Ev (signs TabS entered)
theorem src_eq (g:UInt8)(a b:Int):(⟨#[66,69,71,73,78,32,123,32,112,114,105,110,116,32,40]⟩++itoaB a++(⟨#[41,32]⟩++⟨#[g]⟩++⟨#[32,40]⟩)++itoaB b++⟨#[41,59,32,125]⟩:BA)=srcOf g a b:=by
 apply ByteArray.ext;apply Array.ext';simp[srcOf,sumB,headB,itoaB,ByteArray.data_append]
theorem itoaB_size (a:Int):(itoaB a).size=(Lib.itoa a).length:=by simp[itoaB,ByteArray.size]
structure SgnOk (g:UInt8):Prop where
 mem:g ∈ opsL
 could:CouldIs g
 sum:SumIs g
 bad:BadIs g
theorem nilS (W:WL):ArgL W (.slice none 0 0) (([]:LY).map .string):=⟨none,0,rfl,Nat.le_refl _,by decide,fun h=>absurd h (by simp)⟩
theorem scr0:Scr [] []:=⟨by simp,by simp,by simp,by simp⟩
theorem sum_played (HB:BothOk)(h163:∃ fn,entered prog 163=some fn){g:UInt8}(hg:SgnOk g){a b:Int}(ha:a.natAbs≤1000000000)(hb:b.natAbs≤1000000000){W:WL}(hB:Base W)(ht:TabS signs W) :
  Calls prog 9 #[.string (srcOf g a b),.slice none 0 0] W fun e w=>Fr [] W w∧∃ used:Nat,e=.returned (.tuple #[stV (reckL g a b).2 0 (if (reckL g a b).2=1 then itoaB (reckL g a b).1++⟨#[10]⟩ else ⟨#[]⟩) used,.bool true]):=by
 have hS:=sum_src hg.mem hg.could hg.sum h163 ha hb;obtain⟨D,hD,d1,d2,d3⟩:=sum_run hg.mem ha hb hS.good;refine (played_good HB hS (by have:=hB.six;omega) hB ht (nilS W) scr0).mono ?_;rintro e w ⟨F,D',hD',rfl⟩;obtain rfl:=hD.unique hD';refine⟨F,D.used,?_⟩;rw[d1,d2,d3];congr 5
theorem sum_any (HB:BothOk)(h163:∃ fn,entered prog 163=some fn){g:UInt8}(hg:SgnOk g){a b:Int}(ha1:-9223372036854775808≤a)(ha2:a≤9223372036854775807)(hb1:-9223372036854775808≤b)(hb2:b≤9223372036854775807){W:WL}(hb:Base W)(ht:TabS signs W) :
  Calls prog 16 #[.string ⟨#[g]⟩,iA a,iA b] W fun e w=>e=.returned (.bool true)∧Fr [] W w:=by
 have hp:=hb.pow;have h1w:1<W.heap.size:=by have:=hb.six;omega
 have HA:Hid _:=written_any a W ha1 ha2 hp;have HBB:Hid (∀ V,Fr [] W V→Calls prog 26 #[iA b] V fun e w'=>e=.returned (.tuple #[.string (itoaB b),iA (if b<0 then 1 else 0),.bool (isN b)])∧Fr [] V w'):=fun V F=>written_any b V hb1 hb2 (hp.fr F);have la:=itoa_len (a:=a) 18 (by omega);have lb:=itoa_len (a:=b) 18 (by omega);rw[← itoaB_size] at la lb;have hsrc:=src_eq g a b;obtain⟨x,hx⟩:=eXi (itoaB a);obtain⟨y,hy⟩:=eXi (itoaB b);rw[hx] at HA hsrc la;rw[hy] at HBB hsrc lb;obtain⟨ia,hia⟩:∃ ia:Int,(if a<0 then 1 else 0)=ia:=⟨_,rfl⟩;obtain⟨ib,hib⟩:∃ ib:Int,(if b<0 then 1 else 0)=ib:=⟨_,rfl⟩;have hia1:0≤ia∧ia≤1:=by rw[← hia];split <;> omega
 have hib1:0≤ib∧ib≤1:=by rw[← hib];split <;> omega
 have hz1:(⟨#[41,32]⟩++⟨#[g]⟩:BA).size=3:=rfl;have hz2:(⟨#[41,32]⟩++⟨#[g]⟩++⟨#[32,40]⟩:BA).size=5:=rfl;rw[hia] at HA;rw[hib] at HBB;have hHsz:(⟨#[66,69,71,73,78,32,123,32,112,114,105,110,116,32,40]⟩:BA).size=15:=rfl;by_cases hpa:isN a=true
 ·by_cases hpb:isN b=true
  ·have hoka:a.natAbs≤1000000000:=by
    unfold isN at hpa;simp at hpa;omega
   have hokb:b.natAbs≤1000000000:=by
    unfold isN at hpb;simp at hpb;omega
   rw[hpa] at HA;rw[hpb] at HBB;have hrn:(reckL g a b).1.natAbs≤1000000000:=by
    unfold reckL;split
    ·simp
    split
    ·simp
    ·rename_i q;simp at q ⊢;omega
   have HP:Hid _:=fun (V:WL) (F:Fr [] W V)=>sum_played HB h163 hg hoka hokb (hb.fr F) (tabS_fr ht F);have HR:Hid _:=fun (V:WL)=>reckoned_any hg.mem hoka hokb V;unfold RckP at HR;have HI:Hid _:=fun (V:WL) (F:Fr [] W V)=>itoa_any (reckL g a b).1 V (by omega) (by omega) (hp.fr F);obtain⟨n,hn⟩:=eXi ((reckL g a b).1);obtain⟨st,hst⟩:=eXi ((reckL g a b).2);simp only[hn,hst] at HP HR HI;have ln:=itoa_len (a:=n) 9 (by rw[← hn];omega);rw[← itoaB_size] at ln;obtain⟨z,hz⟩:=eXi (itoaB n);simp only[hz] at HP HI ln;have HS:Hid _:=hsrc;clear hg hb ht hp h1w hx hy hia hib hpa hpb hsrc hoka hokb hrn hn hst hz;by_cases h1:st=1
   ·subst h1;simp only[if_true] at HP;go_enter func16,ntmps16;go_wp2_with fail;refine Calls.mono HA.out ?_;rintro e V1 ⟨rfl,F1⟩;have HF1:Hid _:=F1;clear HA F1;go_wp2_with fail;refine Calls.mono (HBB.out V1 HF1.out) ?_;rintro e V2 ⟨rfl,F2⟩;have HF2:Hid _:=HF1.out.trans F2;have hc:=HP.out V2 (HF1.out.trans F2);rw[← HS.out] at hc;clear HBB F2 HF1 HP;go_wp2_with fail;refine Calls.mono hc ?_;rintro e V3 ⟨F3,used,rfl⟩;have HF3:Hid _:=HF2.out.trans F3;clear hc F3 HF2;obtain⟨V4,hV4⟩:=eXi (V3.alloc (.cells #[iA 1,iA 0,.string (z++⟨#[10]⟩),iA (used:Nat)] 26));have F4:=frA hV4
    have k4:V4.heap[V3.heap.size]?=some (.cells #[iA 1,iA 0,.string (z++⟨#[10]⟩),iA (used:Nat)] 26):=by rw[← hV4];exact wan V3 _
    have H4:Hid _:=AI (HF3.out.trans F4) k4;clear F4 k4 HF3;unfold stV;go_wp2_with fail;refine Calls.mono (HR.out V4) ?_;rintro e V4' ⟨rfl,hw⟩;replace hw:=hw.symm;subst hw;clear HR;go_wp2_with fail;refine Calls.mono (HI.out V4 H4.out.1) ?_;rintro e V5 ⟨rfl,F5⟩;have k5:=(F5.block V3.heap.size (Age.1 H4.out.2).1 (by simp)).trans H4.out.2;obtain⟨⟨c0,c1,c2,c3⟩,-⟩:=cells4F k5;have H5:Hid _:=H4.out.1.trans F5;have hsh:=shows_any 1 (z++⟨#[10]⟩) used V5;unfold stV at hsh;clear F5 k5 H4 HI hV4;go_wp2_with fail;refine Calls.mono hsh ?_;rintro e V6 ⟨rfl,F6⟩;have H6:Hid _:=H5.out.trans F6;clear hsh F6 H5 c0 c1 c2 c3;go_wp2;go_ret;exact⟨rfl,H6.out⟩
   simp only[if_neg h1] at HP;go_enter func16,ntmps16;go_wp2_with fail;refine Calls.mono HA.out ?_;rintro e V1 ⟨rfl,F1⟩;have HF1:Hid _:=F1;clear HA F1;go_wp2_with fail;refine Calls.mono (HBB.out V1 HF1.out) ?_;rintro e V2 ⟨rfl,F2⟩;have HF2:Hid _:=HF1.out.trans F2;have hc:=HP.out V2 (HF1.out.trans F2);rw[← HS.out] at hc;clear HBB F2 HF1 HP;go_wp2_with fail;refine Calls.mono hc ?_;rintro e V3 ⟨F3,used,rfl⟩;have HF3:Hid _:=HF2.out.trans F3;clear hc F3 HF2;obtain⟨V4,hV4⟩:=eXi (V3.alloc (.cells #[iA (st:Nat),iA 0,.string ⟨#[]⟩,iA (used:Nat)] 26));have F4:=frA hV4
   have k4:V4.heap[V3.heap.size]?=some (.cells #[iA (st:Nat),iA 0,.string ⟨#[]⟩,iA (used:Nat)] 26):=by rw[← hV4];exact wan V3 _
   have H4:Hid _:=AI (HF3.out.trans F4) k4;clear F4 k4 HF3;unfold stV;go_wp2_with fail;refine Calls.mono (HR.out V4) ?_;rintro e V4' ⟨rfl,hw⟩;replace hw:=hw.symm;subst hw;clear HR;have g1:((st:Int)==1)=false:=by simp;omega
   obtain⟨⟨c0,c1,c2,c3⟩,-⟩:=cells4F H4.out.2;have hsh:=shows_any st ⟨#[]⟩ used V4;unfold stV at hsh;have H5:Hid _:=H4.out.1;clear H4 HI hV4;go_wp2_with fail;refine Calls.mono hsh ?_;rintro e V6 ⟨rfl,F6⟩;have H6:Hid _:=H5.out.trans F6;clear hsh F6 H5 c0 c1 c2 c3;go_wp2;go_ret;exact⟨rfl,H6.out⟩
  have hpb:isN b=false:=by simpa using hpb
  have hok:a.natAbs≤1000000000:=by
   unfold isN at hpa;simp at hpa;omega
  have hbad:1000000000<b.natAbs:=by
   unfold isN at hpb;simp at hpb;omega
  rw[hpa] at HA;rw[hpb] at HBB;have HC:Hid (∀ V,Fr [] W V→Calls prog 19 #[.string (srcOf g a b)] V fun e w'=>e=.returned (.tuple #[.string ⟨#[]⟩,iA (15+(x.size:Int)+5+ib),iA 14])∧Fr [] V w'):=fun V F=>by
   have:=bad_src2 (w:=V) (tabS_fr ht F) hg.mem hg.bad (a:=a) (b:=b) hok hbad (by omega);have e:((badP (decide (b<0)) (20+(Lib.itoa a).length):Nat):Int)=15+(x.size:Int)+5+ib:=by
    rw[← hib,← hx,itoaB_size];unfold badP;by_cases h:b<0
    ·rw[decide_eq_true h,if_pos h];show ((20+(Lib.itoa a).length+1:Nat):Int)=_;omega
    rw[decide_eq_false h,if_neg h];show ((20+(Lib.itoa a).length:Nat):Int)=_;omega
   rw[e] at this;exact this
  have HS:Hid _:=hsrc;clear hg hb ht hp h1w hx hy hia hib hpa hpb hsrc hbad hok;go_enter func16,ntmps16;go_wp2_with fail;refine Calls.mono HA.out ?_;rintro e V1 ⟨rfl,F1⟩;have HF1:Hid _:=F1;clear HA F1;go_wp2_with fail;refine Calls.mono (HBB.out V1 HF1.out) ?_;rintro e V2 ⟨rfl,F2⟩;have HF2:Hid _:=HF1.out.trans F2;have hc:=HC.out V2 (HF1.out.trans F2);rw[← HS.out] at hc;clear HBB F2 HF1 HC;go_wp2_with fail;refine Calls.mono hc ?_;rintro e V3 ⟨rfl,F3⟩;have HF3:Hid _:=HF2.out.trans F3;clear hc F3 HF2;go_wp2;go_ret;exact⟨rfl,HF3.out⟩
 have hpa:isN a=false:=by simpa using hpa
 have hbad:1000000000<a.natAbs:=by
  unfold isN at hpa;simp at hpa;omega
 rw[hpa] at HA;obtain⟨q,hq⟩:=eXi (isN b);rw[hq] at HBB;have HC:Hid (∀ V,Fr [] W V→Calls prog 19 #[.string (srcOf g a b)] V fun e w'=>e=.returned (.tuple #[.string ⟨#[]⟩,iA (15+ia),iA 14])∧Fr [] V w'):=fun V F=>by
  have:=bad_src1 (w:=V) (tabS_fr ht F) (g:=g) (a:=a) (b:=b) hbad (by omega) (by omega);have e:((badP (decide (a<0)) 15:Nat):Int)=15+ia:=by
   rw[← hia];unfold badP;by_cases h:a<0
   ·rw[decide_eq_true h,if_pos h];rfl
   rw[decide_eq_false h,if_neg h];rfl
  rw[e] at this;exact this
 have HS:Hid _:=hsrc;clear hg hb ht hp h1w hx hy hia hib hpa hq hsrc hbad;go_enter func16,ntmps16;go_wp2_with fail;refine Calls.mono HA.out ?_;rintro e V1 ⟨rfl,F1⟩;have HF1:Hid _:=F1;clear HA F1;go_wp2_with fail;refine Calls.mono (HBB.out V1 HF1.out) ?_;rintro e V2 ⟨rfl,F2⟩;have HF2:Hid _:=HF1.out.trans F2;clear HBB F2 HF1;have hc:=HC.out V2 HF2.out;rw[← HS.out] at hc;clear HC;go_wp2_with fail;refine Calls.mono hc ?_;rintro e V3 ⟨rfl,F3⟩;have HF3:Hid _:=HF2.out.trans F3;clear hc F3 HF2;go_wp2;go_ret;exact⟨rfl,HF3.out⟩
end Tok
open Go.RowKit
open Wire Flow
namespace Tok
open Ev (signs TabS entered)
theorem itoa_dec (k:Nat):Lib.itoa ((k:Nat):Int)=Lib.decDigits k:=by
 unfold Lib.itoa;rw[if_neg (by omega),Int.toNat_natCast]
theorem facS_eq (k:Nat):(⟨([102,117,110,99,116,105,111,110,32,102,40,110,41,32,123,32,114,101,116,117,114,110,32,110,32,60,32,50,32,63,32,49,32].append [58,32,110,32,42,32,102,40,110,32,45,32,49,41,59,32,125,32,66,69,71,73,78,32,123,32,112,114,105,110,116,32,102,40]).toArray⟩++itoaB (k:Nat)++⟨#[41,59,32,125]⟩:BA)=facS k:=by
 apply ByteArray.ext;apply Array.ext';unfold itoaB;rw[itoa_dec];simp[facS,facB,ByteArray.data_append]
theorem fac_played (HB:BothOk)(h163:∃ fn,entered prog 163=some fn){k:Nat}(hk:k≤29){W:WL}(hB:Base W)(ht:TabS signs W) :
  Calls prog 9 #[.string (facS k),.slice none 0 0] W fun e w=>Fr [] W w∧∃ used:Nat,e=.returned (.tuple #[stV (facR k) 0 (if facR k=1 then itoaB (fact k:Nat)++⟨#[10]⟩ else ⟨#[]⟩) used,.bool true]):=by
 have hS:=fac_src h163 (k:=k) (by omega);obtain⟨D,hD,d1,d2,d3⟩:=fac_run hk hS.good;refine (played_good HB hS (by have:=hB.six;omega) hB ht (nilS W) scr0).mono ?_;rintro e w ⟨F,D',hD',rfl⟩;obtain rfl:=hD.unique hD';refine⟨F,D.used,?_⟩;rw[d1,d2,d3];congr 5
theorem fact_succ {i:Nat}(h:1≤i):fact i=fact (i-1)*i:=by
 obtain⟨j,rfl⟩:∃ j,i=j+1:=⟨i-1,by omega⟩;simp[fact,Nat.mul_comm]
theorem fact_mono {i j:Nat}(h:i≤j):fact i≤fact j:=by
 obtain⟨d,rfl⟩:=Nat.exists_eq_add_of_le h;induction d with
 | zero=>exact Nat.le_refl _
 | succ d ih=>exact Nat.le_trans (ih (by omega)) (fact_le _)
theorem factorial_any (HB:BothOk)(h163:∃ fn,entered prog 163=some fn){k:Nat}(hk:k≤29){W:WL}(hb:Base W)(ht:TabS signs W) :
  Calls prog 17 #[iA (k:Nat)] W fun e w=>e=.returned (.bool true)∧Fr [] W w:=by
 have hm:=hmX
 have HI0:Hid _:=itoa_any ((k:Nat):Int) W (by omega) (by omega) hb.pow;have HP:Hid _:=fun (V:WL) (F:Fr [] W V)=>fac_played HB h163 hk (hb.fr F) (tabS_fr ht F);have HI:Hid (∀ (V:WL) (n:Nat),Fr [] W V→n≤1000000000→Calls prog 12 #[iA (n:Nat)] V fun e w'=>e=.returned (.string (itoaB (n:Nat)))∧Fr [] V w'):=fun V n F hn=>itoa_any (n:Nat) V (by omega) (by omega) (hb.pow.fr F);have hsrc:=facS_eq k;have lx:=itoa_len (a:=((k:Nat):Int)) 9 (by omega);rw[← itoaB_size] at lx;obtain⟨x,hx⟩:=eXi (itoaB ((k:Nat):Int));simp only[hx] at HI0 hsrc lx;have HS:Hid _:=hsrc;obtain⟨st,hst⟩:=eXi (facR k);simp only[hst] at HP;obtain⟨sI,hsI⟩:∃ sI:Int,((st:Nat):Int)=sI:=⟨_,rfl⟩;simp only[stV,hsI] at HP;have HSI:Hid _:=hsI;have HST:Hid _:=hst;clear hsI;clear hb ht hsrc hst hx;obtain⟨out,hout⟩:∃ out:BA,(if st=1 then itoaB (fact k:Nat)++⟨#[10]⟩ else ⟨#[]⟩)=out:=⟨_,rfl⟩;simp only[hout] at HP;have HO:Hid _:=hout;clear hout;go_enter func17,ntmps17;go_wp2_with fail;refine Calls.mono HI0.out ?_;rintro e V1 ⟨rfl,F1⟩;have HF1:Hid _:=F1;have hc:=HP.out V1 F1;rw[← HS.out] at hc;clear HI0 F1 HP;go_wp2_with fail;refine Calls.mono hc ?_;rintro e V3 ⟨F3,used,rfl⟩;obtain⟨V4,hV4⟩:=eXi (V3.alloc (.cells #[iA sI,iA 0,.string out,iA (used:Nat)] 26));have F4:=frA hV4
 have k4:V4.heap[V3.heap.size]?=some (.cells #[iA sI,iA 0,.string out,iA (used:Nat)] 26):=by rw[← hV4];exact wan V3 _
 obtain⟨⟨c0,c1,c2,c3⟩,-⟩:=cells4F k4;have HF4:Hid _:=(HF1.out.trans F3).trans F4;clear hc F3 HF1 F4 k4;obtain⟨b3,hb3⟩:=eXi (V3.heap.size);rw[hb3] at c0 c1 c2 c3;by_cases h20:20<k
 ·obtain rfl:st=9:=by rw[← HST.out];unfold facR;rw[if_pos (by omega)]
  obtain rfl:sI=9:=by rw[← HSI.out];rfl
  obtain rfl:out=⟨#[]⟩:=by rw[← HO.out];rfl
  have g1:(20:Int)<k:=by omega
  have hsh:=shows_any 9 ⟨#[]⟩ used V4;unfold stV at hsh;go_wp2_with fail;refine Calls.mono hsh ?_;rintro e V6 ⟨rfl,F6⟩;have H6:Hid _:=HF4.out.trans F6;clear hsh F6 HF4 c0 c1 c2 c3 hV4 hb3;go_wp2;go_ret;exact⟨rfl,H6.out⟩
 have g1:¬ (20:Int)<k:=by omega
 go_wp2;clear hV4
 go_loop [6,7] (fun p q=>∃ (i:Nat),q=iA (i:Nat)∧p=iA (fact (i-1):Nat)∧2≤i∧(i≤k+1∨i=2)∧fact (i-1)≤1000000000) (fun _ q=>100-(intOf q).toNat)
 case atStart=>exact⟨2,rfl,rfl,by omega,.inr rfl,by decide⟩
 case round=>
  obtain⟨i,rfl,rfl,hi2,hik,hf⟩:=hrel;by_cases hlt:i≤k
  ·have g2:(i:Int)≤k:=by omega
   have em:((fact (i-1):Nat):Int)*(i:Nat)=(fact i:Nat):=by rw[fact_succ (i:=i) (by omega)];push_cast;rfl
   have hfi:fact i≤30000000000:=by
    rw[fact_succ (i:=i) (by omega)];exact Nat.le_trans (Nat.mul_le_mul hf (show i≤30 by omega)) (by decide)
   have hw:IntKind.i64.wrap (((fact (i-1):Nat):Int)*(i:Nat))=(fact i:Nat):=by rw[em,IntKind.wrap_i64];omega
   by_cases hb:1000000000<fact i
   ·obtain rfl:st=4:=by
     rw[← HST.out];unfold facR;have:=fact_mono hlt;rw[if_neg (by omega),if_pos (by omega)]
    obtain rfl:sI=4:=by rw[← HSI.out];rfl
    obtain rfl:out=⟨#[]⟩:=by rw[← HO.out];rfl
    have g3:(1000000000:Int)<(fact i:Nat):=by omega
    have hsh:=shows_any 4 ⟨#[]⟩ used V4;unfold stV at hsh;generalize fact i=fi at *;generalize fact (i-1)=fj at *;clear em;go_wp2_with fail;refine Calls.mono hsh ?_;rintro e V6 ⟨rfl,F6⟩;have H6:Hid _:=HF4.out.trans F6;clear hsh F6 HF4 c0 c1 c2 c3 hb3;go_wp2;go_ret;exact⟨rfl,H6.out⟩
   have g3:¬ (1000000000:Int)<(fact i:Nat):=by omega
   have HFI:Hid (fact (i+1-1)=fact i):=by show _=_;rw[Nat.add_sub_cancel]
   obtain⟨fi,hfi2⟩:=eXi (fact i);rw[hfi2] at hw g3 HFI hb hfi;obtain⟨fj,hfj⟩:=eXi (fact (i-1));rw[hfj] at hw ⊢;clear em hfi2 hfj hf;go_wp2;exact⟨⟨i+1,by go_num,by rw[HFI.out],by omega,.inl (by omega),by rw[HFI.out];omega⟩,by simp[intOf];omega⟩
  have g2:¬ (i:Int)≤k:=by omega
  have hfk:fact (i-1)=fact k:=by
   rcases hik with q | q
   ·rw[show i-1=k by omega]
   subst q;have:k=0∨k=1:=by omega
   rcases this with rfl | rfl <;> rfl
  obtain rfl:st=1:=by rw[← HST.out];unfold facR;rw[if_neg (by omega),if_neg (by rw[← hfk];omega)]
  obtain rfl:sI=1:=by rw[← HSI.out];rfl
  rw[hfk] at hf ⊢;have hout:itoaB (fact k:Nat)++⟨#[10]⟩=out:=by rw[← HO.out];rfl
  have ln:=itoa_len (a:=((fact k:Nat):Int)) 9 (by omega);rw[← itoaB_size] at ln;have HI1:Hid _:=fun (V:WL) (F:Fr [] W V)=>HI.out V (fact k) F hf;obtain⟨z,hz⟩:=eXi (itoaB ((fact k:Nat):Int));simp only[hz] at HI1 hout ln;generalize fact k=fk at *;clear HI HO HST HS HSI hz hik hfk hi2;have HOU:Hid _:=hout;clear hout;go_wp2_with fail;refine wp_region_heldD (fun V=>V.cell? (Ad b3 0)=some (iA 1)∧V.cell? (Ad b3 1)=some (iA 0)∧V.cell? (Ad b3 2)=some (.string out)∧V.cell? (Ad b3 3)=some (iA (used:Nat))) hm ?_;obtain⟨WD,hWD⟩:=eXi (V4.drew);rw[hWD];have FD:Fr [] V4 WD:=by rw[← hWD];exact (Fr.refl [] V4).drew
  have hS:WD.cell? (Ad b3 0)=some (iA 1)∧WD.cell? (Ad b3 1)=some (iA 0)∧WD.cell? (Ad b3 2)=some (.string out)∧WD.cell? (Ad b3 3)=some (iA (used:Nat)):=by rw[← hWD];exact⟨c0,c1,c2,c3⟩
  have HC7:Hid _:=HI1.out WD (HF4.out.trans FD);have HFD:Hid _:=HF4.out.trans FD;clear c0 c1 c2 c3 FD hWD HI1 HF4;refine wpAnyH_takes (fun _ _ _ _ _ h=>h) hS [0,1] (by kernel_rfl) ?_
  iterate 2
   refine Yls.cons (v:=?_) rfl (.inl ⟨rfl,fun w1 hS1=>?_⟩) ?_;rotate_left
   ·obtain⟨p0,p1,p2,p3⟩:=hS1;go_simp
    first | rfl | (refine (if_neg (by omega)).trans ?_;rfl)
   simp only[Act.put,Zp,Zq]
  refine Yls.nil ?_;refine rd1 (r:=2) (by kernel_rfl) rfl fun K hK=>?_;go_simp;refine Calls.mono HC7.out ?_;rintro e W7 ⟨rfl,F7⟩;have hS7:W7.cell? (Ad b3 0)=some (iA 1)∧W7.cell? (Ad b3 1)=some (iA 0)∧W7.cell? (Ad b3 2)=some (.string out)∧W7.cell? (Ad b3 3)=some (iA (used:Nat)):=by
   obtain⟨p0,p1,p2,p3⟩:=hS;have hl:b3<WD.heap.size:=lt_of_cell p0;exact⟨(F7.cell (p:=Ad b3 0) hl (by simp)).trans p0,(F7.cell (p:=Ad b3 1) hl (by simp)).trans p1,(F7.cell (p:=Ad b3 2) hl (by simp)).trans p2,(F7.cell (p:=Ad b3 3) hl (by simp)).trans p3⟩
  have HF7:Hid _:=HFD.out.trans F7;clear hS F7 HC7 HFD;refine hK _ _ hS7 ?_;clear hK K;intro _
  try simp only[Act.put,Zp,Zq]
  refine wpAnyH_takes (fun _ _ _ _ _ h=>h) hS7 [3] (by kernel_rfl) ?_;refine Yls.cons (v:=?_) rfl (.inl ⟨rfl,fun w1 hS1=>?_⟩) ?_;rotate_left
  ·obtain⟨p0,p1,p2,p3⟩:=hS1;go_simp
   first | rfl | (refine (if_neg (by omega)).trans ?_;rfl)
  simp only[Act.put,Zp,Zq];refine Yls.nil ?_;rw[HOU.out];have hsh:=shows_any 1 out used W7;unfold stV at hsh;refine rd1 (r:=4) (by kernel_rfl) rfl fun K hK=>?_;go_simp;refine Calls.mono hsh ?_;rintro e W8 ⟨rfl,F8⟩;have hS8:W8.cell? (Ad b3 0)=some (iA 1)∧W8.cell? (Ad b3 1)=some (iA 0)∧W8.cell? (Ad b3 2)=some (.string out)∧W8.cell? (Ad b3 3)=some (iA (used:Nat)):=by
   obtain⟨p0,p1,p2,p3⟩:=hS7;have hl:b3<W7.heap.size:=lt_of_cell p0;exact⟨(F8.cell (p:=Ad b3 0) hl (by simp)).trans p0,(F8.cell (p:=Ad b3 1) hl (by simp)).trans p1,(F8.cell (p:=Ad b3 2) hl (by simp)).trans p2,(F8.cell (p:=Ad b3 3) hl (by simp)).trans p3⟩
  have HF8:Hid _:=HF7.out.trans F8;clear hS7 F8 hsh HF7;refine hK _ _ hS8 ?_;clear hK K;intro _
  try simp only[Act.put,Zp,Zq]
  refine wpAnyH_takes (fun _ _ _ _ _ h=>h) hS8 [5] (by kernel_rfl) ?_;refine Yls.cons (v:=?_) rfl (.inl ⟨rfl,fun w1 hS1=>?_⟩) ?_;rotate_left
  ·obtain⟨p0,p1,p2,p3⟩:=hS1;go_simp
   first | rfl | (refine (if_neg (by omega)).trans ?_;rfl)
  simp only[Act.put,Zp,Zq];refine Yls.nil ?_;refine wpAnyH_done (by kernel_rfl) ?_ _;go_wp2_with fail;go_ret;exact⟨rfl,HF8.out⟩
end Tok
namespace Tok
open Ev
theorem sum_a:SumIs 43:=by
 intro s1 s2 n1 n2 a b c d;cases s1 <;> cases s2 <;> kernel_rfl
end Tok
namespace Tok
open Ev
theorem sum_b:SumIs 45:=by
 intro s1 s2 n1 n2 a b c d;cases s1 <;> cases s2 <;> kernel_rfl
end Tok
namespace Tok
open Ev
theorem sum_c:SumIs 42:=by
 intro s1 s2 n1 n2 a b c d;cases s1 <;> cases s2 <;> kernel_rfl
end Tok
namespace Tok
open Ev
theorem sum_d:SumIs 47:=by
 intro s1 s2 n1 n2 a b c d;cases s1 <;> cases s2 <;> kernel_rfl
end Tok
namespace Tok
open Ev
theorem sum_e:SumIs 37:=by
 intro s1 s2 n1 n2 a b c d;cases s1 <;> cases s2 <;> kernel_rfl
end Tok
namespace Tok
open Ev
theorem sum_f:SumIs 60:=by
 intro s1 s2 n1 n2 a b c d;cases s1 <;> cases s2 <;> kernel_rfl
end Tok
end Go.Proofs.YtmolfmgchbjnbaaGreatDoor
