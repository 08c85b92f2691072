import Derived.Test.YtmolfmgchbjnbaaGreatDoorM32
import Derived.Test.YtmolfmgchbjnbaaGreatDoorM18
set_option linter.unusedSimpArgs false
set_option linter.unusedVariables false
set_option linter.unusedSectionVars false
set_option maxRecDepth 100000
set_option maxHeartbeats 40000000
open _root_.Go.Proofs.Tryz
namespace Go.Proofs.YtmolfmgchbjnbaaGreatDoor
open Go.RowKit
open Wire Flow
namespace Tok
def stpOf (i:Nat) (x:Ln):Stp:=⟨i,i+(lnB x).length,x.1,(x.2.headD 0).toNat,0⟩
def stpsF:Nat→List Ln→List Stp
 | _,[]=>[]
 | i,x :: L=>stpOf i x :: stpsF (i+(lnB x).length) L
def Fit (m:Mo) (f locs:Nat) (x:Ln):Prop:=mayOp f x.1=true∧x.1≠38∧((sortsT.getD x.1 0=0∧x.2=[])∨(sortsT.getD x.1 0≠0∧∃ n:Nat,x.2=[(n:Int)]∧fitN m locs (sortsT.getD x.1 0) n=true∧n<34359738368))
theorem op_of {m:Mo}{f locs:Nat}{x:Ln} (h:Fit m f locs x):(UInt8.ofNat x.1).toNat=x.1:=by
 have:=mayOp_lt h.1;simp[UInt8.toNat_ofNat];omega
theorem line_decode {m:Mo}{f locs:Nat}{c:LB}{i:Nat}{x:Ln}{r:LB} (hi:i<c.length) (hc:c.drop i=lnB x++r) (h:Fit m f locs x):decodeL m f locs c i=.inr (stpOf i x):=by
 have hop:=op_of h;have h0:c.getD i 0=UInt8.ofNat x.1:=by
  have:(c.drop i)[0]?=some (UInt8.ofNat x.1):=by rw[hc];rfl
  rw[List.getElem?_drop,Nat.add_zero] at this;rw[List.getD_eq_getElem?_getD,this];rfl
 obtain⟨h1,h38,h2⟩:=h;unfold decodeL;rw[h0,hop,if_pos h1];rcases h2 with ⟨h2,h3⟩ | ⟨h2,n,h3,h4,h5⟩
 ·rw[if_pos h2];obtain⟨op,os⟩:=x;simp only at h3;subst h3;simp[stpOf,lnB]
 rw[if_neg h2];have hd:c.drop (i+1)=digs n++r:=by
  rw[← List.drop_drop,hc];obtain⟨op,os⟩:=x;simp only at h3;subst h3;simp[lnB,dgI_nat]
 have hl:(c.drop (i+1)).length=(digs n++r).length:=by rw[hd]
 rw[List.length_drop,Lla] at hl;have hlb:(lnB x).length=1+(digs n).length:=by
  obtain⟨op,os⟩:=x;simp only at h3;subst h3;simp[lnB,dgI_nat];omega
 have e:operandL m locs c (sortsT.getD x.1 0) (i+1)=some (n,i+(lnB x).length):=by
  unfold operandL;rw[hd,num_digs h5];simp only[h4,if_true,Option.some.injEq,Prod.mk.injEq,true_and];omega
 rw[e];simp only[if_neg h38];obtain⟨op,os⟩:=x;simp only at h3;subst h3;simp[stpOf]
theorem chain_lines {m:Mo}{f locs:Nat}{c:LB}:∀ (L:List Ln) (i:Nat),(∀ x ∈ L,Fit m f locs x)→i≤c.length→c.drop i=L.flatMap lnB→Chain m f locs c i (stpsF i L) c.length
 | [],i,_,hi,hc=>by
  have:(c.drop i).length=0:=by rw[hc];rfl
  rw[List.length_drop] at this
  show i=c.length
  omega
 | x :: L,i,h,hi,hc=>by
  rw[List.flatMap_cons] at hc
  have hl:(c.drop i).length=(lnB x++L.flatMap lnB).length:=by rw[hc]
  rw[List.length_drop,Lla] at hl
  have hx:0<(lnB x).length:=by simp[lnB]
  have hi':i<c.length:=by omega
  refine⟨hi',line_decode hi' hc (h x (by simp)),chain_lines L _ (fun y hy=>h y (by simp[hy])) ?_ ?_⟩
  ·show i+(lnB x).length≤c.length
   omega
  ·show c.drop (i+(lnB x).length)=_
   rw[← List.drop_drop,hc,List.drop_left]
def NoFar (L:List Ln):Prop:=∀ x ∈ L,far x.1=false
theorem badJump_none (l:List Stp):∀ (L:List Ln) (i:Nat),NoFar L→badJump l (stpsF i L)=none
 | [],_,_=>rfl
 | x :: L,i,h=>by
  have:=h x (by simp)
  simp only[stpsF,badJump]
  rw[if_neg (by simp[stpOf,this])]
  exact badJump_none l L _ fun y hy=>h y (by simp[hy])
theorem stps_len:∀ (L:List Ln)(i:Nat),(stpsF i L).length=L.length
 | [],_=>rfl
 | x :: L,i=>by simp[stpsF,stps_len L]
theorem fnOk_lines {m:Mo}{f:Nat}{L:List Ln}{p q:Int} (hf:m.fns[f]?=some ⟨p,q,lnsC L⟩) (hL:∀ x ∈ L,Fit m f q.toNat x) (hn:NoFar L) {G:List (Option (LB))} (h0:firstB G=true) (hG:eachB (Mach.parOf m) (stpsF 0 L) G 0 (stpsF 0 L) G=true) :
  Reads m f (Mach.locsOf m f) (Mach.codeOf m f) (stpsF 0 L)∧badJump (stpsF 0 L) (stpsF 0 L)=none∧Flow.Safe (Mach.parOf m) (stpsF 0 L):=by
 have e:Mach.fnOf m f=⟨p,q,lnsC L⟩:=by unfold Mach.fnOf;rw[List.getD_eq_getElem?_getD,hf];rfl
 have e2:Mach.codeOf m f=L.flatMap lnB:=by unfold Mach.codeOf;rw[e];simp[lnsC,bl]
 refine⟨?_,badJump_none _ _ _ hn,G,sol_of h0 hG⟩;unfold Mach.locsOf;rw[e2,e];exact chain_lines L 0 hL (Nat.zero_le _) rfl
end Tok
open Go.RowKit
open Wire Flow
namespace Ev
theorem Rel.plusDead {P:Program}{G:Nat}{m:Mp}{h:AH}{w:WL} (R:Rel P G m h w) (hn:h.n<4096):Rel P G (m.put h.n none) (h.new AO.dead) w∧∀ r x,m r=some x→(m.put h.n none) r=some x:=by
 have hno:=R.none_at (Nat.le_refl h.n);have hle:=Mp.put_le none hno;have hold:∀ r x,m r=some x→(m.put h.n none) r=some x:=fun r x e=>by
  rw[Mp.put_off m _ (fun q=>by rw[q,hno] at e;cases e)];exact e
 have hget:∀ r,r<h.n→(h.new AO.dead).get r=h.get r:=fun r hr=>by rw[AH.get_new hn,if_neg (by omega)]
 refine⟨⟨by rw[AH.new_n];omega,fun q y e=>?_,fun q e=>?_,fun q q' y y' e e' eb=>?_,fun g hg=>?_,fun r hr=>by rw[AH.new_n] at hr;rw[AH.get_new hn,if_neg (by omega)];exact R.top r (by omega)⟩,hold⟩
 ·by_cases c:q=h.n
  ·subst c;rw[Mp.put_same] at e;cases e
  rw[Mp.put_off m _ c] at e;obtain⟨h1,h2,q',h3,h4⟩:=R.row q y e;exact⟨by rw[AH.new_n];omega,h2,q',by rw[hget q h1];exact h3,h4.mono hle rfl⟩
 ·by_cases c:q=h.n
  ·subst c;exact⟨by rw[AH.new_n];omega,fun u hu=>by rw[AH.get_new hn,if_pos rfl] at hu;cases hu;rfl⟩
  rw[Mp.put_off m _ c] at e;obtain⟨h1,h2⟩:=R.dead q e;exact⟨by rw[AH.new_n];omega,fun u hu=>h2 u (by rw[← hget q h1];exact hu)⟩
 ·have f:∀ q y,(m.put h.n none) q=some (some y)→m q=some (some y):=fun q y e=>by
   by_cases c:q=h.n
   ·subst c;rw[Mp.put_same] at e;cases e
   rw[Mp.put_off m _ c] at e;exact e
  exact R.inj q q' y y' (f q y e) (f q' y' e') eb
 obtain⟨y,h1,h2,h3⟩:=R.glo g hg;exact⟨y,hold g _ h1,h2,h3⟩
end Ev
namespace Tok
open Ev
def hC (ss:LY) (F I:LV):AH:=(((hs0 ss).new (tb F)).new (tb I)).new AO.dead
def insV (l:List Stp) (T:LN):LV:=(l.zip T).flatMap insC
def couldE (P:Program) (ss:LY) (F I:LV) (nf nl g a nt:Nat) (o1 o2:OA) (c1 c2:Nat):Option (Value × AH):=
 evF P 2 2000 (bothX 58 328) 100 109 [.agg #[.slice o1 nt c1,.slice o2 0 c2,.int .i64 (g:Nat),.int .i64 (a:Nat),.slice (some ⟨3,0,none⟩) nf nf],.slice (some ⟨4,0,none⟩) nl nl] (hC ss F I)
def isF:Option (Value × AH)→Bool
 | some (.bool false,_)=>true
 | _=>false
def BothOk:Prop:=∀ f args h r,bothX 58 328 f args h=some (some r)→(∃ fn,entered prog f=some fn)∧∀ m w args',Rel prog 2 m h w→L2 (S3 m) args args'.toList→Calls prog f args' w fun
  | .returned v',w'=>Wrote prog 2 m h w r v' w'
  | _,_=>False
def AnySl (v:Value) (n:Nat):Prop:=v=.slice none n 0∨∃ (b:Addr) (c:Nat),v=.slice (some b) n c∧b.spot=none
theorem anySl {m:Mp}{v:Value}{n:Nat} (h:AnySl v n) (hm:m 5=some none):∃ o c,S1 m (.slice o n c) v:=by
 rcases h with rfl | ⟨b,c,rfl,hb⟩
 ·exact⟨none,0,.inl ⟨rfl,rfl⟩⟩
 exact⟨some (Ad 5 0),c,.inl ⟨rfl,Nat.le_refl _,id,rfl,hb,.inl hm⟩⟩
theorem could_of (HB:BothOk){W0 w1 w2:WL}(ht:TabS signs W0)(K1:Kept W0 w1)(K2:Kept w1 w2){F I:LV}{gF cF nf gI cI nl g a nt:Nat} (hF1:W0.heap.size≤gF) (hF2:gF<w1.heap.size) (hFc:∀ i v,F[i]?=some v→w1.cell? (Ad gF i)=some v) (hFp:F.all plainV=true) (hnf:0<nf) (hcf:nf≤cF)
  (hI1:w1.heap.size≤gI) (hI2:gI<w2.heap.size) (hIc:∀ i v,I[i]?=some v→w2.cell? (Ad gI i)=some v) (hIp:I.all plainV=true) (hnl:0<nl) (hcl:nl≤cI) (hg:g≤100000) (ha:a≤100000) {tv pv:Value} (htv:AnySl tv nt) (hpv:AnySl pv 0)
  (he:∀ o1 o2 c1 c2,isF (couldE prog signs F I nf nl g a nt o1 o2 c1 c2)=true) :
  Calls prog 109 #[.agg #[tv,pv,iA (g:Nat),iA (a:Nat),.slice (some (Ad gF 0)) nf cF],.slice (some (Ad gI 0)) nl cI] w2 fun e w'=>e=.returned (.bool false)∧Fr [] w2 w':=by
 obtain⟨B,o,c,h1,h2,h3,h4,h5,h6⟩:=ht;have R0:Rel prog 2 (Ev.ms0 B o (o+c)) (hs0 signs) W0:=rel0 h1 h2 h3 h4 h5 h6;have n0:(hs0 signs).n=3:=by simp only[hs0,AH.set_n];rfl
 obtain⟨R1,E1⟩:=R0.plus (w':=w1) (by rw[n0];omega) K1 (o:=tb F) (x:=⟨gF,0,cF*3,3⟩) hF1 rfl hF2 (fun m' hm=>.inr (.inr ⟨rfl,fun i v hv=>⟨v,hFc i v hv,plain_s1 (List.all_eq_true.1 hFp v (List.mem_of_getElem? hv))⟩⟩));rw[n0] at R1 E1;have n1:((hs0 signs).new (tb F)).n=4:=by rw[AH.new_n,n0]
 obtain⟨R2,E2⟩:=R1.plus (w':=w2) (by rw[n1];omega) K2 (o:=tb I) (x:=⟨gI,0,cI*5,5⟩) hI1 rfl hI2 (fun m' hm=>.inr (.inr ⟨rfl,fun i v hv=>⟨v,hIc i v hv,plain_s1 (List.all_eq_true.1 hIp v (List.mem_of_getElem? hv))⟩⟩));rw[n1] at R2 E2;have n2:(((hs0 signs).new (tb F)).new (tb I)).n=5:=by rw[AH.new_n,n1]
 obtain⟨R3,hold⟩:=R2.plusDead (by rw[n2];omega);rw[n2] at R3 hold;obtain⟨m,hm⟩:=eXi (Mp.put (Mp.put (Mp.put (Ev.ms0 B o (o+c)) 3 (some ⟨gF,0,cF*3,3⟩)) 4 (some ⟨gI,0,cI*5,5⟩)) 5 none);rw[hm] at R3 hold;have m5:m 5=some none:=by rw[← hm];exact Mp.put_same _ _ _
 have m4:m 4=some (some ⟨gI,0,cI*5,5⟩):=hold 4 _ (by simp[Mp.put]);have m3:m 3=some (some ⟨gF,0,cF*3,3⟩):=hold 3 _ (by simp[Mp.put]);have hall:∀ r x,m r=some (some x)→∃ q,(hC signs F I).get r=some q∧q.k=3:=by
  intro r x hx;have hr:=(R3.row r x hx).1;rw[AH.new_n,n2] at hr;have gg:∀ r,r<3→(hC signs F I).get r=(hs0 signs).get r:=fun r hr=>by
   unfold hC;rw[AH.get_new (by rw[n2];omega),if_neg (by rw[n2];omega),AH.get_new (by rw[n1];omega),if_neg (by rw[n1];omega),AH.get_new (by rw[n0];omega),if_neg (by rw[n0];omega)]
  rcases (show r=0∨r=1∨r=2∨r=3∨r=4∨r=5 by omega) with rfl | rfl | rfl | rfl | rfl | rfl
  ·rw[gg 0 (by omega),hs0_get];exact⟨_,rfl,rfl⟩
  ·rw[gg 1 (by omega),hs0_get];exact⟨_,rfl,rfl⟩
  ·rw[gg 2 (by omega),hs0_get];exact⟨_,rfl,rfl⟩
  ·refine⟨tb F,?_,rfl⟩;unfold hC;rw[AH.get_new (by rw[n2];omega),if_neg (by rw[n2];omega),AH.get_new (by rw[n1];omega),if_neg (by rw[n1];omega),AH.get_new (by rw[n0];omega),if_pos n0.symm]
  ·refine⟨tb I,?_,rfl⟩;unfold hC;rw[AH.get_new (by rw[n2];omega),if_neg (by rw[n2];omega),AH.get_new (by rw[n1];omega),if_pos n1.symm]
  rw[m5] at hx;cases hx
 obtain⟨o1,c1,s1⟩:=anySl htv m5;obtain⟨o2,c2,s2⟩:=anySl hpv m5;have h:=he o1 o2 c1 c2;cases hq:couldE prog signs F I nf nl g a nt o1 o2 c1 c2 with
 | none=>rw[hq] at h;cases h
 | some r=>
  rw[hq] at h;obtain⟨v,q⟩:=r;unfold isF at h;split at h
  ·rename_i q' e
   cases e;have hargs:L2 (S3 m) [Value.agg #[.slice o1 nt c1,.slice o2 0 c2,iA (g:Nat),iA (a:Nat),.slice (some (Ad 3 0)) nf nf],.slice (some (Ad 4 0)) nl nl] [Value.agg #[tv,pv,iA (g:Nat),iA (a:Nat),.slice (some (Ad gF 0)) nf cF],.slice (some (Ad gI 0)) nl cI]:=by
    refine .cons (.inl (.inr ⟨_,_,rfl,rfl,?_⟩)) (.cons (S0.s3 ?_) .nil)
    ·refine .cons s1 (.cons s2 (.cons (.inl (s0_int _ _ fun _=>by omega)) (.cons (.inl (s0_int _ _ fun _=>by omega)) (.cons (.inl ?_) .nil))));exact⟨rfl,hcf,fun q=>by omega,rfl,rfl,.inr ⟨_,m3,rfl,by simp,by simp⟩⟩
    exact⟨rfl,hcl,fun q=>by omega,rfl,rfl,.inr ⟨_,m4,rfl,by simp,by simp⟩⟩
   have:=(evF_ok mixed 2000 HB 100 109 _ (hC signs F I) (.bool false,q) hq).2 m w2 #[.agg #[tv,pv,iA (g:Nat),iA (a:Nat),.slice (some (Ad gF 0)) nf cF],.slice (some (Ad gI 0)) nl cI] R3 hargs;refine Calls.mono this fun e w' hh=>?_;cases e with
   | returned v'=>
    obtain⟨m',R',E',S'⟩:=hh;exact⟨by rw[S'.bool],⟨E'.os,E'.tape,E'.output,E'.size,fun k hk _=>E'.blk k hk fun r x hx _=>hall r x hx⟩⟩
   | _=>exact hh.elim
  cases h
end Tok
open Go.RowKit
open Wire Flow
namespace Tok
open Ev (TabS Kept plainV signs)
theorem read_good {mv:Value}{m:Mo}{w:WL}{f:Nat} (hM:ModIn w mv m) (hMo:MoOk m) (hf:f<m.fns.length) {l:List Stp} (hr:Reads m f (Mach.locsOf m f) (Mach.codeOf m f) l) (hj:badJump l l=none) (hl:0<l.length) :
  Calls prog 60 #[mv,iA f] w fun e w'=>∃ g cap T,e=.returned (.tuple #[.slice (some (Ad g 0)) l.length cap,iA 0,iA 0])∧Fr [] w w'∧w.heap.size≤g∧g<w'.heap.size∧l.length≤cap∧InsM w' g l T∧Joined l T l.length:=by
 obtain⟨x,hx⟩:∃ x,m.fns[f]?=some x:=⟨_,Lge hf⟩;have e1:Mach.fnOf m f=x:=by
  unfold Mach.fnOf;rw[List.getD_eq_getElem?_getD,hx];rfl
 unfold Mach.locsOf Mach.codeOf at hr;rw[e1] at hr;refine (readI_any mv m w f x hM hMo hx).mono ?_;rintro e w' ⟨F,⟨j,y,rfl,hy,-,-,h⟩ | ⟨a0,cap,g,l',T,rfl,hl',hj',hc,hg⟩⟩
 ·rcases h with h | ⟨l',hl',hb,-⟩
  ·exact (reads_not_faulty hr h).elim
  have:=chain_unique hr hl';subst this;rw[hj] at hb;cases hb
 have:=chain_unique hr hl';subst this;obtain⟨rfl,q1,q2,q3,q4⟩:=hg hl;exact⟨g,cap,T,rfl,F,q2,q1,hc,q3,q4⟩
theorem codeM_of {m:Mo}{w:WL}{f g cap:Nat}{l:List Stp}{T:LN} (hr:Reads m f (Mach.locsOf m f) (Mach.codeOf m f) l) (hj:badJump l l=none) (h1:g<w.heap.size) (h2:l.length≤cap) (h3:InsM w g l T) (h4:Joined l T l.length) (hl:(Mach.codeOf m f).length≤20000) (tag:NN) (ht:tag g=9) :
  CodeM m w tag f (.slice (some (Ad g 0)) l.length cap) l:=by
 refine⟨⟨g,cap,T,rfl,h2,h1,ht,⟨h3.len,h3.cell⟩,h4⟩,hr,hj,?_⟩;have:=Chain.le hr (by omega);omega
theorem insV_cell {w:WL}{g:Nat}{l:List Stp}{T:LN} (h:InsM w g l T) {i:Nat}{v:Value} (hv:(insV l T)[i]?=some v):w.cell? (Ad g i)=some v:=by
 have hlen:(l.zip T).length=l.length:=by rw[List.length_zip,h.len];simp
 have hf:∀ p:Stp × Nat,(insC p).length=5:=fun _=>rfl
 have hl5:(insV l T).length=l.length*5:=by
  unfold insV
  rw[List.length_flatMap]
  simp only[hf,List.map_const',List.sum_replicate_nat,hlen]
 have hi:i<l.length*5:=by rw[← hl5];exact (Lgs.1 hv).1
 obtain⟨q,j,hj,rfl⟩:∃ q j,j<5∧i=q*5+j:=⟨i / 5,i % 5,by omega,by omega⟩
 have hq:q<(l.zip T).length:=by rw[hlen];omega
 obtain⟨⟨s,t⟩,hst⟩:∃ p,(l.zip T)[q]?=some p:=⟨_,Lge hq⟩
 obtain⟨hs,ht⟩:=List.getElem?_zip_eq_some.1 hst
 unfold insV at hv
 rw[flat_get (f:=insC) (z:=5) hf hst hj] at hv
 obtain⟨c0,c1,c2,c3,c4⟩:=h.cell q s t hs ht
 match j,hj with
 | 0,_=>cases hv;exact c0
 | 1,_=>cases hv;exact c1
 | 2,_=>cases hv;exact c2
 | 3,_=>cases hv;exact c3
 | 4,_=>cases hv;exact c4
theorem plain_nat {n:Nat}(h:n≤34359738368):plainV (iA (n:Nat))=true:=by
 show Nat.blt n 9223372036854775808=true;rw[Nat.blt_eq];omega
theorem insV_plain {w:WL}{g:Nat}{l:List Stp}{T:LN} (h:InsM w g l T) (hp:∀ s ∈ l,s.pl≤20000):(insV l T).all plainV=true:=by
 rw[List.all_eq_true];intro v hv;obtain⟨⟨s,t⟩,hst,hv⟩:=List.mem_flatMap.1 hv;obtain⟨i,hi⟩:=List.getElem?_of_mem hst;obtain⟨hs,ht⟩:=List.getElem?_zip_eq_some.1 hi;have h1:=hp s (List.mem_of_getElem? hs);have h2:=h.sm t (List.mem_of_getElem? ht);simp only[insC,List.mem_cons,List.not_mem_nil,or_false] at hv;rcases hv with rfl | rfl | rfl | rfl | rfl
 ·rfl
 ·exact plain_nat (by omega)
 ·exact plain_nat (by omega)
 ·exact plain_nat (by omega)
 exact plain_nat (by omega)
def FnGood (m:Mo) (gn an nt k:Nat):Prop:=∃ l,(Reads m k (Mach.locsOf m k) (Mach.codeOf m k) l∧badJump l l=none∧0<l.length∧∀ s ∈ l,opB s.op=true)∧∀ T,T.length=l.length→Joined l T l.length→∀ o1 o2 c1 c2,isF (couldE prog signs (fnsV m) (insV l T) m.fns.length l.length gn an nt o1 o2 c1 c2)=true
theorem check_good (HB:BothOk){m:Mo}{gn an:Nat}{W0 w:WL} (ht:TabS signs W0) (K1:Kept W0 w) (hMo:MoOk m) (hgn:m.globs=(gn:Nat)) (han:m.arrs=(an:Nat)) {a0 a1:OA}{c0 c1 gF cF nt nf:Nat} (hnf:m.fns.length=nf) (hnt:m.texts.length=nt) (htv:StrsIn w (.slice a0 nt c0) m.texts) (hpv:StrsIn w (.slice a1 0 c1) m.pats) (hfv:FnsIn w (.slice (some (Ad gF 0)) nf cF) m.fns)
  (hat:AnySl (.slice a0 nt c0) nt) (hap:AnySl (.slice a1 0 c1) 0) (hF1:W0.heap.size≤gF) (hF2:gF<w.heap.size) (hFc:∀ i v,(fnsV m)[i]?=some v→w.cell? (Ad gF i)=some v) (hFp:(fnsV m).all plainV=true) (h3:3≤nf) (hcF:nf≤cF) (hpl:m.fns.all (fun x=>decide (x.code.size≤20000))=true)
  (hG:∀ k,k<nf→FnGood m gn an nt k) :
  Calls prog 52 #[.agg #[.slice a0 nt c0,.slice a1 0 c1,iA (gn:Nat),iA (an:Nat),.slice (some (Ad gF 0)) nf cF]] w fun e w'=>e=.returned (.tuple #[iA 0,iA 0,iA 0])∧Fr [] w w':=by
 obtain⟨mv,hmv⟩:=eXi (Value.agg #[.slice a0 nt c0,.slice a1 0 c1,iA (gn:Nat),iA (an:Nat),.slice (some (Ad gF 0)) nf cF]);have hM:ModIn w mv m:=⟨_,_,_,by rw[← hmv,hgn,han],htv,hpv,hfv⟩;have hgs:=hMo.g;have has:=hMo.a;have hn1:=hMo.f.n;have HC:Hid (∀ V k,Fr [] w V→k<nf→Calls prog 60 #[mv,iA (k:Nat)] V fun e w'=>∃ g cap n:Nat,e=.returned (.tuple #[.slice (some (Ad g 0)) n cap,iA 0,iA 0])∧Fr [] V w'∧∀ V',Fr [] w' V'→Calls prog 109 #[mv,.slice (some (Ad g 0)) n cap] V' fun e w'=>e=.returned (.bool false)∧Fr [] V' w'):=by
  intro V k F hk;obtain⟨l,⟨q1,q2,q3,-⟩,q4⟩:=hG k hk;refine (read_good (hM.fr F) hMo (by omega) q1 q2 q3).mono ?_;rintro e w' ⟨g,cap,T,rfl,F',z1,z2,z3,z4,z5⟩;refine⟨g,cap,l.length,rfl,F',fun V' FV=>?_⟩;have hsmall:∀ s ∈ l,s.pl≤20000:=fun s hs=>by
   have h1:=Chain.pls q1 s hs;obtain⟨x,hx⟩:∃ x,m.fns[k]?=some x:=⟨_,Lge (by omega)⟩;have h2:=List.all_eq_true.1 hpl x (List.mem_of_getElem? hx);have e1:Mach.fnOf m k=x:=by unfold Mach.fnOf;rw[List.getD_eq_getElem?_getD,hx];rfl
   unfold Mach.codeOf at h1;rw[e1,bl_length] at h1;have:=of_decide_eq_true h2;omega
  have F2:=(F.trans F').trans FV;rw[← hmv];exact could_of HB ht K1 (F2.kept) hF1 hF2 hFc hFp (by omega) hcF (by have:=F.size;omega) (Nll z2 FV.size) (fun i v hv=>(FV.cell (p:=Ad g i) z2 (by simp)).trans (insV_cell z4 hv)) (insV_plain z4 hsmall) q3 z3 (by omega) (by omega) hat hap (fun o1 o2 c1 c2=>by
   have:=q4 T z4.len z5 o1 o2 c1 c2;rw[hnf] at this;exact this)
 have F0:Fr [] w (w.alloc (.cells #[.slice a0 nt c0,.slice a1 0 c1,iA (gn:Nat),iA (an:Nat),.slice (some (Ad gF 0)) nf cF] 70)):=(Fr.refl [] w).alloc _;have k0:=wan w (.cells #[.slice a0 nt c0,.slice a1 0 c1,iA (gn:Nat),iA (an:Nat),.slice (some (Ad gF 0)) nf cF] 70);obtain⟨W1,hW1⟩:=eXi (w.alloc (.cells #[.slice a0 nt c0,.slice a1 0 c1,iA (gn:Nat),iA (an:Nat),.slice (some (Ad gF 0)) nf cF] 70));rw[hW1] at F0 k0;have kl:=(Age.1 k0).1;have hst:∀ W,Fr [] W1 W→W.cell? (Ad w.heap.size 0)=some (.slice a0 nt c0)∧W.cell? (Ad w.heap.size 1)=some (.slice a1 0 c1)∧W.cell? (Ad w.heap.size 2)=some (iA (gn:Nat))∧W.cell? (Ad w.heap.size 3)=some (iA (an:Nat))∧W.cell? (Ad w.heap.size 4)=some (.slice (some (Ad gF 0)) nf cF):=fun W hW=>by
  have e1:∀ j v,(#[.slice a0 nt c0,.slice a1 0 c1,iA (gn:Nat),iA (an:Nat),.slice (some (Ad gF 0)) nf cF]:Array Value)[j]?=some v→W.cell? (Ad w.heap.size j)=some v:=fun j v hv=>by
   unfold World.cell?;rw[hW.block _ kl (by simp),k0];exact hv
  exact⟨e1 0 _ rfl,e1 1 _ rfl,e1 2 _ rfl,e1 3 _ rfl,e1 4 _ rfl⟩
 obtain⟨-,-,-,-,d4⟩:=hst W1 (Fr.refl [] W1);have HS:Hid _:=hst;have HF0:Hid _:=F0;rw[← hmv] at HC;clear hM hmv hst k0 hMo htv hpv hfv hat hap hFc hFp hG K1 ht hgs has F0 kl hpl;go_enter func52,ntmps52;go_wp2;clear hW1
 go_loopw [12] (fun i wr=>∃ k:Nat,k≤nf∧i=iA (k:Nat)∧Hid (Fr [] W1 wr)) (fun i _=>nf-(intOf i).toNat)
 case atStart=>exact⟨0,by omega,rfl,Fr.refl [] _⟩
 case round=>
  clear d4;obtain⟨k,hk,rfl,HF⟩:=hrel;by_cases hlt:k<nf
  ·have g1:(k:Int)<nf:=by omega
   obtain⟨d0,d1,d2,d3,d4⟩:=HS.out wr HF.out;have HR:Hid _:=fun (_:Unit)=>HC.out wr k (HF0.out.trans HF.out) hlt;go_wp2_with fail;refine Calls.mono (HR.out ()) ?_;rintro e w2 ⟨g',cap,n,rfl,F2,hW⟩;have HF2:Hid (Fr [] W1 w2):=HF.out.trans F2;have HW:Hid _:=fun (_:Unit)=>hW w2 (Fr.refl [] w2);clear d0 d1 d2 d3 d4 HR F2 hW HF;obtain⟨d0,d1,d2,d3,d4⟩:=HS.out w2 HF2.out;go_wp2_with fail;refine Calls.mono (HW.out ()) ?_;rintro e w3 ⟨rfl,F3⟩;have HF3:Hid (Fr [] W1 w3):=HF2.out.trans F3;clear d0 d1 d2 d3 d4 HW F3 HF2;go_wp2;exact⟨⟨k+1,by omega,by go_num,HF3.out⟩,by simp[intOf];omega⟩
  obtain rfl:k=nf:=by omega
  have g1:¬ (k:Int)<k:=by omega
  go_wp2;go_ret3;exact⟨rfl,HF0.out.trans HF.out⟩
end Tok
open Go.RowKit
open Wire Flow
namespace Tok
open Ev (TabS Kept plainV signs)
structure GoodM (m:Mo) (gn an:Nat):Prop where
 win:within ipF m=true
 pt:m.pats=[]
 gl:m.globs=(gn:Nat)
 ar:m.arrs=(an:Nat)
 mo:MoOk m
 three:3≤m.fns.length
 fns:∀ k,k<m.fns.length→FnGood m gn an m.texts.length k
 ok:Mach.ModOk m
 len:(Wire.written m).length≤40000
theorem GoodM.plain {m:Mo}{gn an:Nat} (h:GoodM m gn an):(fnsV m).all plainV=true:=by
 rw[List.all_eq_true];intro v hv;obtain⟨x,hx,hv⟩:=List.mem_flatMap.1 hv;obtain⟨p1,p2,p3,p4,p5⟩:=h.mo.f.p x hx;have key:∀ z:Int,z≤1000→plainV (iA z)=true:=fun z hz=>by
  show Ev.ilt z 9223372036854775808=true;rw[Ev.ilt_eq];exact decide_eq_true (by omega)
 simp only[fnC,List.mem_cons,List.not_mem_nil,or_false] at hv;rcases hv with rfl | rfl | rfl
 ·exact key _ (by omega)
 ·exact key _ (by omega)
 rfl
theorem own_any {W:WL}{B e z n:Nat}{v:Value}{xs:LV} (h:W.ownsRow B e z v n xs):AnySl v n:=by
 rcases h.2 with ⟨rfl,rfl⟩ | ⟨g,cap,cur,rfl,_⟩
 ·exact .inl rfl
 exact .inr ⟨_,cap,rfl,rfl⟩
def ChkG (m:Mo) (gn an:Nat) (W:WL) (e:Ending) (w:WL):Prop:=
 Fr [] W w∧∃ (a0 a1:OA) (c0 c1 gF cF:Nat),e=.returned (.tuple #[.agg #[.slice a0 m.texts.length c0,.slice a1 0 c1,.int .i64 (gn:Nat),.int .i64 (an:Nat),.slice (some ⟨gF,0,none⟩) m.fns.length cF],.int .i64 0,.int .i64 0,.int .i64 0])∧W.heap.size≤gF∧gF<w.heap.size∧m.fns.length≤cF∧(∀ i v,(fnsV m)[i]?=some v→w.cell? ⟨gF,i,none⟩=some v)∧StrsFar W.heap.size w (.slice a0 m.texts.length c0) m.texts
theorem checked_good (HB:BothOk){m:Mo}{gn an:Nat} (hG:GoodM m gn an) {b:BA} (hu:bl b=Wire.written m) {w:WL} (ht:TabS signs w) (hT0:1<w.heap.size):Calls prog 31 #[.string b] w (ChkG m gn an w):=by
 have hm:b.size≤40000:=by rw[← bl_length,hu];exact hG.len
 obtain⟨W1,hW1⟩:=eXi (w.alloc (.cells #[.slice none 0 0,.slice none 0 0,iA 0,iA 0,.slice none 0 0] 70));have F1:=frA hW1
 have k1:W1.heap[w.heap.size]?=some (.cells #[.slice none 0 0,.slice none 0 0,iA 0,iA 0,.slice none 0 0] 70):=by rw[← hW1];exact wan w _
 have HU:Hid _:=unpackG b W1 hG.win hu hm trivial (Nll hT0 F1.size);have hT1:TabS signs W1:=tabS_fr ht F1;have H1:Hid _:=AI F1 (AI k1 hT1);have HG:Hid _:=hG;clear F1 k1 hu hG ht hT1;go_enter func31,ntmps31;go_wp2_with fail;refine Calls.mono HU.out ?_;rintro e W2 ⟨F2,a0,a1,a4,n0,c0,n1,c1,n4,c4,gn',an',rfl,hF⟩;have hF0:=hF;obtain⟨tv,pv,fv,e5,hS0,hS1,hS4,-⟩:=hF;simp only[Value.agg.injEq,Array.mk.injEq,List.cons.injEq,Value.int.injEq,true_and,and_true] at e5;obtain⟨e50,e51,e52,e53,e54⟩:=e5;subst e50 e51 e54;obtain rfl:gn'=gn:=by have:=HG.out.gl;omega
 obtain rfl:an'=an:=by have:=HG.out.ar;omega
 obtain rfl:n0=m.texts.length:=by obtain⟨_,_,_,_,e,-⟩:=hS0;cases e;rfl
 obtain rfl:n1=0:=by obtain⟨_,_,_,_,e,-⟩:=hS1;cases e;rw[HG.out.pt];rfl
 obtain rfl:n4=m.fns.length:=by obtain⟨_,_,_,_,e,-⟩:=hS4;cases e;rfl
 obtain⟨gF,rfl,hgF1,hgF2,hcF⟩:∃ gF,a4=some (Ad gF 0)∧W1.heap.size≤gF∧gF<W2.heap.size∧m.fns.length≤c4:=by
  have h3:=HG.out.three;rcases hS4.own.2 with ⟨_,h0⟩ | ⟨g,cap,cur,hv,hb,hg,hn,_⟩
  ·omega
  cases hv;exact⟨g,rfl,hb,(Age.1 hg).1,hn⟩
 have hcells:∀ i v,(fnsV m)[i]?=some v→W2.cell? (Ad gF i)=some v:=fun i v hv=>own_cell hS4.own hv;obtain⟨W3,hW3⟩:=eXi (W2.alloc (.cells #[.slice a0 m.texts.length c0,.slice a1 0 c1,iA gn',iA an',.slice (some (Ad gF 0)) m.fns.length c4] 70));have F3:=frA hW3
 have k3:W3.heap[W2.heap.size]?=some (.cells #[.slice a0 m.texts.length c0,.slice a1 0 c1,iA gn',iA an',.slice (some (Ad gF 0)) m.fns.length c4] 70):=by rw[← hW3];exact wan W2 _
 obtain⟨⟨q0,q1,q2,q3,q4⟩,-⟩:=cells5F k3;have HC:Hid _:=fun (_:Unit)=>check_good HB H1.out.2.2 ((F2.trans F3).kept) HG.out.mo HG.out.gl HG.out.ar (a0:=a0) (a1:=a1) (c0:=c0) (c1:=c1) (gF:=gF) (cF:=c4) rfl rfl
  (by obtain⟨x0,x1,x2,x3,z1,z2,z3,z4,-⟩:=hS0.fr F3 (by simp);exact⟨x0,x1,x2,x3,z1,z2,fun h=>⟨(z3 h).1,(z3 h).2.1⟩,z4⟩)
  (by obtain⟨x0,x1,x2,x3,z1,z2,z3,z4,-⟩:=hS1.fr F3 (by simp);exact⟨x0,x1,x2,x3,z1,z2,fun h=>⟨(z3 h).1,(z3 h).2.1⟩,z4⟩)
  ((hS4.fr F3 (by simp)).fns) (own_any hS0.own) (by have:=own_any hS1.own;rw[HG.out.pt] at this;exact this) hgF1 (Nll hgF2 F3.size) (fun i v hv=>(F3.cell (p:=Ad gF i) hgF2 (by simp)).trans (hcells i v hv)) HG.out.plain HG.out.three hcF
  (by rw[List.all_eq_true];intro x hx;exact decide_eq_true (HG.out.mo.f.p x hx).2.2.2.2) (fun k hk=>HG.out.fns k hk)
 have H2:Hid _:=AI F2 (AI hS0 (AI hcells (AI hgF1 (AI hgF2 hcF))));have H3:Hid _:=AI F3 k3;clear F3 k3 F2 hS0 hS1 hS4 hF0 hcells hgF1 hgF2 hcF HU e52 e53;go_wp2_with fail;refine Calls.mono (HC.out ()) ?_;rintro e W4 ⟨rfl,F4⟩;have l1:w.heap.size<W1.heap.size:=(Age.1 H1.out.2.1).1;have l2:W1.heap.size≤W2.heap.size:=H2.out.1.size;have l3:W2.heap.size<W3.heap.size:=(Age.1 H3.out.2).1;have FA:Fr [] W1 W4:=(H2.out.1.trans H3.out.1).trans F4;have k4:=(FA.block w.heap.size l1 (by simp)).trans H1.out.2.1;have k5:=(F4.block W2.heap.size l3 (by simp)).trans H3.out.2;obtain⟨⟨r0,r1,r2,r3,r4⟩,-⟩:=cells5F k5;obtain⟨⟨s0,s1,s2,s3,s4⟩,fz⟩:=cells5F k4;have f0:=fz 0;have f1:=fz 1;have f2:=fz 2;have f3:=fz 3;have f4:=fz 4;have HS:Hid _:=set5_block k4;have HF:Hid _:=AI (H1.out.1.trans FA) (AI l1 (AI l2 (H3.out.1.trans F4)));clear FA k4 k5 q0 q1 q2 q3 q4 F4 fz H1 H3 l1 l2 l3 HC;generalize hnf:m.fns.length=nf at *;generalize hnt:m.texts.length=nt at *;have HN:Hid _:=AI hnf hnt;clear hnf hnt;go_wp2_with fail;refine bodyPost_ret (results_row3 rfl _ _ w.heap.size 70 #[.slice a0 nt c0,.slice a1 0 c1,iA gn',iA an',.slice (some (Ad gF 0)) nf c4] (0,0) _ rfl (HS.out _ _ _ _ _) underlying70 rfl (by kernel_rfl)) rfl ?_;have hl:=Nat.le_refl w.heap.size;have FS:Fr [w.heap.size] W4 (set5W W4 w.heap.size (.slice a0 nt c0) (.slice a1 0 c1) (iA gn') (iA an') (.slice (some (Ad gF 0)) nf c4)):=((((((Fr.refl [w.heap.size] W4).setCell (.inl (by simp)) _).setCell (.inl (by simp)) _).setCell (.inl (by simp)) _).setCell (.inl (by simp)) _).setCell (.inl (by simp)) _);obtain⟨G1,G2,G3,G4⟩:=HF.out;obtain⟨-,T1,T2,T3,T4,T5⟩:=H2.out;have l4:gF<W4.heap.size:=Nll T4 G4.size;refine⟨((((G1.setCell (.inr hl) _).setCell (.inr hl) _).setCell (.inr hl) _).setCell (.inr hl) _).setCell (.inr hl) _,a0,a1,c0,c1,gF,c4,?_,by omega,Nll l4 FS.size,?_,fun i v hv=>?_,?_⟩
 ·rw[HN.out.1,HN.out.2];rfl
 ·rw[HN.out.1];exact T5
 ·exact (FS.cell (p:=Ad gF i) l4 (by simp;omega)).trans ((G4.cell (p:=Ad gF i) T4 (by simp)).trans (T2 i v hv))
 rw[HN.out.2];exact ((T1.fr G4 (by simp)).fr FS (by simp;omega)).base (by omega)
end Tok
open Go.RowKit
open Wire Flow
namespace Tok
open Ev (TabS Kept plainV signs)
theorem GoodM.fnCells {m:Mo}{gn an:Nat} (h:GoodM m gn an) {w:WL}{b:Nat} (hF:∀ i u,(fnsV m)[i]?=some u→w.cell? (Ad b i)=some u) {k:Nat}{x:Wire.Fn} (hk:m.fns[k]?=some x):w.cell? (Ad b (0+k*3))=some (iA (Mach.parOf m k:Nat))∧w.cell? (Ad b (0+k*3+1))=some (iA x.locs)∧w.cell? (Ad b (0+k*3+2))=some (.string x.code):=by
 have hp:x.params=(Mach.parOf m k:Nat):=by
  have:=(h.mo.f.p x (List.mem_of_getElem? hk)).1;have e:Mach.parOf m k=x.params.toNat:=by
   unfold Mach.parOf Mach.fnOf;rw[List.getD_eq_getElem?_getD,hk];rfl
  rw[e];omega
 have key:∀ j,j<3→(fnsV m)[k*3+j]?=(fnC x)[j]?:=fun j hj=>flat_get (f:=fnC) (z:=3) (fun _=>rfl) hk hj;rw[Nat.zero_add];exact⟨by rw[← hp];exact hF _ _ ((key 0 (by omega)).trans rfl),hF _ _ ((key 1 (by omega)).trans rfl),hF _ _ ((key 2 (by omega)).trans rfl)⟩
theorem GoodM.reads {m:Mo}{gn an:Nat} (h:GoodM m gn an) {w:WL}{mv:Value} (hM:ModIn w mv m) {k:Nat} (hk:k<m.fns.length) :
  Calls prog 60 #[mv,iA (k:Nat)] w fun e w'=>∃ g cap l,e=.returned (.tuple #[.slice (some (Ad g 0)) (l:List Stp).length cap,iA 0,iA 0])∧Fr [] w w'∧w.heap.size≤g∧∀ tag:NN,tag g=9→CodeM m w' tag k (.slice (some (Ad g 0)) l.length cap) l:=by
 obtain⟨l,⟨q1,q2,q3,-⟩,-⟩:=h.fns k hk;refine (read_good hM h.mo hk q1 q2 q3).mono ?_;rintro e w' ⟨g,cap,T,rfl,F',z1,z2,z3,z4,z5⟩;refine⟨g,cap,l,rfl,F',z1,fun tag ht=>codeM_of q1 q2 z2 z3 z4 z5 ?_ tag ht⟩;obtain⟨x,hx⟩:∃ x,m.fns[k]?=some x:=⟨_,Lge hk⟩;have e1:Mach.fnOf m k=x:=by unfold Mach.fnOf;rw[List.getD_eq_getElem?_getD,hx];rfl
 unfold Mach.codeOf;rw[e1,bl_length];exact (h.mo.f.p x (List.mem_of_getElem? hx)).2.2.2.2
theorem strs_ro {W V:WL}{a0:OA}{n c0:Nat}{L:LY} (h:StrsFar W.heap.size V (.slice a0 n c0) L):RoL V (fun k=>if k<W.heap.size then 6 else 9) (.slice a0 n c0) (L.map .string)∧StrsIn V (.slice a0 n c0) L:=by
 have ho:=h.own;obtain⟨x0,x1,x2,x3,z1,z2,z3,z4,-⟩:=h;cases z1;refine⟨⟨a0,c0,by rw[List.length_map],by rw[List.length_map];exact z2,?_,fun h0=>?_⟩,⟨a0,c0,x2,x3,rfl,z2,fun h=>⟨(z3 h).1,(z3 h).2.1⟩,z4⟩⟩
 ·rcases ho.2 with ⟨e,_⟩ | ⟨g,cap,cur,e,_,_,_,hm,_⟩
  ·simp only[Value.slice.injEq] at e;omega
  simp only[Value.slice.injEq] at e;unfold maxLen at hm;omega
 rw[List.length_map] at h0;obtain⟨q1,q2,q3⟩:=z3 h0;refine⟨x2,x3,q1,q2,if_neg (by omega),fun i v hv=>?_⟩;rw[List.getElem?_map] at hv;cases hq:L[i]? with
 | none=>rw[hq] at hv;cases hv
 | some s=>rw[hq] at hv;cases hv;exact z4 i s hq
section
variable {m:Mo}{W:WL}{recs:LY}{draws:List Int}
theorem open_good (HB:BothOk){gn an:Nat}(hC:GoodM m gn an){b:BA}(hu:bl b=Wire.written m)(hb:Base W)(h1w:1<W.heap.size)(ht:TabS signs W){ro do_:OA}{rc dc nr nd:Nat} (hr:ArgL W (.slice ro nr rc) (recs.map .string)) (hd:ArgL W (.slice do_ nd dc) (draws.map (.int .i64))) :
  Calls prog 20 #[.string b,.slice ro nr rc,.slice do_ nd dc] W (OpnP m recs draws W):=by
 have HU:Hid _:=checked_good HB hC hu ht h1w;have HS:Hid (∀ V,Fr [] W V→Calls prog 32 #[.slice ro nr rc,.slice do_ nd dc] V (IsB (Scr recs draws) V)):=fun V F=>isScript_any (hr.fr F) (hd.fr F);have HN:Hid (∀ V (a0 a1:OA) (c0 c1 g c:Nat),Fr [] W V→W.heap.size≤g→g<V.heap.size→m.fns.length≤c→(∀ i u,(fnsV m)[i]?=some u→V.cell? (Ad g i)=some u)→StrsFar W.heap.size V (.slice a0 m.texts.length c0) m.texts→Scr recs draws→Calls prog 33 #[.agg #[.slice a0 m.texts.length c0,.slice a1 0 c1,iA (gn:Nat),iA (an:Nat),.slice (some (Ad g 0)) m.fns.length c],.slice ro nr rc,.slice do_ nd dc] V fun e w=>∃ X g tag,e=.returned (ptr X)∧MM (envP m) X g (ms0 m recs draws) w tag∧g.en=0∧Kp (fun k=>if k<W.heap.size then 6 else 9) tag V w):=by
  intro V a0 a1 c0 c1 g c F h1 h2 h3 h4 hst hs;have hp0:m.pats.length=0:=by rw[hC.pt];rfl
  have key:=fun (U:WL) (G:Fr [] V U) (i:Nat) (u:Value) (hi:(fnsV m)[i]?=some u)=>(G.cell (p:=Ad g i) h2 (by simp)).trans (h4 i u hi);obtain⟨hro,hsi⟩:=strs_ro hst;have hgs:=hC.mo.g;have has:=hC.mo.a;have hgl:=hC.gl;have har:=hC.ar;have hM:∀ U,Fr [] V U→ModIn U (.agg #[.slice a0 m.texts.length c0,.slice a1 m.pats.length c1,iA (gn:Nat),iA (an:Nat),.slice (some (Ad g 0)) m.fns.length c]) m:=fun U G=>by
   refine⟨_,_,_,by rw[hgl,har],hsi.fr G,?_,⟨_,c,g,0,rfl,h3,fun _=>⟨rfl,Nll h2 G.size⟩,fun i x hx=>?_⟩⟩
   ·rw[hC.pt];by_cases hz:True
    ·exact⟨a1,c1,0,0,rfl,Nat.zero_le _,by simp,by simp⟩
    exact absurd trivial hz
   have kk:=fun j (hj:j<3)=>flat_get (f:=fnC) (z:=3) (fun _=>rfl) hx hj;rw[Nat.zero_add];exact⟨key U G _ _ ((kk 0 (by omega)).trans rfl),key U G _ _ ((kk 1 (by omega)).trans rfl),key U G _ _ ((kk 2 (by omega)).trans rfl)⟩
  have:=new_any (m:=m) (W:=V) (t0:=fun k=>if k<W.heap.size then 6 else 9) (recs:=recs) (draws:=draws) (hb.fr F) (fun k _=>by show (if _ then _ else _)<10;split <;> decide) (a0:=a0) (a1:=a1) (a4:=some (Ad g 0)) (n0:=m.texts.length) (c0:=c0) (c1:=c1) (c4:=c) hC.gl hC.ar (by omega) (by omega) hp0 hC.mo.f.n hC.three
   (fun U k x G hk=>⟨g,0,rfl,hC.fnCells (key U G) hk⟩)
   (fun U k G hk=>hC.reads (hM U G) hk)
   hro (hr.fr F) (hd.fr F) hs
  rw[hp0] at this;exact this
 have HK:Hid (Mach.ModOk m):=hC.ok;have h3:0<m.fns.length:=by have:=hC.three;omega
 have hbd:=build53;clear hb hr hd ht hC hu h1w;go_enter func20,ntmps20;go_wp2_with fail;refine Calls.mono HU.out ?_;rintro e V ⟨FV,a0,a1,c0,c1,g,c,rfl,hg1,hg2,hc,hcell,hst⟩;obtain⟨W3,hW3⟩:=eXi (V.alloc (.cells #[.slice a0 m.texts.length c0,.slice a1 0 c1,iA (gn:Nat),iA (an:Nat),.slice (some (Ad g 0)) m.fns.length c] 70));have F3:=frA hW3
 have k3:W3.heap[V.heap.size]?=some (.cells #[.slice a0 m.texts.length c0,.slice a1 0 c1,iA (gn:Nat),iA (an:Nat),.slice (some (Ad g 0)) m.fns.length c] 70):=by rw[← hW3];exact wan V _
 obtain⟨⟨q0,q1,q2,q3,q4⟩,-⟩:=cells5F k3;have H3:Hid _:=AI (FV.trans F3) (fun (hs:Scr recs draws)=>HN.out W3 a0 a1 c0 c1 g c (FV.trans F3) hg1 (Nll hg2 F3.size) hc (fun (i:Nat) (u:Value) (hi:(fnsV m)[i]?=some u)=>(F3.cell (p:=Ad g i) hg2 (by simp)).trans (hcell i u hi)) (hst.fr F3 (by simp)) hs);clear FV F3 k3 HU hc hg1 hg2 hcell h3 hst HN;generalize m.fns.length=nf at *;generalize m.texts.length=nt at *;go_wp2_with fail;refine Calls.mono (HS.out W3 H3.out.1) ?_;rintro e V' ⟨bb,rfl,hbb,hV'⟩;replace hV':=hV'.symm;subst hV';cases bb with
 | false=>
  go_wp2_with fail;go_ret2;exact⟨H3.out.1,.inl ⟨(fun h=>(by have:=hbb.2 h;cases this)),rfl⟩⟩
 | true=>
  have hs:=hbb.1 rfl;have H4:Hid _:=hs;clear hbb hs;go_wp2_with fail;refine Calls.mono (H3.out.2 H4.out) ?_;rintro e V2 ⟨X,g',tag,rfl,hM,hg,K⟩;have HM:Hid _:=AI hM (AI hg K);clear hM hg K q0 q1 q2 q3 q4 HS;go_wp2_with fail;go_ret2;obtain⟨hM,hg,K⟩:=HM.out;have F5:Fr [] V2 (V2.alloc (.cells #[ptr X] 77)):=(Fr.refl [] V2).alloc _;obtain⟨t,M5,K5,h6⟩:=MM.box hM F5;have F4:Fr [] W3 V2:=⟨K.os,K.tape,K.output,K.size,fun k hk _=>K.blk k hk (by show (if _ then _ else _)<10;split <;> decide)⟩
  refine⟨(H3.out.1.trans F4).trans F5,.inr ⟨H4.out,V2.heap.size,rfl,X,t,rst_begin HK.out H4.out M5 hg ?_ (by rw[h6 _ (Nat.le_refl _)];decide),fun k hk=>?_,Nat.le_trans H3.out.1.size K.size⟩⟩
  ·show World.cell? _ _=_;unfold World.cell?;rw[wan];rfl
  have l3:k<W3.heap.size:=Nll hk H3.out.1.size;rw[K5.ret k (Nll l3 K.size),K.ret k l3];exact if_pos hk
end
end Tok
open Go.RowKit
open Wire Flow
namespace Tok
open Ev (signs)
theorem shows_any (st:Nat)(out:BA)(used:Nat)(W:WL) :
  Calls prog 11 #[stV st 0 out used,.string out,iA (st:Nat)] W fun e w=>e=.returned (.bool true)∧Fr [] W w:=by
 unfold stV;have F1:Fr [] W (W.alloc (.cells #[iA (st:Nat),iA 0,.string out,iA (used:Nat)] 26)):=(Fr.refl [] W).alloc _;have HF:Hid _:=F1;clear F1;go_enter func11,ntmps11;go_wp2_with fail;go_ret;exact⟨rfl,HF.out⟩
structure SrcG (S b:BA) (m:Mo) (gn an:Nat):Prop where
 good:GoodM m gn an
 hu:bl b=Wire.written m
 co:∀ w:WL,Ev.TabS Ev.signs w→Calls prog 19 #[.string S] w fun e w'=>e=.returned (.tuple #[.string b,.int .i64 ((0:Nat):Int),.int .i64 ((0:Nat):Int)])∧Fr [] w w'
theorem GoodM.goE {m:Mo}{gn an:Nat} (h:GoodM m gn an):GoE (envP m):=by
 have hg:=h.mo.g;have ha:=h.mo.a;have hw:=h.win;simp only[within,Bool.and_eq_true,decide_eq_true_eq] at hw;obtain⟨⟨⟨⟨⟨⟨⟨⟨⟨⟨h1,h2⟩,h3⟩,h4⟩,h5⟩,h6⟩,h7⟩,h8⟩,h9⟩,-⟩,h11⟩:=hw;refine goE_of (fun f L hf hL=>by
  obtain⟨l,⟨q1,-,-,q4⟩,-⟩:=h.fns f hf;obtain rfl:=chain_unique q1 hL;exact q4) (fun s hs=>of_decide_eq_true (List.all_eq_true.1 h9 s hs)) (by omega) (by omega) (by rw[h.pt];decide) (by omega) (fun f hf=>?_) h.ok
 have hx:=Lge hf;have h12:=lawfulAll_at m.fns 0 f hf h11;rw[Nat.zero_add,lawful_eq] at h12;unfold Mach.locsOf Mach.fnOf;rw[List.getD_eq_getElem?_getD,hx];simp only[Option.getD_some];omega
theorem results_row1 {P:Program}{fn:Func}{p u:Tmp}{ty:TypeId} (h:fn.results=#[.cell p ty,.tmp u]) (tmps:Array Value) (w:WL) (g:Nat) (t:TypeId) (cs:Array Value) (fr:Nat × Nat) (d:TypeDesc)
  (hp:tmps.getD p undef=.pointer (some (Ad g 0))) (hg:w.heap[g]?=some (.cells cs t fr))
  (hu:P.underlying ty=some d) (hd:(match d with | .struct _ | .array _ _=>true | _=>false)=true) (hi:(P.info? ty).map (·.size)=some cs.size) :
  (results fn tmps).run P w=.ok (.tuple #[.agg cs,tmps.getD u undef]) w:=by
 have hp':tmps[p]?.getD undef=.pointer (some (Ad g 0)):=by simpa using hp
 simp[results,h,hp',asAddr,run_loadVar_row w g t ty cs fr d hg hu hd hi]
theorem _root_.Go.Proofs.YtmolfmgchbjnbaaGreatDoor.Ev.TabS.fr {ss:LY}{w w':WL} (h:Ev.TabS ss w) (F:Fr [] w w'):Ev.TabS ss w':=by
 obtain⟨B,o,c,h1,h2,h3,h4,h5,h6⟩:=h;exact⟨B,o,c,(F.cell (p:=Ad 1 0) (by show 1<_;omega) (by simp)).trans h1,h2,h3,h4,Nll h5 F.size,fun i s hs=>(F.cell (p:=Ad B (i+o)) h5 (by simp)).trans (h6 i s hs)⟩
section
variable {S b:BA}{m:Mo}{gn an:Nat}{W:WL}{recs:LY}
theorem nilD (W:WL):ArgL W (.slice none 0 0) (([]:List Int).map (.int .i64)):=⟨none,0,rfl,Nat.le_refl _,by decide,fun h=>absurd h (by simp)⟩
def PldP (m:Mo) (recs:LY) (W:WL) (e:Ending) (w:WL):Prop:=Fr [] W w∧∃ D,Mach.Plays (envP m) 100000 (Mach.begin_ m recs []) D∧e=.returned (.tuple #[stV D.st D.code D.w.out D.used,.bool true])
theorem played_good (HB:BothOk)(hS:SrcG S b m gn an)(h1w:1<W.heap.size)(hb:Base W)(ht:Ev.TabS Ev.signs W){v:Value}(hr:ArgL W v (recs.map .string))(hs:Scr recs []):Calls prog 9 #[.string S,v] W (PldP m recs W):=by
 obtain⟨W1,hW1⟩:=eXi (W.alloc (.cells #[iA 0,iA 0,.string ⟨#[]⟩,iA 0] 26));obtain⟨W2,hW2⟩:=eXi (W1.alloc (.cells #[iA 0,iA 0,.string ⟨#[]⟩,iA 0] 26));have F1:=frA hW1
 have F2:=frA hW2
 have k1:W1.heap[W.heap.size]?=some (.cells #[iA 0,iA 0,.string ⟨#[]⟩,iA 0] 26):=by rw[← hW1];exact wan W _
 have k2:W2.heap[W1.heap.size]?=some (.cells #[iA 0,iA 0,.string ⟨#[]⟩,iA 0] 26):=by rw[← hW2];exact wan W1 _
 have l1:=(Age.1 k1).1;have l2:=(Age.1 k2).1;have k1':=(F2.block _ l1 (by simp)).trans k1;obtain⟨b4,hb4⟩:=eXi (W.heap.size);obtain⟨b6,hb6⟩:=eXi (W1.heap.size);have HE:Hid _:=hS.good.goE;have HC:Hid _:=hS.co W2 (ht.fr (F1.trans F2));have HO:Hid (∀ V,Fr [] W2 V→Calls prog 20 #[.string b,v,.slice none 0 0] V (OpnP m recs [] V)):=fun V F=>by
  obtain⟨o,c,rfl,h⟩:=hr;exact open_good HB hS.good hS.hu (hb.fr ((F1.trans F2).trans F)) (Nll h1w ((F1.trans F2).trans F).size) (ht.fr ((F1.trans F2).trans F)) (ArgL.fr ⟨o,c,rfl,h⟩ ((F1.trans F2).trans F)) (nilD V)
 have HS:Hid _:=hs;rw[hb4] at k1' l1;rw[hb6] at k2 l2 l1;have HK:Hid _:=AI (F1.trans F2) (AI k1' (AI k2 (AI l1 l2)));clear hS hb ht hr hs F1 F2 k1 k2 k1' l1 l2 h1w HB;go_enter func9,ntmps9;go_wp2_with fail;refine Calls.mono HC.out ?_;rintro e V ⟨rfl,F⟩;have HF:Hid _:=F;clear F HC;go_wp2_with fail;refine Calls.mono (HO.out V HF.out) ?_;rintro e V2 ⟨F2,⟨h,-⟩ | ⟨-,Y,rfl,X,tag,hR,ht6,-⟩⟩
 ·exact absurd HS.out h
 have HR:Hid _:=AI F2 (AI hR ht6);clear F2 hR ht6 HO;go_wp2_with fail;refine Calls.mono (Rst.go (N:=100000) HE.out HR.out.2.1 (by omega) (by show 0+100000≤_;decide)) ?_;rintro e V3 ⟨rfl,D,t,hP,hR3,K3⟩;have F3:Fr [] V V3:=by
  obtain⟨F2,-,h6⟩:=HR.out;exact⟨K3.os.trans F2.os,K3.tape.trans F2.tape,K3.output.trans F2.output,Nat.le_trans F2.size K3.size,fun k hk _=>(K3.blk k (Nll hk F2.size) (by rw[h6 k hk];decide)).trans (F2.block k hk (by simp))⟩
 have H3:Hid _:=AI hP (AI hR3 F3);clear hP hR3 K3 F3 HR;go_wp2_with fail;refine Calls.mono (Rst.tell H3.out.2.1) ?_;rintro e V4 ⟨rfl,F4⟩;obtain⟨FW,k4,k6,l4,l6⟩:=HK.out;have FA:Fr [] W2 V4:=(HF.out.trans H3.out.2.2).trans F4;have hlt:b4<W2.heap.size:=Nat.lt_trans l4 l6;replace k4:=(FA.block b4 hlt (by simp)).trans k4;replace k6:=(FA.block b6 l6 (by simp)).trans k6;have HBB:Hid _:=AI (FW.trans FA) (AI k4 (AI k6 l4));obtain⟨⟨c0,c1,c2,c3⟩,cz⟩:=cells4F k6;obtain⟨⟨d0,d1,d2,d3⟩,dz⟩:=cells4F k4;have f0:=cz 0;have f1:=cz 1;have f2:=cz 2;have f3:=cz 3;have g0:=dz 0;have g1:=dz 1;have g2:=dz 2;have g3:=dz 3;have HP:Hid _:=H3.out.1;have hne:b4≠b6:=by omega
 have hne':b6≠b4:=by omega
 clear FW k4 k6 l4 l6 FA F4 hlt cz dz H3 HK HE HS HF;unfold stV at *;go_wp2_with fail;obtain⟨FW,k4,k6,l4⟩:=HBB.out;have hB4:W.heap.size≤b4:=Nat.le_of_eq hb4;have hB6:W.heap.size≤b6:=Nat.le_trans hB4 (Nat.le_of_lt l4);have kk:∀ x0 x1 x2 x3:Value,((((V4.setCell ⟨b6,0,none⟩ x0).setCell ⟨b6,1,none⟩ x1).setCell ⟨b6,2,none⟩ x2).setCell ⟨b6,3,none⟩ x3).heap[b4]?=some (.cells #[iA 0,iA 0,.string ⟨#[]⟩,iA 0] 26):=fun x0 x1 x2 x3=>by
  rw[Below.heap_setCell _ _ _ _ hne,Below.heap_setCell _ _ _ _ hne,Below.heap_setCell _ _ _ _ hne,Below.heap_setCell _ _ _ _ hne];exact k4
 refine bodyPost_ret (results_row1 rfl _ _ b4 26 #[iA (D.st:Nat),iA D.code,.string D.w.out,iA (D.used:Nat)] (0,0) _ rfl (set4_block (kk _ _ _ _) _ _ _ _) underlying26 rfl (by kernel_rfl)) rfl ?_;refine⟨?_,D,HP.out,rfl⟩;exact (((((((FW.setCell (.inr hB6) _).setCell (.inr hB6) _).setCell (.inr hB6) _).setCell (.inr hB6) _).setCell (.inr hB4) _).setCell (.inr hB4) _).setCell (.inr hB4) _).setCell (.inr hB4) _
end
end Tok
end Go.Proofs.YtmolfmgchbjnbaaGreatDoor
