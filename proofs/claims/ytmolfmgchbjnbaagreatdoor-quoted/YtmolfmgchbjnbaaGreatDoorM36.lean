import Derived.Test.YtmolfmgchbjnbaaGreatDoorM33
import Derived.Test.YtmolfmgchbjnbaaGreatDoorM35
import Derived.Test.YtmolfmgchbjnbaaGreatDoorM34
set_option linter.unusedSimpArgs false
set_option linter.unusedVariables false
set_option linter.unusedSectionVars false
set_option maxRecDepth 100000
set_option maxHeartbeats 40000000
open _root_.Go.Proofs.Tryz
namespace Go.Proofs.YtmolfmgchbjnbaaGreatDoor
open Wire Flow
namespace Tok
open Ev
def CouldL (L:List Ln):Prop:=∀ (F:LV) (nf gn an nt:Nat) (T:LN),T.length=L.length→∀ o1 o2 c1 c2,isF (couldE prog signs F (insV (stpsF 0 L) T) nf L.length gn an nt o1 o2 c1 c2)=true
def couldB (P:Program) (F:LV) (L:List Ln) (T:LN) (nf gn an nt:Nat) (o1 o2:OA) (c1 c2:Nat):Bool:=isF (couldE P signs F (insV (stpsF 0 L) T) nf L.length gn an nt o1 o2 c1 c2)
theorem could_end1 (F:LV)(nf gn an nt t:Nat)(o1 o2:OA)(c1 c2:Nat):couldB prog F [(52,[])] [t] nf gn an nt o1 o2 c1 c2=true:=by kernel_rfl
theorem could_end:CouldL [(52,[])]:=by
 intro F nf gn an nt T hT o1 o2 c1 c2
 match T,hT with
 | [t],_=>exact could_end1 F nf gn an nt t o1 o2 c1 c2
theorem could_pr1 (F:LV)(nf gn an nt t0 t1 t2:Nat)(o1 o2:OA)(c1 c2:Nat):couldB prog F prL [t0,t1,t2] nf gn an nt o1 o2 c1 c2=true:=by kernel_rfl
theorem could_pr:CouldL prL:=by
 intro F nf gn an nt T hT o1 o2 c1 c2
 match T,hT with
 | [t0,t1,t2],_=>exact could_pr1 F nf gn an nt t0 t1 t2 o1 o2 c1 c2
theorem could_ca1 (j k:Int)(F:LV)(nf gn an nt t0 t1 t2 t3 t4 t5 t6 t7 t8 t9 t10 t11 t12 t13 t14 t15 t16 t17 t18 t19 t20 t21 t22:Nat)(o1 o2:OA)(c1 c2:Nat):couldB prog F (caL j k) [t0,t1,t2,t3,t4,t5,t6,t7,t8,t9,t10,t11,t12,t13,t14,t15,t16,t17,t18,t19,t20,t21,t22] nf gn an nt o1 o2 c1 c2=true:=by kernel_rfl
theorem could_ca (j k:Int):CouldL (caL j k):=by
 intro F nf gn an nt T hT o1 o2 c1 c2
 match T,hT with
 | [t0,t1,t2,t3,t4,t5,t6,t7,t8,t9,t10,t11,t12,t13,t14,t15,t16,t17,t18,t19,t20,t21,t22],_=>exact could_ca1 j k F nf gn an nt t0 t1 t2 t3 t4 t5 t6 t7 t8 t9 t10 t11 t12 t13 t14 t15 t16 t17 t18 t19 t20 t21 t22 o1 o2 c1 c2
end Tok
open Go.RowKit
open Wire Flow
namespace Tok
theorem win_mo {m:Mo}(h:within ipF m=true):MoOk m:=by
 simp only[within,Bool.and_eq_true,decide_eq_true_eq] at h;obtain⟨⟨⟨⟨⟨⟨⟨⟨⟨⟨h1,h2⟩,h3⟩,h4⟩,h5⟩,h6⟩,h7⟩,h8⟩,-⟩,-⟩,h9⟩:=h;refine⟨⟨h4,fun x hx=>?_⟩,h1,h2,⟨h5,h6⟩,⟨h7,h8⟩⟩;obtain⟨k,hk⟩:=List.getElem?_of_mem hx;obtain⟨hk1,rfl⟩:=Lgs.1 hk;have:=lawfulAll_at m.fns 0 k hk1 h9;rw[lawful_eq] at this;obtain⟨⟨a,b⟩,⟨c,d⟩,e⟩:=this;refine⟨a,?_,by omega,by omega,e⟩;split at b <;> omega
theorem fnsB_len:∀ (l:List Wire.Fn)(c:Nat),(∀ x ∈ l,x.code.size≤c)→(fnsB l).length≤l.length*(30+c)
 | [],_,_=>by simp[fnsB]
 | x :: l,c,h=>by
  have h1:=fnsB_len l c fun y hy=>h y (by simp[hy])
  have h2:=h x (by simp)
  have h3:=digs_len x.params.toNat
  have h4:=digs_len x.locs.toNat
  have h5:=digs_len x.code.size
  have h6:=bl_length x.code
  unfold fnsB at h1 ⊢
  rw[List.flatMap_cons,Lla,List.length_cons,Nat.add_mul]
  have:(Wire.fnB x).length≤30+c:=by
   unfold Wire.fnB Wire.textB
   simp only[Lla]
   first | omega | (rw[h6];omega)
  omega
theorem stps_ops:∀ {L:List Ln},(∀ x ∈ L,opB x.1=true)→∀ (i:Nat),∀ s ∈ stpsF i L,opB s.op=true
 | [],_,_,s,hs=>by cases hs
 | x :: L,h,i,s,hs=>by
  rcases List.mem_cons.1 hs with rfl | hs
  ·exact h x (by simp)
  ·exact stps_ops (fun y hy=>h y (by simp[hy])) _ s hs
theorem lnsC_size (L:List Ln):(lnsC L).size=(L.flatMap lnB).length:=by simp[lnsC,ByteArray.size]
theorem fit_end {m:Mo}{f:Nat} (h:f<3):Fit m f 0 (52,[]):=by
 refine⟨?_,by decide,.inl ⟨rfl,rfl⟩⟩;rcases (show f=0∨f=1∨f=2 by omega) with rfl | rfl | rfl <;> rfl
theorem end_each (par:NN):eachB par (stpsF 0 [(52,[])]) [some []] 0 (stpsF 0 [(52,[])]) [some []]=true:=rfl
theorem lawful0 {c:BA}(h:c.size≤20000)(i:Nat):lawful ⟨0,0,c⟩ i=true:=by
 rw[lawful_eq];refine⟨⟨Int.le_refl 0,?_⟩,⟨Int.le_refl 0,by simp⟩,h⟩;split <;> simp
theorem pack_good {m:Mo}{gn an:Nat} (h:GoodM m gn an):packS m=mkB (Wire.written m)∧packE m=0:=by
 have:within ipF m=true∧(Wire.written m).length≤40000:=⟨h.win,h.len⟩;unfold packS packE;rw[if_pos this,if_pos this];exact⟨rfl,rfl⟩
theorem textsB_len:∀ (l:LY),(∀ x ∈ l,x.size≤100)→(textsB l).length≤l.length*110
 | [],_=>by simp[textsB]
 | x :: l,h=>by
  have h1:=textsB_len l fun y hy=>h y (by simp[hy])
  have h2:=h x (by simp)
  have h5:=digs_len x.size
  have h6:=bl_length x
  unfold textsB at h1 ⊢
  rw[List.flatMap_cons,Lla,List.length_cons,Nat.add_mul]
  have:(Wire.textB x).length≤110:=by
   unfold Wire.textB
   simp only[Lla]
   first | omega | (rw[h6];omega)
  omega
section
variable {ts:LY}{g:Nat}{fns:List Wire.Fn}{L:List Ln}
theorem txMo_len {c:Nat}(h:∀ x ∈ fns,x.code.size≤c)(hb:fns.length*(30+c)≤30000)(ht:∀ x ∈ ts,x.size≤100)(hn:ts.length≤3):(Wire.written (txMo ts g fns)).length≤40000:=by
 have h1:=fnsB_len fns c h;have h2:=digs_len fns.length;have h3:=digs_len (digs fns.length++fnsB fns).length;have e1:(sect 5 (fnsL fns)).length≤30000+30:=by
  unfold sect fnsL;simp only[List.length_cons,Lla] at h3 ⊢;omega
 have e3:∀ (k:Nat) (l:LY),(∀ x ∈ l,x.size≤100)→l.length≤3→(sect k (listing l)).length≤400:=fun k l hl hn=>by
  have:=digs_len (listing l).length;unfold sect;have e4:(listing l).length≤350:=by
   have:=digs_len l.length;have:=textsB_len l hl;unfold listing;simp only[Lla];omega
  simp only[List.length_cons,Lla];omega
 have e5:∀ (k:Nat) (n:Nat),(sect k (digs n)).length≤30:=fun k n=>by
  have:=digs_len n;have:=digs_len (digs n).length;unfold sect;simp only[List.length_cons,Lla];omega
 have a1:=e3 1 ts ht hn;have a2:=e3 2 [] (by simp) (by simp);have a3:=e5 3 g;have a4:=e5 4 0;unfold Wire.written body txMo;simp only[Lla,List.length_cons,sum3,List.length_nil,Int.toNat_zero,Int.toNat_natCast];omega
theorem txMo_sz (hn:fns.length≤1000)(h:∀ x ∈ fns,x.code.size≤20000)(ht:∀ x ∈ ts,x.size≤100)(htn:ts.length≤3):ModSz (txMo ts g fns):=by
 refine⟨?_,fun x hx=>?_,by simp[txMo,maxLen],by simp[txMo],?_,fun x hx=>?_⟩
 ·show ts.length≤maxLen;unfold maxLen;omega
 ·have:=ht x hx;unfold maxLen;omega
 ·show fns.length≤maxLen;unfold maxLen;omega
 have:=h x hx;unfold maxLen;omega
theorem fnGood_m {m:Mo}{gn an nt f:Nat}{p q:Int} (hf:m.fns[f]?=some ⟨p,q,lnsC L⟩) (hL:∀ x ∈ L,Fit m f q.toNat x) (hn:NoFar L) (h0:0<L.length) (ho:∀ x ∈ L,opB x.1=true) {G:List (Option (LB))} (hg:firstB G=true) (hG:eachB (Mach.parOf m) (stpsF 0 L) G 0 (stpsF 0 L) G=true) (hC:CouldL L) :
  FnGood m gn an nt f∧Mach.FnOk m f:=by
 obtain⟨h1,h2,h3⟩:=fnOk_lines (m:=m) (f:=f) hf hL hn hg hG;refine⟨⟨stpsF 0 L,⟨h1,h2,by rw[stps_len];exact h0,stps_ops ho 0⟩,fun T hT _ o1 o2 c1 c2=>?_⟩,⟨_,h1,h2,h3⟩⟩;rw[stps_len] at hT ⊢;exact hC _ _ gn an nt T hT o1 o2 c1 c2
theorem end_m {m:Mo}{gn an nt f:Nat} (hf:m.fns[f]?=some endF) (h3:f<3):FnGood m gn an nt f∧Mach.FnOk m f:=
 fnGood_m hf (fun x hx=>by rw[List.mem_singleton.1 hx];exact fit_end h3) (fun x hx=>by rw[List.mem_singleton.1 hx];rfl) (by decide) (fun x hx=>by rw[List.mem_singleton.1 hx];rfl) (G:=[some []]) rfl (end_each _) could_end
def fnsOf (L:List Ln):List Wire.Fn:=[⟨0,0,lnsC L⟩,endF,endF]
def okB (nt g:Nat) (x:Ln):Bool:=
 opB x.1 && mayOp 0 x.1 && !far x.1 && (x.1 != 38) && (x.1 != 50) &&
 match x.2 with
 | []=>sortsT.getD x.1 0==0
 | [.ofNat n]=>((x.1==1) && Nat.blt n nt) || (((x.1==5) || (x.1==6)) && Nat.blt n g) || ((x.1==44) && Nat.ble 1 n && Nat.ble n 1000)
 | _=>false
theorem okB_fit {x:Ln}(hnt:ts.length≤3)(hg:g≤2)(h:okB ts.length g x=true):Fit (txMo ts g fns) 0 0 x∧far x.1=false∧opB x.1=true∧LnOk x:=by
 obtain⟨op,l⟩:=x
 unfold okB at h
 simp only[Bool.and_eq_true,Bool.not_eq_true',bne_iff_ne,ne_eq] at h
 obtain⟨⟨⟨⟨⟨h1,h2⟩,h3⟩,h4⟩,h5⟩,h6⟩:=h
 have hop:=mayOp_lt h2
 match l,h6 with
 | [],h6=>exact⟨⟨h2,h4,.inl ⟨by simpa using h6,rfl⟩⟩,h3,h1,by show op<256;omega,by simp,by simp⟩
 | [.ofNat n],h6=>
  simp only[Bool.or_eq_true,Bool.and_eq_true,beq_iff_eq,Nat.blt_eq,Nat.ble_eq] at h6
  have key:sortsT.getD op 0≠0∧fitN (txMo ts g fns) 0 (sortsT.getD op 0) n=true∧n≤1000:=by
   rcases h6 with (⟨rfl,q⟩ | ⟨rfl | rfl,q⟩) | ⟨⟨rfl,q1⟩,q2⟩
   ·refine⟨by decide,?_,by omega⟩
    show fitN (txMo ts g fns) 0 2 n=true
    unfold fitN low above
    simp[txMo]
    omega
   ·refine⟨by decide,?_,by omega⟩
    show fitN (txMo ts g fns) 0 4 n=true
    unfold fitN low above
    simp[txMo]
    omega
   ·refine⟨by decide,?_,by omega⟩
    show fitN (txMo ts g fns) 0 4 n=true
    unfold fitN low above
    simp[txMo]
    omega
   ·refine⟨by decide,?_,by omega⟩
    show fitN (txMo ts g fns) 0 8 n=true
    unfold fitN low above
    simp
    omega
  exact⟨⟨h2,h4,.inr ⟨key.1,n,rfl,key.2.1,by omega⟩⟩,h3,h1,by show op<256;omega,by simp,fun z hz=>by
   simp only[List.mem_singleton] at hz
   subst hz
   show (n:Int)<_
   omega⟩
theorem tx_good (hnt:ts.length≤3)(hs:∀ x ∈ ts,x.size≤100)(hg:g≤2)(hB:L.all (okB ts.length g)=true)(h0:0<L.length)(hl:L.length≤30){G:List (Option (LB))}(hf:firstB G=true)(hG:∀ par,eachB par (stpsF 0 L) G 0 (stpsF 0 L) G=true)(hC:CouldL L):GoodM (txMo ts g (fnsOf L)) g 0:=by
 have hx:∀ x ∈ L,_:=fun x hx=>okB_fit (fns:=fnsOf L) hnt hg (List.all_eq_true.1 hB x hx);have hc:(lnsC L).size≤630:=by
  rw[lnsC_size];have:=lines_len (L:=L) fun x h=>(hx x h).2.2.2;omega
 have he:(lnsC [(52,[])]).size≤630:=by decide
 have hall:∀ x ∈ fnsOf L,x.code.size≤630:=by
  intro x hx;simp only[fnsOf,List.mem_cons,List.not_mem_nil,or_false,or_self] at hx;rcases hx with rfl | rfl
  ·exact hc
  exact he
 have hw:within ipF (txMo ts g (fnsOf L))=true:=by
  have l0:∀ i,lawful ⟨0,0,lnsC L⟩ i=true:=lawful0 (by omega);have l1:∀ i,lawful endF i=true:=lawful0 (by omega);have e1:lawfulAll (fnsOf L) 0=true:=by
   unfold fnsOf lawfulAll lawfulAll lawfulAll lawfulAll;simp[l0,l1]
  have e2:ts.all (fun s=>decide (s.size≤100))=true:=by simpa using hs
  simp only[within,Bool.and_eq_true,decide_eq_true_eq];exact⟨⟨⟨⟨⟨⟨⟨⟨⟨⟨by show ts.length≤1000;omega,by simp[txMo]⟩,by simp[txMo,fnsOf]⟩,by simp[txMo,fnsOf]⟩,by show (0:Int)≤(g:Int);omega⟩,by show (g:Int)≤1000;omega⟩,by simp[txMo]⟩,by simp[txMo]⟩,e2⟩,rfl⟩,e1⟩
 have hz:FnGood (txMo ts g (fnsOf L)) g 0 ts.length 0∧Mach.FnOk (txMo ts g (fnsOf L)) 0:=fnGood_m (p:=0) (q:=0) rfl (fun x h=>(hx x h).1) (fun x h=>(hx x h).2.1) h0 (fun x h=>(hx x h).2.2.1) hf (hG _) hC;have hk:∀ k,k<(txMo ts g (fnsOf L)).fns.length→FnGood (txMo ts g (fnsOf L)) g 0 ts.length k∧Mach.FnOk (txMo ts g (fnsOf L)) k:=by
  intro k hk;have hk3:k<3:=hk;rcases (show k=0∨k=1∨k=2 by omega) with rfl | rfl | rfl
  ·exact hz
  ·exact end_m rfl (by decide)
  exact end_m rfl (by decide)
 refine⟨hw,rfl,rfl,rfl,win_mo hw,by simp[txMo,fnsOf],fun k h=>(hk k h).1,⟨by simp[txMo,fnsOf],fun k h=>(hk k h).2,fun k h=>?_⟩,txMo_len hall (by simp[fnsOf]) hs hnt⟩;have hk3:k<3:=h;rcases (show k=0∨k=1∨k=2 by omega) with rfl | rfl | rfl <;> exact Nat.zero_le _
end
def prG:List (Option (LB)):=[some [],some [116],some []]
def caG:List (Option (LB)):=[some [],some [116],some [116,116],some [116],some [],some [97],some [116],some [116,116],some [116],some [116,116],some [116],some [],some [97],some [116],some [110],some [116],some [116,97],some [116,116],some [116,116,97],some [116,116,97,116],some [116,116,110],some [116,116,116],some []]
theorem pr_each (par:NN):eachB par (stpsF 0 prL) prG 0 (stpsF 0 prL) prG=true:=rfl
theorem ca_each (j k:Int)(par:NN):eachB par (stpsF 0 (caL j k)) caG 0 (stpsF 0 (caL j k)) caG=true:=rfl
theorem pr_good {t:BA}(h:t.size≤100):GoodM (txMo [t] 0 prFs) 0 0:=
 tx_good (ts:=[t]) (L:=prL) (by simp) (fun x hx=>by rw[List.mem_singleton.1 hx];exact h) (by decide) rfl (by decide) (by decide) (G:=prG) rfl pr_each could_pr
theorem ca_okB {n j k:Nat}(h0:0<n)(hj:j<n)(hk:k<n):(caL (j:Int) (k:Int)).all (okB n 2)=true:=by
 have e0:Nat.blt 0 n=true:=by simpa [Nat.blt_eq] using h0
 have e1:Nat.blt j n=true:=by simpa [Nat.blt_eq] using hj
 have e2:Nat.blt k n=true:=by simpa [Nat.blt_eq] using hk
 show (okB n 2 (1,[0]) && (true && (true && (true && (true && (true && (okB n 2 (1,[Int.ofNat j]) && (true && (true && (true && (true && (true && (true && (true && (true && (true && (true && (true && (okB n 2 (1,[Int.ofNat k]) && (true && (true && (true && (true && true)))))))))))))))))))))))=true;simp only[Bool.true_and,Bool.and_true,Bool.and_eq_true];refine⟨?_,?_,?_⟩
 ·show (true && (((true && Nat.blt 0 n) || _) || _))=true;rw[e0];rfl
 ·show (true && (((true && Nat.blt j n) || _) || _))=true;rw[e1];rfl
 show (true && (((true && Nat.blt k n) || _) || _))=true;rw[e2];rfl
theorem ca_good {ts:LY}{j k:Nat} (h3:ts.length≤3) (hs:∀ x ∈ ts,x.size≤100) (h0:0<ts.length) (hj:j<ts.length) (hk:k<ts.length):GoodM (txMo ts 2 (caFs j k)) 2 0:=
 tx_good (L:=caL j k) h3 hs (by decide) (ca_okB h0 hj hk) (by simp[caL]) (by simp[caL]) (G:=caG) rfl (ca_each j k) (could_ca j k)
end Tok
open Go.RowKit
open Wire Flow Mach
namespace Tok
def pos (A:List Ln):Nat:=(A.flatMap lnB).length
theorem dec_line {m:Mo}{f q:Nat}{L A B:List Ln}{x:Ln} (hc:codeOf m f=L.flatMap lnB) (hq:locsOf m f=q) (hL:L=A++x :: B) (hx:Fit m f q x):decodeL m f (locsOf m f) (codeOf m f) (pos A)=.inr ⟨pos A,pos (A++[x]),x.1,(x.2.headD 0).toNat,0⟩:=by
 have e1:codeOf m f=A.flatMap lnB++(lnB x++B.flatMap lnB):=by rw[hc,hL,List.flatMap_append,List.flatMap_cons]
 have hx0:0<(lnB x).length:=by simp[lnB]
 have:=line_decode (m:=m) (f:=f) (locs:=q) (c:=codeOf m f) (i:=pos A) (x:=x) (r:=B.flatMap lnB) (by rw[e1];unfold pos;simp only[Lla];omega) (by rw[e1];exact List.drop_left) hx;rw[hq,this];unfold stpOf pos;rw[List.flatMap_append,Lla];simp
section
variable {E:Env}{L:List Ln}{n u:Nat}{S:Mach.St}{w w':Wd}{rest top top':List Cell}{c:Int}
theorem line_op (hE:SmE E)(hM:ModOk E.mo)(hc:codeOf E.mo 0=L.flatMap lnB)(hq:locsOf E.mo 0=0)(hF:∀ x ∈ L,Fit E.mo 0 0 x)(i:Nat){x:Ln}(hx:L[i]?=some x)(h:Mach.Steps E n S ⟨w,[⟨0,pos (L.take i),[],rest++top⟩],0,c,u⟩)(hl:top.length=(want (parOf E.mo) x.1 (x.2.headD 0).toNat).length)(hop:(x.1==50 || x.1==51 || x.1==52)=false)(he:eff E w [] x.1 (x.2.headD 0).toNat 0 top=⟨w',[],top',0,0,none⟩) :
  Mach.Steps E (n+1) S ⟨w',[⟨0,pos (L.take (i+1)),[],rest++top'⟩],0,c,u+1⟩:=by
 obtain⟨hi,rfl⟩:=Lgs.1 hx;have hL:L=L.take i++L[i] :: L.drop (i+1):=by rw[← List.drop_eq_getElem_cons hi,List.take_append_drop]
 have d:=dec_line (f:=0) (q:=0) hc hq hL (hF _ (List.getElem_mem hi));have:=h.op hE hM d hl hop he;rw[List.take_succ_eq_append_getElem hi];exact this
theorem line_end (hE:SmE E)(hM:ModOk E.mo)(hc:codeOf E.mo 0=L.flatMap lnB)(hq:locsOf E.mo 0=0)(hc2:codeOf E.mo 2=[52])(hq2:locsOf E.mo 2=0)(hF:∀ x ∈ L,Fit E.mo 0 0 x)(i:Nat)(hx:L[i]?=some (52,[]))(hr:w.recs.drop w.nr=[])(h:Mach.Steps E n S ⟨w,[⟨0,pos (L.take i),[],[]⟩],0,c,u⟩) :
  ∃ D,Mach.Steps E (n+2) S D∧D.st=1∧D.code=c∧D.w.out=w.out:=by
 obtain⟨hi,e⟩:=Lgs.1 hx;have hL:L=L.take i++(52,[]) :: L.drop (i+1):=by rw[← e,← List.drop_eq_getElem_cons hi,List.take_append_drop]
 have d3:=dec_line (f:=0) (q:=0) hc hq hL (hF _ (by rw[← e];exact List.getElem_mem hi));have h3:=h.over_last hE hM d3 (by decide) hr;have d4:decodeL E.mo 2 (locsOf E.mo 2) (codeOf E.mo 2) 0=.inr ⟨0,1,52,0,0⟩:=by rw[hc2,hq2];rfl
 have e4:enter E.mo 2 []=⟨2,0,[],[]⟩:=by unfold enter;rw[hq2];rfl
 rw[e4] at h3;have h4:=h3.over_end hE hM d4;exact⟨_,h4,rfl,rfl,rfl⟩
end
theorem cmpL_self:∀ l:LB,cmpL l l=0
 | []=>rfl
 | a :: l=>by unfold cmpL;rw[if_neg (Nat.lt_irrefl _),if_neg (Nat.lt_irrefl _),cmpL_self l]
theorem tx_start {ts:LY}{g:Nat}{L:List Ln}{E:Env} (hEm:E=envP (txMo ts g (fnsOf L))) (hG:GoodM (txMo ts g (fnsOf L)) g 0) :
  SmE E∧ModOk E.mo∧codeOf E.mo 0=L.flatMap lnB∧locsOf E.mo 0=0∧codeOf E.mo 2=[52]∧locsOf E.mo 2=0∧Mach.Steps E 0 (begin_ (txMo ts g (fnsOf L)) [] []) ⟨⟨[],0,[],0,none0,[],none0,List.replicate g nothing,[]⟩,[⟨0,pos (L.take 0),[],[]⟩],0,0,0⟩:=by
 have hmo:E.mo=txMo ts g (fnsOf L):=by rw[hEm];rfl
 have hM:ModOk E.mo:=by rw[hmo];exact hG.ok
 refine⟨by rw[hEm];exact hG.goE.sm,hM,by rw[hmo];show bl (lnsC _)=_;simp[lnsC,bl],by rw[hmo];rfl,by rw[hmo];rfl,by rw[hmo];rfl,?_⟩;have:=Mach.Steps.refl (E:=E) (good_begin (E:=E) hM (recs:=[]) (draws:=[]) (by simp) (by simp) (by simp) (by simp));rw[hmo] at this;exact this
theorem pr_run {t:BA}(ht:t.size≤100):∃ D,Plays (envP (txMo [t] 0 prFs)) 100000 (begin_ (txMo [t] 0 prFs) [] []) D∧D.st=1∧D.code=0∧D.w.out=⟨(bl t++[10]).toArray⟩:=by
 obtain⟨E,hEm⟩:∃ E,E=envP (txMo [t] 0 (fnsOf prL)):=⟨_,rfl⟩;obtain⟨hE,hM,hc,hq,hc2,hq2,h0⟩:=tx_start hEm (pr_good ht);have hF:∀ x ∈ prL,Fit E.mo 0 0 x:=fun x hx=>by rw[hEm];exact (okB_fit (ts:=[t]) (g:=0) (by simp) (by decide) (List.all_eq_true.1 (show prL.all (okB 1 0)=true from rfl) x hx)).1
 have hT:E.mo.texts=[t]:=by rw[hEm];rfl
 show ∃ D,Plays (envP (txMo [t] 0 (fnsOf prL))) 100000 (begin_ (txMo [t] 0 (fnsOf prL)) [] []) D∧_;rw[← hEm];have h1:=line_op hE hM hc hq hF 0 rfl (rest:=[]) (top:=[]) h0 rfl rfl (top':=[cv (words t)]) (by show Eff.put _ _ (words (E.mo.texts.getD 0 none0))=_;rw[hT];rfl);have hp:printW ⟨[],0,[],0,none0,[],none0,List.replicate 0 nothing,[]⟩ [t]=(⟨[],0,[],0,none0,[],⟨(bl t++[10]).toArray⟩,List.replicate 0 nothing,[]⟩,0):=by
  have hbl:=bl_length t;unfold printW;rw[if_neg (by simp only[joinF,none0,ByteArray.size];simp;rw[hbl];omega)];simp[joinF,none0]
 have h2:=line_op hE hM hc hq hF 1 rfl (rest:=[]) (top:=[cv (words t)]) h1 rfl rfl (top':=[]) (by show Eff.off (printW _ [t]).1 _ (printW _ [t]).2=_;rw[hp];rfl);obtain⟨D,hD,d1,d2,d3⟩:=line_end hE hM hc hq hc2 hq2 hF 2 rfl rfl h2;exact⟨D,hD.till (by rw[d1];decide) (by decide),d1,d2,d3⟩
theorem itoa_len3 {n:Nat}(h:n≤100):(Lib.itoa (n:Int)).length≤4:=by
 have key:∀ n<101,(Lib.itoa ((n:Nat):Int)).length≤4:=by decide +kernel
 exact key n (by omega)
theorem ca_run {ts:LY}{j k:Nat}{a b y:BA} (h3:ts.length≤3) (hs:∀ x ∈ ts,x.size≤100) (h0:ts[0]?=some a) (hj:ts[j]?=some b) (hk:ts[k]?=some y) (hy:a++b=y) :
  ∃ D,Plays (envP (txMo ts 2 (caFs j k))) 100000 (begin_ (txMo ts 2 (caFs j k)) [] []) D∧D.st=1∧D.code=0∧D.w.out=⟨(Lib.itoa (y.size:Int)++32 :: (bl y++32 :: [49])++[10]).toArray⟩:=by
 have hyl:y.size≤100:=hs y (List.mem_of_getElem? hk);have hab:a.size+b.size≤100:=by rw[← ByteArray.size_append,hy];exact hyl
 have l0:=(Lgs.1 h0).1;have lj:=(Lgs.1 hj).1;have lk:=(Lgs.1 hk).1;have hG:=ca_good h3 hs l0 lj lk;obtain⟨E,hEm⟩:∃ E,E=envP (txMo ts 2 (fnsOf (caL j k))):=⟨_,rfl⟩;obtain⟨hE,hM,hc,hq,hc2,hq2,s0⟩:=tx_start hEm hG;have hB:(caL (j:Int) (k:Int)).all (okB ts.length 2)=true:=ca_okB l0 lj lk;have hF:∀ x ∈ caL (j:Int) (k:Int),Fit E.mo 0 0 x:=fun x hx=>by rw[hEm];exact (okB_fit h3 (by decide) (List.all_eq_true.1 hB x hx)).1
 have hT:E.mo.texts=ts:=by rw[hEm];rfl
 have hT0:E.mo.texts.getD 0 none0=a:=by rw[hT,List.getD_eq_getElem?_getD,h0];rfl
 have hTj:E.mo.texts.getD j none0=b:=by rw[hT,List.getD_eq_getElem?_getD,hj];rfl
 have hTk:E.mo.texts.getD k none0=y:=by rw[hT,List.getD_eq_getElem?_getD,hk];rfl
 have hi:E.itoa=itoaB:=by rw[hEm];rfl
 have hil:=itoa_len3 (n:=y.size) (by omega);show ∃ D,Plays (envP (txMo ts 2 (fnsOf (caL j k)))) 100000 (begin_ (txMo ts 2 (fnsOf (caL j k))) [] []) D∧_;rw[← hEm];have hp:printW ⟨[],0,[],0,none0,[],none0,[words a,words y],[]⟩ [E.itoa (y.size:Int),y,E.itoa 1]=(⟨[],0,[],0,none0,[],⟨(Lib.itoa (y.size:Int)++32 :: (bl y++32 :: [49])++[10]).toArray⟩,[words a,words y],[]⟩,0):=by
  have hbl:=bl_length y;have e1:bl (itoaB (y.size:Int))=Lib.itoa (y.size:Int):=by simp[itoaB,bl]
  have e2:bl (itoaB 1)=[49]:=by decide +kernel
  unfold printW;rw[hi];simp only[joinF,e1,e2];rw[if_neg (by simp only[none0,ByteArray.size];simp;rw[hbl];omega)];simp[none0]
 clear hG hB hs h0 hj hk hT;have s1:=line_op hE hM hc hq hF 0 rfl (rest:=[]) (top:=[]) s0 rfl rfl (w':=⟨[],0,[],0,none0,[],none0,[nothing,nothing],[]⟩) (top':=[cv (words a)]) (by show Eff.put _ _ (words (E.mo.texts.getD 0 none0))=_;rw[hT0];rfl);have s2:=line_op hE hM hc hq hF 1 rfl (rest:=[]) (top:=[cv (words a)]) s1 rfl rfl (w':=⟨[],0,[],0,none0,[],none0,[nothing,nothing],[]⟩) (top':=[cv (words a),cv (words a)]) (rfl);have s3:=line_op hE hM hc hq hF 2 rfl (rest:=[cv (words a)]) (top:=[cv (words a)]) s2 rfl rfl (w':=⟨[],0,[],0,none0,[],none0,[words a,nothing],[]⟩) (top':=[]) (rfl);have s4:=line_op hE hM hc hq hF 3 rfl (rest:=[]) (top:=[cv (words a)]) s3 rfl rfl (w':=⟨[],0,[],0,none0,[],none0,[words a,nothing],[]⟩) (top':=[]) (rfl);have s5:=line_op hE hM hc hq hF 4 rfl (rest:=[]) (top:=[]) s4 rfl rfl (w':=⟨[],0,[],0,none0,[],none0,[words a,nothing],[]⟩) (top':=[cv (words a)]) (rfl);have s6:=line_op hE hM hc hq hF 5 rfl (rest:=[]) (top:=[cv (words a)]) s5 rfl rfl (w':=⟨[],0,[],0,none0,[],none0,[words a,nothing],[]⟩) (top':=[cv (words a)]) (rfl);have s7:=line_op hE hM hc hq hF 6 rfl (rest:=[cv (words a)]) (top:=[]) s6 rfl rfl (w':=⟨[],0,[],0,none0,[],none0,[words a,nothing],[]⟩) (top':=[cv (words b)]) (by show Eff.put _ _ (words (E.mo.texts.getD (Int.toNat (j:Int)) none0))=_;rw[Int.toNat_natCast,hTj];rfl);have s8:=line_op hE hM hc hq hF 7 rfl (rest:=[]) (top:=[cv (words a),cv (words b)]) s7 rfl rfl (w':=⟨[],0,[],0,none0,[],none0,[words a,nothing],[]⟩) (top':=[cv (words y)]) (by show (if a.size+b.size>100 then Eff.bad _ _ 6 else Eff.put _ _ (words (a++b)))=_;rw[if_neg (by omega),hy];rfl);have s9:=line_op hE hM hc hq hF 8 rfl (rest:=[]) (top:=[cv (words y)]) s8 rfl rfl (w':=⟨[],0,[],0,none0,[],none0,[words a,nothing],[]⟩) (top':=[cv (words y),cv (words y)]) (rfl);have s10:=line_op hE hM hc hq hF 9 rfl (rest:=[cv (words y)]) (top:=[cv (words y)]) s9 rfl rfl (w':=⟨[],0,[],0,none0,[],none0,[words a,words y],[]⟩) (top':=[]) (rfl);have s11:=line_op hE hM hc hq hF 10 rfl (rest:=[]) (top:=[cv (words y)]) s10 rfl rfl (w':=⟨[],0,[],0,none0,[],none0,[words a,words y],[]⟩) (top':=[]) (rfl);have s12:=line_op hE hM hc hq hF 11 rfl (rest:=[]) (top:=[]) s11 rfl rfl (w':=⟨[],0,[],0,none0,[],none0,[words a,words y],[]⟩) (top':=[cv (words y)]) (rfl);have s13:=line_op hE hM hc hq hF 12 rfl (rest:=[]) (top:=[cv (words y)]) s12 rfl rfl (w':=⟨[],0,[],0,none0,[],none0,[words a,words y],[]⟩) (top':=[cv (words y)]) (rfl);have s14:=line_op hE hM hc hq hF 13 rfl (rest:=[]) (top:=[cv (words y)]) s13 rfl rfl (w':=⟨[],0,[],0,none0,[],none0,[words a,words y],[]⟩) (top':=[cv (whole (y.size:Int))]) (rfl);have s15:=line_op hE hM hc hq hF 14 rfl (rest:=[]) (top:=[cv (whole (y.size:Int))]) s14 rfl rfl (w':=⟨[],0,[],0,none0,[],none0,[words a,words y],[]⟩) (top':=[cv (words (E.itoa (y.size:Int)))]) (rfl);have s16:=line_op hE hM hc hq hF 15 rfl (rest:=[cv (words (E.itoa (y.size:Int)))]) (top:=[]) s15 rfl rfl (w':=⟨[],0,[],0,none0,[],none0,[words a,words y],[]⟩) (top':=[cv (words y)]) (rfl);have s17:=line_op hE hM hc hq hF 16 rfl (rest:=[cv (words (E.itoa (y.size:Int)))]) (top:=[cv (words y)]) s16 rfl rfl (w':=⟨[],0,[],0,none0,[],none0,[words a,words y],[]⟩) (top':=[cv (words y)]) (rfl);have s18:=line_op hE hM hc hq hF 17 rfl (rest:=[cv (words (E.itoa (y.size:Int))),cv (words y)]) (top:=[]) s17 rfl rfl (w':=⟨[],0,[],0,none0,[],none0,[words a,words y],[]⟩) (top':=[cv (words y)]) (rfl);have s19:=line_op hE hM hc hq hF 18 rfl (rest:=[cv (words (E.itoa (y.size:Int))),cv (words y),cv (words y)]) (top:=[]) s18 rfl rfl (w':=⟨[],0,[],0,none0,[],none0,[words a,words y],[]⟩) (top':=[cv (words y)]) (by show Eff.put _ _ (words (E.mo.texts.getD (Int.toNat (k:Int)) none0))=_;rw[Int.toNat_natCast,hTk];rfl);have s20:=line_op hE hM hc hq hF 19 rfl (rest:=[cv (words (E.itoa (y.size:Int))),cv (words y)]) (top:=[cv (words y),cv (words y)]) s19 rfl rfl (w':=⟨[],0,[],0,none0,[],none0,[words a,words y],[]⟩) (top':=[cv (whole 1)]) (by show Eff.put _ _ (whole (Mach.truth (Mach.cmpOp 31 (Mach.cmpL (bl y) (bl y)))))=_;rw[cmpL_self];rfl);have s21:=line_op hE hM hc hq hF 20 rfl (rest:=[cv (words (E.itoa (y.size:Int))),cv (words y)]) (top:=[cv (whole 1)]) s20 rfl rfl (w':=⟨[],0,[],0,none0,[],none0,[words a,words y],[]⟩) (top':=[cv (words (E.itoa 1))]) (rfl);have s22:=line_op hE hM hc hq hF 21 rfl (rest:=[]) (top:=[cv (words (E.itoa (y.size:Int))),cv (words y),cv (words (E.itoa 1))]) s21 rfl rfl (w':=⟨[],0,[],0,none0,[],⟨(Lib.itoa (y.size:Int)++32 :: (bl y++32 :: [49])++[10]).toArray⟩,[words a,words y],[]⟩) (top':=[]) (by show Eff.off (printW _ [E.itoa (y.size:Int),y,E.itoa 1]).1 _ (printW _ [E.itoa (y.size:Int),y,E.itoa 1]).2=_;rw[hp];rfl);obtain⟨D,hD,d1,d2,d3⟩:=line_end hE hM hc hq hc2 hq2 hF 22 rfl rfl s22;exact⟨D,hD.till (by rw[d1];decide) (by decide),d1,d2,d3⟩
end Tok
open Go.RowKit
open Wire Flow
namespace Tok
open Ev (signs TabS entered rho RhoI)
def rhoOf (ts:LY) (i:Nat):BA:=ts[i]?.getD ⟨(List.replicate (101+i) 0).toArray⟩
theorem rhoOf_at {ts:LY}{i:Nat}{t:BA} (h:ts[i]?=some t):rhoOf ts i=t:=by unfold rhoOf;rw[h];rfl
theorem rhoOf_off {ts:LY}{i:Nat} (h:ts.length≤i):(rhoOf ts i).size=101+i:=by
 unfold rhoOf;rw[List.getElem?_eq_none h];simp[ByteArray.size]
theorem rhoOf_inj {ts:LY}(hn:ts.Nodup)(hs:∀ x ∈ ts,x.size≤100)(i j:Nat)(h:rhoOf ts i=rhoOf ts j):i=j:=by
 have hz:=congrArg ByteArray.size h;rcases Nat.lt_or_ge i ts.length with hi | hi <;> rcases Nat.lt_or_ge j ts.length with hj | hj
 ·rw[rhoOf_at (Lge hi),rhoOf_at (Lge hj)] at h;have hp:=List.pairwise_iff_getElem.1 hn;rcases Nat.lt_trichotomy i j with c | c | c
  ·exact absurd h (hp i j hi hj c)
  ·exact c
  exact absurd h.symm (hp j i hj hi c)
 ·rw[rhoOf_at (Lge hi),rhoOf_off hj] at hz;have:=hs _ (List.getElem_mem hi);omega
 ·rw[rhoOf_off hi,rhoOf_at (Lge hj)] at hz;have:=hs _ (List.getElem_mem hj);omega
 rw[rhoOf_off hi,rhoOf_off hj] at hz;omega
theorem rhoOf_map (ts:LY):(List.range ts.length).map (rhoOf ts)=ts:=by
 apply List.ext_getElem?;intro i;rw[List.getElem?_map];rcases Nat.lt_or_ge i ts.length with h | h
 ·rw[List.getElem?_range h,Option.map_some,rhoOf_at (Lge h),Lge h]
 rw[List.getElem?_eq_none h,List.getElem?_eq_none (by simpa using h)];rfl
theorem esc_len (x:UInt8):(escB x).length≤2:=by
 unfold escB;split
 ·simp
 split
 ·simp
 split <;> simp
theorem qL_len (X:LB):(qL X).length≤2*X.length+2:=by
 have key:∀ X:LB,(X.flatMap escB).length≤2*X.length:=by
  intro X;induction X with
  | nil=>simp
  | cons x X ih=>
   have:=esc_len x;rw[List.flatMap_cons,Lla,List.length_cons];omega
 have:=key X;simp only[qL,List.length_cons,Lla,List.length_nil];omega
theorem srcB_size (l:LB):(srcB l).size=l.length:=by simp[srcB,ByteArray.size]
theorem bl_back (t:BA):(⟨(bl t).toArray⟩:BA)=t:=by
 apply ByteArray.ext;simp[bl]
theorem pr_src (h163:∃ fn,entered prog 163=some fn){t:BA}(ht:t.size≤100):SrcG (srcB (prB (bl t))) (mkB (Wire.written (txMo [t] 0 prFs))) (txMo [t] 0 prFs) 0 0:=by
 have hG:=pr_good ht;have hbl:=bl_length t;refine⟨hG,bl_mkB _,fun w hw=>?_⟩;have hR:=pr_rds (X:=bl t) (by omega);rw[bl_back] at hR;have hl:=qL_len (bl t);have hs:(srcB (prB (bl t))).size≤1000:=by
  rw[srcB_size];unfold prB;simp only[Lla,List.length_cons,List.length_nil];omega
 letI:Inhabited (Nat→BA):=⟨rhoOf [t]⟩
 have hI:RhoI:=rhoOf_inj (ts:=[t]) (by simp) (fun x hx=>by rw[List.mem_singleton.1 hx];exact ht);have hL:LetOk (prT t (14+(qL (bl t)).length)):=⟨hI,fun p hp i hi=>by
  simp only[prT,wd,tx,List.mem_cons,List.not_mem_nil,or_false] at hp;rcases hp with rfl | rfl | rfl | rfl | rfl | rfl | rfl
  all_goals first | (cases hi;done) | (cases hi;exact⟨rfl,ht⟩)⟩
 have hz:∀ x ∈ (txMo [t] 0 prFs).fns,x.code.size≤20000:=fun x hx=>(hG.mo.f.p x hx).2.2.2.2;have:=compile_q (l:=prT t (14+(qL (bl t)).length)) (ks:=[0]) (g:=0) (fns:=prFs) h163 hw hs hR (by simp[prT]) hL (txMo_sz (by decide) hz (fun x hx=>by rw[List.mem_singleton.1 hx];exact ht) (by simp)) (pr_is t _);obtain⟨k1,k2⟩:=pack_good hG;have e:([0]:LN).map rho=[t]:=rfl;rw[e,k1,k2] at this;exact this
theorem ca_src (h163:∃ fn,entered prog 163=some fn){ts:LY}{j k:Nat}{a b y:BA} (hn:ts.Nodup) (h3:ts.length≤3) (hs:∀ x ∈ ts,x.size≤100) (h0:ts[0]?=some a) (hj:ts[j]?=some b) (hk:ts[k]?=some y) (hC:CaIs 0 j k j k (List.range ts.length)) :
  SrcG (srcB (caB (bl a) (bl b) (bl y))) (mkB (Wire.written (txMo ts 2 (caFs j k)))) (txMo ts 2 (caFs j k)) 2 0:=by
 have hG:=ca_good h3 hs (Lgs.1 h0).1 (Lgs.1 hj).1 (Lgs.1 hk).1;have ha:=hs a (List.mem_of_getElem? h0);have hb:=hs b (List.mem_of_getElem? hj);have hy:=hs y (List.mem_of_getElem? hk);have la:=bl_length a;have lb:=bl_length b;have ly:=bl_length y;refine⟨hG,bl_mkB _,fun w hw=>?_⟩;obtain⟨p,q,r,hR⟩:=ca_rds (A:=bl a) (B:=bl b) (Y:=bl y) (by omega) (by omega) (by omega) 0 j k;rw[bl_back,bl_back,bl_back] at hR;have h1:=qL_len (bl a);have h2:=qL_len (bl b);have h4:=qL_len (bl y);have hsz:(srcB (caB (bl a) (bl b) (bl y))).size≤1000:=by
  rw[srcB_size];unfold caB;simp only[Lla,List.length_cons,List.length_nil];omega
 letI:Inhabited (Nat→BA):=⟨rhoOf ts⟩
 have hI:RhoI:=rhoOf_inj hn hs;have hL:LetOk (caT 0 j k a b y p q r):=⟨hI,fun z hz i hi=>by
  have key:z=tx 0 12 a∨z=tx j (p+10) b∨z=tx k (q+27) y:=by
   simp only[caT,wd,nm,tx,List.mem_cons,List.not_mem_nil,or_false] at hz ⊢;rcases hz with rfl | rfl | rfl | rfl | rfl | rfl | rfl | rfl | rfl | rfl | rfl | rfl | rfl | rfl | rfl | rfl | rfl | rfl | rfl | rfl | rfl | rfl | rfl | rfl | rfl | rfl
   all_goals first | (cases hi;done) | exact .inl rfl | exact .inr (.inl rfl) | exact .inr (.inr rfl)
  rcases key with rfl | rfl | rfl
  ·cases hi;exact⟨(rhoOf_at h0).symm,ha⟩
  ·cases hi;exact⟨(rhoOf_at hj).symm,hb⟩
  cases hi;exact⟨(rhoOf_at hk).symm,hy⟩⟩
 have hz:∀ x ∈ (txMo ts 2 (caFs j k)).fns,x.code.size≤20000:=fun x hx=>(hG.mo.f.p x hx).2.2.2.2;have e:(List.range ts.length).map rho=ts:=rhoOf_map ts;have:=compile_q (l:=caT 0 j k a b y p q r) (ks:=List.range ts.length) (g:=2) (fns:=caFs j k) h163 hw hsz hR (by simp[caT]) hL (by rw[e];exact txMo_sz (by simp[caFs]) hz hs h3) (hC a b y p q r);obtain⟨k1,k2⟩:=pack_good hG;rw[e,k1,k2] at this;exact this
end Tok
open Go.RowKit
open Wire Flow
namespace Tok
def qAt (t:BA) (k:Nat):BA:=⟨(34 :: ((bl t).take k).flatMap escB).toArray⟩
theorem qAt_next {t:BA}{k:Nat} (h:k<t.size):qAt t (k+1)=qAt t k++⟨(escB t[k]).toArray⟩:=by
 have hl:k<(bl t).length:=by rw[bl_length];exact h
 apply ByteArray.ext;apply Array.ext';unfold qAt;rw[List.take_succ_eq_append_getElem hl,List.flatMap_append];have e:(bl t)[k]=t[k]:=rfl;rw[e];simp[ByteArray.data_append];rfl
theorem ext1 {t:BA}{k:Nat} (h:k<t.size):t.extract k (k+1)=⟨#[t[k]]⟩:=by
 apply ByteArray.ext;rw[ByteArray.data_extract];apply Array.ext';rw[Array.toList_extract];have hk:k<t.data.toList.length:=by simpa using h
 simp only[List.extract_eq_take_drop];rw[List.drop_eq_getElem_cons hk];simp;rfl
theorem qAt_size (t:BA)(k:Nat):(qAt t k).size≤2*k+1:=by
 have key:∀ X:LB,(X.flatMap escB).length≤2*X.length:=by
  intro X;induction X with
  | nil=>simp
  | cons x X ih=>
   have:=esc_len x;rw[List.flatMap_cons,Lla,List.length_cons];omega
 have h1:=key ((bl t).take k);have h2:=List.length_take_le k (bl t);have h3:(qAt t k).size=(34 :: ((bl t).take k).flatMap escB).length:=rfl;rw[h3,List.length_cons];omega
def quoteB (t:BA):BA:=⟨(qL (bl t)).toArray⟩
theorem qAt_last (t:BA):qAt t t.size++⟨#[34]⟩=quoteB t:=by
 apply ByteArray.ext;apply Array.ext';unfold qAt quoteB qL;rw[List.take_of_length_le (by rw[bl_length];exact Nat.le_refl _)];simp[ByteArray.data_append]
theorem add_assoc3 (a b c:BA):a++b++c=a++(b++c):=by
 apply ByteArray.ext;simp[ByteArray.data_append]
theorem quote_any (t:BA)(ht:t.size≤1000000000000000)(W:WL):Calls prog 18 #[.string t] W fun e w=>e=.returned (.string (quoteB t))∧w=W:=by
 have HL:Hid _:=qAt_last t;have HZ:Hid (∀ k,(qAt t k).size≤2*k+1):=qAt_size t;have H0:Hid (qAt t 0=⟨#[34]⟩):=by show _=_;unfold qAt;rfl
 go_enter func18,ntmps18;go_wp2_with fail
 go_loop [3,4] (fun p q=>∃ (k:Nat),k≤t.size∧p=.string (qAt t k)∧q=iA k) (fun p q=>t.size-(intOf q).toNat)
 case atStart=>exact⟨0,by omega,by rw[H0.out],rfl⟩
 case round=>
  obtain⟨k,hk,rfl,rfl⟩:=hrel;have hz:=HZ.out k;by_cases hlt:k<t.size
  ·have g1:(k:Int)<t.size:=by omega
   have g2:IntKind.i64.wrap ((k:Int)+1)=(k:Int)+1:=by rw[IntKind.wrap_i64];omega
   have g3:((k+1:Nat):Int)≤t.size:=by omega
   have HN:Hid _:=qAt_next hlt;have HE:Hid _:=ext1 hlt;have hc256:t[k].toNat<256:=UInt8.toNat_lt _;obtain⟨c,hc⟩:=eXi (t[k]);have Hc:Hid (t[k]=c):=hc;rw[hc] at hc256;have HQ:Hid (∀ x,qAt t k++x=qAt t (k+1)↔qAt t k++x=qAt t k++⟨(escB c).toArray⟩):=fun x=>by rw[HN.out,Hc.out]
   obtain⟨Q,hQ⟩:=eXi (qAt t k);rw[hQ] at hz HQ ⊢;have hx:∀ n:Nat,n<256→(c.toNat=n↔c=UInt8.ofNat n):=fun n hn=>⟨fun h=>by rw[← h];simp,fun h=>by rw[h];simp;omega⟩;have HX:Hid _:=hx;clear HN hQ hx HL H0 HZ;by_cases h10:c.toNat=10
   ·have e1:((c.toNat:Int)==10)=true:=by simp[h10]
    have HR:Hid (Q++⟨#[92,110]⟩=qAt t (k+1)):=(HQ.out _).2 (by rw[(HX.out 10 (by decide)).1 h10];rfl);clear HQ HE HX;go_wp2_with fail;exact⟨⟨k+1,by omega,by rw[HR.out],by go_num⟩,by simp[intOf];omega⟩
   have e1:((c.toNat:Int)==10)=false:=by simp;omega
   by_cases h9:c.toNat=9
   ·have e2:((c.toNat:Int)==9)=true:=by simp[h9]
    have HR:Hid (Q++⟨#[92,116]⟩=qAt t (k+1)):=(HQ.out _).2 (by rw[(HX.out 9 (by decide)).1 h9];rfl);clear HQ HE HX;go_wp2_with fail;exact⟨⟨k+1,by omega,by rw[HR.out],by go_num⟩,by simp[intOf];omega⟩
   have e2:((c.toNat:Int)==9)=false:=by simp;omega
   by_cases h34:c.toNat=34
   ·have e3:((c.toNat:Int)==34)=true:=by simp[h34]
    have HR:Hid (Q++⟨#[92]⟩++t.extract k (k+1)=qAt t (k+1)):=by
     show _=_;rw[add_assoc3];refine (HQ.out _).2 ?_;rw[HE.out,Hc.out,(HX.out 34 (by decide)).1 h34];rfl
    have hz2:(Q++⟨#[92]⟩:BA).size≤2*k+2:=by rw[ByteArray.size_append];show Q.size+1≤_;omega
    clear HQ HE HX;go_wp2_with fail;exact⟨⟨k+1,by omega,by rw[← HR.out],by go_num⟩,by simp[intOf];omega⟩
   have e3:((c.toNat:Int)==34)=false:=by simp;omega
   by_cases h92:c.toNat=92
   ·have e4:((c.toNat:Int)==92)=true:=by simp[h92]
    have HR:Hid (Q++⟨#[92]⟩++t.extract k (k+1)=qAt t (k+1)):=by
     show _=_;rw[add_assoc3];refine (HQ.out _).2 ?_;rw[HE.out,Hc.out,(HX.out 92 (by decide)).1 h92];rfl
    have hz2:(Q++⟨#[92]⟩:BA).size≤2*k+2:=by rw[ByteArray.size_append];show Q.size+1≤_;omega
    clear HQ HE HX;go_wp2_with fail;exact⟨⟨k+1,by omega,by rw[← HR.out],by go_num⟩,by simp[intOf];omega⟩
   have e4:((c.toNat:Int)==92)=false:=by simp;omega
   have HR:Hid (Q++t.extract k (k+1)=qAt t (k+1)):=by
    show _=_;refine (HQ.out _).2 ?_;rw[HE.out,Hc.out];have e:escB c=[c]:=by
     unfold escB;rw[if_neg (fun h=>h10 (by rw[h];rfl)),if_neg (fun h=>h9 (by rw[h];rfl)),if_neg];rintro (h | h)
     ·exact h34 (by rw[h];rfl)
     exact h92 (by rw[h];rfl)
    rw[e]
   clear HQ HE HX;go_wp2_with fail;exact⟨⟨k+1,by omega,by rw[← HR.out],by go_num⟩,by simp[intOf];omega⟩
  have g1:¬ ((k:Int)<t.size):=by omega
  obtain rfl:k=t.size:=by omega
  have HR:=HL.out;generalize hQ:qAt t t.size=Q at *;clear HL H0 HZ hQ;have HRR:Hid _:=HR;clear HR;go_wp2_with fail;go_ret;exact⟨congrArg (fun x=>Ending.returned (Value.string x)) HRR.out,rfl⟩
end Tok
open Go.RowKit
open Wire Flow
namespace Tok
open Ev (signs TabS entered)
theorem nilS (W:WL):ArgL W (.slice none 0 0) (([]:LY).map .string):=⟨none,0,rfl,Nat.le_refl _,by decide,fun h=>absurd h (by simp)⟩
theorem scr0:Scr [] []:=⟨by simp,by simp,by simp,by simp⟩
def srcP (t:BA):BA:=⟨#[66,69,71,73,78,32,123,32,112,114,105,110,116,32]⟩++quoteB t++⟨#[59,32,125]⟩
def srcC (a b y:BA):BA:=⟨#[66,69,71,73,78,32,123,32,120,32,61,32]⟩++quoteB a++⟨#[59,32,121,32,61,32,120,32,46,32]⟩++quoteB b++⟨#[59,32,112,114,105,110,116,32,108,101,110,103,116,104,40,121,41,44,32,121,44,32,121,32,61,61,32]⟩++quoteB y++⟨#[59,32,125]⟩
theorem srcP_eq (t:BA):srcP t=srcB (prB (bl t)):=by
 apply ByteArray.ext;apply Array.ext';simp[srcP,srcB,prB,quoteB,ByteArray.data_append]
theorem srcC_eq (a b y:BA):srcC a b y=srcB (caB (bl a) (bl b) (bl y)):=by
 apply ByteArray.ext;apply Array.ext';simp[srcC,srcB,caB,quoteB,ByteArray.data_append]
theorem pr_played (HB:BothOk)(h163:∃ fn,entered prog 163=some fn){t:BA}(ht:t.size≤100){W:WL}(hB:Base W)(hT:TabS signs W) :
  Calls prog 9 #[.string (srcP t),.slice none 0 0] W fun e w=>Fr [] W w∧∃ used:Nat,e=.returned (.tuple #[stV 1 0 (t++⟨#[10]⟩) used,.bool true]):=by
 have hS:=pr_src h163 ht;obtain⟨D,hD,d1,d2,d3⟩:=pr_run ht;rw[srcP_eq];refine (played_good HB hS (by have:=hB.six;omega) hB hT (nilS W) scr0).mono ?_;rintro e w ⟨F,D',hD',rfl⟩;obtain rfl:=hD.unique hD';refine⟨F,D.used,?_⟩;have e:(⟨(bl t++[10]).toArray⟩:BA)=t++⟨#[10]⟩:=by
  apply ByteArray.ext;apply Array.ext';simp[bl,ByteArray.data_append]
 rw[d1,d2,d3,e]
def outC (y:BA):BA:=itoaB (y.size:Nat)++⟨#[32]⟩++y++⟨#[32,49,10]⟩
theorem ca_played' (HB:BothOk)(h163:∃ fn,entered prog 163=some fn){ts:LY}{j k:Nat}{a b y:BA} (hn:ts.Nodup) (h3:ts.length≤3) (hs:∀ x ∈ ts,x.size≤100) (h0:ts[0]?=some a) (hj:ts[j]?=some b) (hk:ts[k]?=some y) (hC:CaIs 0 j k j k (List.range ts.length)) (hy:a++b=y) {W:WL} (hB:Base W) (hT:TabS signs W) :
  Calls prog 9 #[.string (srcC a b y),.slice none 0 0] W fun e w=>Fr [] W w∧∃ used:Nat,e=.returned (.tuple #[stV 1 0 (outC y) used,.bool true]):=by
 have hS:=ca_src h163 hn h3 hs h0 hj hk hC;obtain⟨D,hD,d1,d2,d3⟩:=ca_run h3 hs h0 hj hk hy;rw[srcC_eq];refine (played_good HB hS (by have:=hB.six;omega) hB hT (nilS W) scr0).mono ?_;rintro e w ⟨F,D',hD',rfl⟩;obtain rfl:=hD.unique hD';refine⟨F,D.used,?_⟩;have e:(⟨(Lib.itoa (y.size:Int)++32 :: (bl y++32 :: [49])++[10]).toArray⟩:BA)=outC y:=by
  apply ByteArray.ext;apply Array.ext';simp[outC,itoaB,bl,ByteArray.data_append]
 rw[d1,d2,d3,e]
theorem ca_played (HB:BothOk)(h163:∃ fn,entered prog 163=some fn){t:BA}(ht:t.size≤100){W:WL}(hB:Base W)(hT:TabS signs W) :
  Calls prog 9 #[.string (srcC (t.extract 0 (t.size / 2)) (t.extract (t.size / 2) t.size) t),.slice none 0 0] W fun e w=>Fr [] W w∧∃ used:Nat,e=.returned (.tuple #[stV 1 0 (outC t) used,.bool true]):=by
 obtain⟨a,ha⟩:=eXi (t.extract 0 (t.size / 2));obtain⟨b,hb⟩:=eXi (t.extract (t.size / 2) t.size);have za:a.size=t.size / 2:=by rw[← ha,ByteArray.size_extract];omega
 have zb:b.size=t.size-t.size / 2:=by rw[← hb,ByteArray.size_extract];omega
 have hy:a++b=t:=by
  rw[← ha,← hb];apply ByteArray.ext;rw[ByteArray.data_append,ByteArray.data_extract,ByteArray.data_extract];apply Array.ext';rw[Array.toList_append,Array.toList_extract,Array.toList_extract];simp only[List.extract_eq_take_drop,List.drop_zero,Nat.sub_zero];have hl:t.data.toList.length=t.size:=Array.length_toList;rw[List.take_of_length_le (l:=t.data.toList.drop (t.size / 2)) (by rw[List.length_drop];omega),List.take_append_drop]
 rw[ha,hb];clear ha hb;have ne:∀ {x z:BA},x.size≠z.size→x≠z:=fun h e=>h (by rw[e]);by_cases hab:a=b
 ·by_cases hbt:b=t
  ·subst hbt;subst hab;exact ca_played' HB h163 (ts:=[a]) (j:=0) (k:=0) (by simp) (by simp) (fun x hx=>by rw[List.mem_singleton.1 hx];exact ht) rfl rfl rfl ca_0 hy hB hT
  subst hab;exact ca_played' HB h163 (ts:=[a,t]) (j:=0) (k:=1) (by simpa using hbt) (by simp) (fun x hx=>by simp at hx;rcases hx with rfl | rfl <;> omega) rfl rfl rfl ca_2 hy hB hT
 by_cases hbt:b=t
 ·subst hbt;exact ca_played' HB h163 (ts:=[a,b]) (j:=1) (k:=1) (by simpa using hab) (by simp) (fun x hx=>by simp at hx;rcases hx with rfl | rfl <;> omega) rfl rfl rfl ca_1 hy hB hT
 have hat:a≠t:=ne (by
  intro e;have:b.size=0:=by omega
  have:t.size=0:=by omega
  exact hab (by
   apply ByteArray.ext;apply Array.ext';rw[List.eq_nil_of_length_eq_zero (show a.data.toList.length=0 by rw[Array.length_toList];show a.size=0;omega),List.eq_nil_of_length_eq_zero (show b.data.toList.length=0 by rw[Array.length_toList];show b.size=0;omega)]))
 exact ca_played' HB h163 (ts:=[a,b,t]) (j:=1) (k:=2) (by simp[hab,hat,hbt]) (by simp) (fun x hx=>by simp at hx;rcases hx with rfl | rfl | rfl <;> omega) rfl rfl rfl ca_3 hy hB hT
def badT:List Tk:=[(wd [66,69,71,73,78] 0).1,(wd [123] 6).1,(wd [112,114,105,110,116] 8).1,⟨wrongK,14,0,⟨#[]⟩⟩]
def badE (P:Program) (fn:Func):Option Int:=errF (evT P fn signs badT.length (badT.flatMap tkC) 2000 100)
theorem bad_is:badE prog f28=some 14:=by kernel_rfl
theorem bad_src {w:WL}(hT:TabS signs w){t:BA}(ht:¬ t.size≤100)(hs:(srcP t).size≤1000) :
  Calls prog 19 #[.string (srcP t)] w fun e w'=>e=.returned (.tuple #[.string ⟨#[]⟩,iA 14,iA 14])∧Fr [] w w':=by
 rw[srcP_eq] at hs ⊢;have hbl:=bl_length t;have hR:=bad_rds (X:=bl t) (by omega);exact compile_bad hT hs (R:=badT) hR (by decide) bad_is
theorem long_src (w:WL){s:BA}(hs:1000<s.size):Calls prog 19 #[.string s] w fun e w'=>e=.returned (.tuple #[.string ⟨#[]⟩,iA 0,iA 1])∧Fr [] w w':=by
 have g1:(1000:Int)<s.size:=by omega
 go_enter func19,ntmps19;go_wp2;go_ret3;exact⟨rfl,Fr.refl [] _⟩
end Tok
open Go.RowKit
open Wire Flow
namespace Tok
open Ev (signs TabS entered)
theorem quote_size (t:BA):(quoteB t).size≤2*t.size+2:=by
 have:=qL_len (bl t);rw[bl_length] at this;exact this
theorem srcP_size (t:BA):(srcP t).size=14+(quoteB t).size+3:=by
 unfold srcP;rw[ByteArray.size_append,ByteArray.size_append];rfl
theorem half_eq (n:Nat):(n:Int).tdiv 2=((n / 2:Nat):Int):=by rw[Int.tdiv_eq_ediv_of_nonneg (by omega)];omega
theorem quoted_any (HB:BothOk)(h163:∃ fn,entered prog 163=some fn){t:BA}(ht:t.size≤1000000000000000){W:WL}(hb:Base W)(hT:TabS signs W) :
  Calls prog 6 #[.string t] W fun e w=>e=.returned (.bool true)∧Fr [] W w:=by
 have hm:=hmX
 have HQ:Hid _:=quote_any t ht W;by_cases hl:t.size≤100
 ·have HP:Hid _:=pr_played HB h163 hl hb hT;have HP2:Hid _:=fun (V:WL) (F:Fr [] W V)=>ca_played HB h163 hl (hb.fr F) (tabS_fr hT F);have HI:Hid _:=fun (V:WL) (F:Fr [] W V)=>itoa_any (t.size:Nat) V (by omega) (by omega) (hb.pow.fr F);have g1:¬ (100:Int)<t.size:=by omega
  obtain⟨n2,hn2⟩:=eXi (t.size / 2);have hn2l:n2≤t.size:=by omega
  have HQa:Hid (∀ V,_):=quote_any (t.extract 0 n2) (by rw[ByteArray.size_extract];omega);have HQb:Hid (∀ V,_):=quote_any (t.extract n2 t.size) (by rw[ByteArray.size_extract];omega);have HQt:Hid (∀ V,_):=quote_any t ht;have ghalf:(t.size:Int).tdiv 2=(n2:Nat):=by rw[half_eq,hn2]
  simp only[hn2] at HP2;simp only[srcP,stV] at HP;simp only[srcC,stV] at HP2;have HOU:Hid (itoaB (t.size:Nat)++⟨#[32]⟩++t++⟨#[32,49,10]⟩=outC t):=rfl;obtain⟨out,hout⟩:=eXi (outC t);simp only[hout] at HP2 HOU;obtain⟨it,hit⟩:=eXi (itoaB ((t.size:Nat):Int));simp only[hit] at HI HOU;have lt:=quote_size t;have la:=quote_size (t.extract 0 n2);have lb:=quote_size (t.extract n2 t.size);rw[ByteArray.size_extract] at la lb;obtain⟨qt,hqt⟩:=eXi (quoteB t);simp only[hqt] at HP HP2 HQ HQt lt;obtain⟨qa,hqa⟩:=eXi (quoteB (t.extract 0 n2));simp only[hqa] at HP2 HQa la;obtain⟨qb,hqb⟩:=eXi (quoteB (t.extract n2 t.size));simp only[hqb] at HP2 HQb lb;have lt':qt.size≤202:=by omega
  have la':qa.size≤202:=by omega
  have lb':qb.size≤202:=by omega
  have li:it.size≤4:=by rw[← hit];exact itoa_len3 hl
  clear lt la lb;have g2:(n2:Int)≤t.size:=by omega
  clear hb hT hout hit hqt hqa hqb hn2;go_enter func6,ntmps6;go_wp2_with fail;refine Calls.mono HQ.out ?_;rintro e V1 ⟨rfl,hv1⟩;replace hv1:=hv1.symm;subst hv1;clear HQ;go_wp2_with fail;refine Calls.mono HP.out ?_;rintro e V3 ⟨F3,used,rfl⟩;clear HP;obtain⟨V4,hV4⟩:=eXi (V3.alloc (.cells #[iA 1,iA 0,.string (t++⟨#[10]⟩),iA (used:Nat)] 26));have F4:=frA hV4
  have k4:V4.heap[V3.heap.size]?=some (.cells #[iA 1,iA 0,.string (t++⟨#[10]⟩),iA (used:Nat)] 26):=by rw[← hV4];exact wan V3 _
  obtain⟨⟨c0,c1,c2,c3⟩,-⟩:=cells4F k4;have HF4:Hid _:=F3.trans F4;have hsh:=shows_any 1 (t++⟨#[10]⟩) used V4;unfold stV at hsh;obtain⟨b8,hb8⟩:=eXi (V3.heap.size);have HB8:Hid (W.heap.size≤b8):=by show _≤_;rw[← hb8];exact F3.size
  have HK4:Hid (V4.heap[b8]?=some (.cells #[iA 1,iA 0,.string (t++⟨#[10]⟩),iA (used:Nat)] 26)):=by show _=_;rw[← hb8];exact k4
  rw[hb8] at c0 c1 c2 c3;clear F3 F4 k4;go_wp2_with fail;refine Calls.mono hsh ?_;rintro e V5 ⟨rfl,F5⟩;have hl4:=(Age.1 HK4.out).1;have HK5:Hid _:=(F5.block b8 hl4 (by simp)).trans HK4.out;have HF5:Hid _:=HF4.out.trans F5;clear hsh F5 HF4 c0 c1 c2 c3 hV4 HK4 hl4 hb8;go_wp2_with fail;obtain⟨WD,hWD⟩:=eXi (V5.drew);have FD:Fr [] V5 WD:=by rw[← hWD];exact (Fr.refl [] V5).drew
  have HP2:Hid _:=HP2.out WD (HF5.out.trans FD);have hl5:=(Age.1 HK5.out).1;have HKD:Hid (b8<WD.heap.size∧WD.heap[b8]?=some (.cells #[iA 1,iA 0,.string (t++⟨#[10]⟩),iA (used:Nat)] 26)):=⟨Nll hl5 FD.size,(FD.block b8 hl5 (by simp)).trans HK5.out⟩;have HFD:Hid _:=HF5.out.trans FD;clear FD HF5 HK5 hl5;refine wp_region_L (fun w=>w=WD) 16 hm ?_;rw[hWD];have hS:WD=WD:=rfl;refine wpAnyL_takesU (fuel:=15) [0,1,2,6,7,8,12] (by kernel_rfl) (fun _ _ _ _ _ h=>h) (.inr hS) ?_
  iterate 7
   refine Yls.cons (v:=?_) rfl (.inl ⟨rfl,fun w1 hS1=>?_⟩) ?_;rotate_left
   ·go_simp
    first | rfl | (refine (if_neg (by omega)).trans ?_;rfl)
   simp only[Act.put,Zp,Zq]
  refine Yls.nil ?_;refine wpAnyL_ready (rs:=[3]) (by kernel_rfl) (by simp) ?_;refine AllReadyL.cons rfl (fun K hK=>?_) AllReadyL.nil;go_simp;refine Calls.mono (HQa.out WD) ?_;rintro e w9 ⟨rfl,hv9⟩;replace hv9:=hv9.symm;subst hv9;refine hK _ _ (.inr rfl) ?_;clear hK K
  try simp only[Act.put,Zp,Zq]
  refine wpAnyL_takesU (fuel:=12) [4,5] (by kernel_rfl) (fun _ _ _ _ _ h=>h) (.inr hS) ?_
  iterate 2
   refine Yls.cons (v:=?_) rfl (.inl ⟨rfl,fun w1 hS1=>?_⟩) ?_;rotate_left
   ·go_simp
    first | rfl | (refine (if_neg (by omega)).trans ?_;rfl)
   simp only[Act.put,Zp,Zq]
  refine Yls.nil ?_;refine wpAnyL_ready (rs:=[9]) (by kernel_rfl) (by simp) ?_;refine AllReadyL.cons rfl (fun K hK=>?_) AllReadyL.nil;go_simp;refine Calls.mono (HQb.out WD) ?_;rintro e w9 ⟨rfl,hv9⟩;replace hv9:=hv9.symm;subst hv9;refine hK _ _ (.inr rfl) ?_;clear hK K
  try simp only[Act.put,Zp,Zq]
  refine wpAnyL_takesU (fuel:=9) [10,11] (by kernel_rfl) (fun _ _ _ _ _ h=>h) (.inr hS) ?_
  iterate 2
   refine Yls.cons (v:=?_) rfl (.inl ⟨rfl,fun w1 hS1=>?_⟩) ?_;rotate_left
   ·go_simp
    first | rfl | (refine (if_neg (by omega)).trans ?_;rfl)
   simp only[Act.put,Zp,Zq]
  refine Yls.nil ?_;refine wpAnyL_ready (rs:=[13]) (by kernel_rfl) (by simp) ?_;refine AllReadyL.cons rfl (fun K hK=>?_) AllReadyL.nil;go_simp;refine Calls.mono (HQt.out WD) ?_;rintro e w9 ⟨rfl,hv9⟩;replace hv9:=hv9.symm;subst hv9;refine hK _ _ (.inr rfl) ?_;clear hK K
  try simp only[Act.put,Zp,Zq]
  refine wpAnyL_takesU (fuel:=6) [14,15] (by kernel_rfl) (fun _ _ _ _ _ h=>h) (.inr hS) ?_
  iterate 2
   refine Yls.cons (v:=?_) rfl (.inl ⟨rfl,fun w1 hS1=>?_⟩) ?_;rotate_left
   ·go_simp
    first | rfl | (refine (if_neg (by omega)).trans ?_;rfl)
   simp only[Act.put,Zp,Zq]
  refine Yls.nil ?_;refine wpAnyL_ready (rs:=[16]) (by kernel_rfl) (by simp) ?_;refine AllReadyL.cons rfl (fun K hK=>?_) AllReadyL.nil;have hcp:=HP2.out;go_simp;refine Calls.mono hcp ?_;rintro e V6 ⟨F6,used2,rfl⟩;refine hK _ _ (.inl rfl) ?_;clear hK K hcp HP2 HQa HQb HQt
  try simp only[Act.put,Zp,Zq]
  refine wpAnyL_takesU (fuel:=2) [17,18,19] (by kernel_rfl) (fun _ _ _ _ _ h=>h) (.inl rfl) ?_
  iterate 3
   refine Yls.cons (v:=?_) rfl (.inl ⟨rfl,fun w1 hS1=>?_⟩) ?_;rotate_left
   ·go_simp
    first | rfl | (refine (if_neg (by omega)).trans ?_;rfl)
   simp only[Act.put,Zp,Zq]
  refine Yls.nil ?_;have k6:=(F6.block _ HKD.out.1 (by simp)).trans HKD.out.2;obtain⟨⟨d0,d1,d2,d3⟩,dz⟩:=cells4F k6;have g0:=dz 0;have g5:=dz 1;have g6:=dz 2;have g7:=dz 3;have HK6:Hid _:=AI k6 (AI F6 (Age.1 k6).1);clear k6 dz F6;refine wpAnyL_ready (rs:=[20]) (by kernel_rfl) (by simp) ?_;refine AllReadyL.cons rfl (fun K hK=>?_) AllReadyL.nil;go_simp;refine hK _ _ (.inl rfl) ?_;clear hK K d0 d1 d2 d3 g0 g5 g6 g7
  try simp only[Act.put,Zp,Zq]
  refine wpAnyL_takesU (fuel:=0) [21] (by kernel_rfl) (fun _ _ _ _ _ h=>h) (.inl rfl) ?_
  iterate 1
   refine Yls.cons (v:=?_) rfl (.inl ⟨rfl,fun w1 hS1=>?_⟩) ?_;rotate_left
   ·go_simp
    first | rfl | (refine (if_neg (by omega)).trans ?_;rfl)
   simp only[Act.put,Zp,Zq]
  refine Yls.nil ?_;refine wpAnyL_done (by kernel_rfl) ?_ _;refine NoPanic.normal ?_;obtain⟨V7,hV7⟩:=eXi ((((V6.setCell ⟨b8,0,none⟩ (.int .i64 1)).setCell ⟨b8,1,none⟩ (.int .i64 0)).setCell ⟨b8,2,none⟩ (.string out)).setCell ⟨b8,3,none⟩ (.int .i64 (used2:Nat)));have k7:V7.heap[b8]?=some (.cells #[iA 1,iA 0,.string out,iA (used2:Nat)] 26):=by rw[← hV7];exact set4_block HK6.out.1 _ _ _ _
  have HF7:Hid (Fr [] W V7):=by
   have F:=HFD.out.trans HK6.out.2.1;have h8:=HB8.out;show Fr [] W V7;rw[← hV7];exact (((F.setCell (p:=⟨b8,0,none⟩) (.inr h8) _).setCell (p:=⟨b8,1,none⟩) (.inr h8) _).setCell (p:=⟨b8,2,none⟩) (.inr h8) _).setCell (p:=⟨b8,3,none⟩) (.inr h8) _
  obtain⟨⟨c0,c1,c2,c3⟩,-⟩:=cells4F k7
  try rw[hV7]
  clear k7 hV7 HK6 HFD HKD HB8 hWD;go_wp2_with fail;refine wp_region_heldD (fun V=>V.cell? (Ad b8 0)=some (iA 1)∧V.cell? (Ad b8 1)=some (iA 0)∧V.cell? (Ad b8 2)=some (.string out)∧V.cell? (Ad b8 3)=some (iA (used2:Nat))) hm ?_;obtain⟨WE,hWE⟩:=eXi (V7.drew);rw[hWE];have FE:Fr [] V7 WE:=by rw[← hWE];exact (Fr.refl [] V7).drew
  have hS:WE.cell? (Ad b8 0)=some (iA 1)∧WE.cell? (Ad b8 1)=some (iA 0)∧WE.cell? (Ad b8 2)=some (.string out)∧WE.cell? (Ad b8 3)=some (iA (used2:Nat)):=by rw[← hWE];exact⟨c0,c1,c2,c3⟩
  have HC7:Hid _:=HI.out WE (HF7.out.trans FE);have HFE:Hid _:=HF7.out.trans FE;clear c0 c1 c2 c3 FE hWE HI HF7;refine wpAnyH_takes (fun _ _ _ _ _ h=>h) hS [0,1,2,5] (by kernel_rfl) ?_
  iterate 4
   refine Yls.cons (v:=?_) rfl (.inl ⟨rfl,fun w1 hS1=>?_⟩) ?_;rotate_left
   ·obtain⟨p0,p1,p2,p3⟩:=hS1;go_simp
    first | rfl | (refine (if_neg (by omega)).trans ?_;rfl)
   simp only[Act.put,Zp,Zq]
  refine Yls.nil ?_;refine rd1 (r:=3) (by kernel_rfl) rfl fun K hK=>?_;go_simp;refine Calls.mono HC7.out ?_;rintro e W8 ⟨rfl,F8⟩;have hS8:W8.cell? (Ad b8 0)=some (iA 1)∧W8.cell? (Ad b8 1)=some (iA 0)∧W8.cell? (Ad b8 2)=some (.string out)∧W8.cell? (Ad b8 3)=some (iA (used2:Nat)):=by
   obtain⟨p0,p1,p2,p3⟩:=hS;have hl:b8<WE.heap.size:=lt_of_cell p0;exact⟨(F8.cell (p:=Ad b8 0) hl (by simp)).trans p0,(F8.cell (p:=Ad b8 1) hl (by simp)).trans p1,(F8.cell (p:=Ad b8 2) hl (by simp)).trans p2,(F8.cell (p:=Ad b8 3) hl (by simp)).trans p3⟩
  have HF8:Hid _:=HFE.out.trans F8;clear hS F8 HC7 HFE;refine hK _ _ hS8 ?_;clear hK K;intro _
  try simp only[Act.put,Zp,Zq]
  refine wpAnyH_takes (fun _ _ _ _ _ h=>h) hS8 [4,6,7] (by kernel_rfl) ?_
  iterate 3
   refine Yls.cons (v:=?_) rfl (.inl ⟨rfl,fun w1 hS1=>?_⟩) ?_;rotate_left
   ·obtain⟨p0,p1,p2,p3⟩:=hS1;go_simp
    first | rfl | (refine (if_neg (by omega)).trans ?_;rfl)
   simp only[Act.put,Zp,Zq]
  refine Yls.nil ?_;rw[HOU.out];have hsh:=shows_any 1 out used2 W8;unfold stV at hsh;refine rd1 (r:=8) (by kernel_rfl) rfl fun K hK=>?_;go_simp;refine Calls.mono hsh ?_;rintro e W9 ⟨rfl,F9⟩;have hS9:W9.cell? (Ad b8 0)=some (iA 1)∧W9.cell? (Ad b8 1)=some (iA 0)∧W9.cell? (Ad b8 2)=some (.string out)∧W9.cell? (Ad b8 3)=some (iA (used2:Nat)):=by
   obtain⟨p0,p1,p2,p3⟩:=hS8;have hl:b8<W8.heap.size:=lt_of_cell p0;exact⟨(F9.cell (p:=Ad b8 0) hl (by simp)).trans p0,(F9.cell (p:=Ad b8 1) hl (by simp)).trans p1,(F9.cell (p:=Ad b8 2) hl (by simp)).trans p2,(F9.cell (p:=Ad b8 3) hl (by simp)).trans p3⟩
  have HF9:Hid _:=HF8.out.trans F9;clear hS8 F9 hsh HF8;refine hK _ _ hS9 ?_;clear hK K;intro _
  try simp only[Act.put,Zp,Zq]
  refine wpAnyH_takes (fun _ _ _ _ _ h=>h) hS9 [9] (by kernel_rfl) ?_
  iterate 1
   refine Yls.cons (v:=?_) rfl (.inl ⟨rfl,fun w1 hS1=>?_⟩) ?_;rotate_left
   ·obtain⟨p0,p1,p2,p3⟩:=hS1;go_simp
    first | rfl | (refine (if_neg (by omega)).trans ?_;rfl)
   simp only[Act.put,Zp,Zq]
  refine Yls.nil ?_;refine wpAnyH_done (by kernel_rfl) ?_ _;go_wp2_with fail;go_ret;exact⟨rfl,HF9.out⟩
 have g1:(100:Int)<t.size:=by omega
 by_cases hs:(srcP t).size≤1000
 ·have HC:Hid _:=bad_src hT hl hs;have g2:¬ (1000:Int)<14+((quoteB t).size:Int)+3:=by have:=srcP_size t;omega
  unfold srcP at HC;have lt:=quote_size t;obtain⟨qt,hqt⟩:=eXi (quoteB t);simp only[hqt] at HC HQ g2 lt;clear hb hT hs hqt;go_enter func6,ntmps6;go_wp2_with fail;refine Calls.mono HQ.out ?_;rintro e V1 ⟨rfl,hv1⟩;replace hv1:=hv1.symm;subst hv1;clear HQ;go_wp2_with fail;refine Calls.mono HC.out ?_;rintro e V2 ⟨rfl,F2⟩;have HF:Hid _:=F2;clear F2 HC;go_wp2;go_ret;exact⟨rfl,HF.out⟩
 have HC:Hid _:=long_src W (s:=srcP t) (by omega);have g2:(1000:Int)<14+((quoteB t).size:Int)+3:=by have:=srcP_size t;omega
 unfold srcP at HC;have lt:=quote_size t;obtain⟨qt,hqt⟩:=eXi (quoteB t);simp only[hqt] at HC HQ g2 lt;clear hb hT hs hqt;go_enter func6,ntmps6;go_wp2_with fail;refine Calls.mono HQ.out ?_;rintro e V1 ⟨rfl,hv1⟩;replace hv1:=hv1.symm;subst hv1;clear HQ;go_wp2_with fail;refine Calls.mono HC.out ?_;rintro e V2 ⟨rfl,F2⟩;have HF:Hid _:=F2;clear F2 HC;go_wp2;go_ret;exact⟨rfl,HF.out⟩
end Tok
end Go.Proofs.YtmolfmgchbjnbaaGreatDoor
