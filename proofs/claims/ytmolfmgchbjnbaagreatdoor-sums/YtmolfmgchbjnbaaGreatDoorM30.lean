import Derived.Test.YtmolfmgchbjnbaaGreatDoorM29
import Derived.Test.YtmolfmgchbjnbaaGreatDoorM25
set_option linter.unusedSimpArgs false
set_option linter.unusedVariables false
set_option maxRecDepth 100000
set_option maxHeartbeats 40000000
open _root_.Go.Proofs.Tryz
namespace Go.Proofs.YtmolfmgchbjnbaaGreatDoor
open Wire Flow
namespace Tok
open Ev
def CouldL (L:List Ln):Prop:=∀ (F:LV) (nf gn an nt:Nat) (T:LN),T.length=L.length→∀ o1 o2 c1 c2,isF (couldE prog signs F (insV (stpsF 0 L) T) nf L.length gn an nt o1 o2 c1 c2)=true
def couldB (P:Program) (F:LV) (L:List Ln) (T:LN) (nf gn an nt:Nat) (o1 o2:OA) (c1 c2:Nat):Bool:=isF (couldE P signs F (insV (stpsF 0 L) T) nf L.length gn an nt o1 o2 c1 c2)
theorem could_end1 (F:LV)(nf gn an nt t:Nat)(o1 o2:OA)(c1 c2:Nat):couldB prog F [(52,[])] [t] nf gn an nt o1 o2 c1 c2=true:=by kernel_rfl
theorem could_end:CouldL [(52,[])]:=by
 intro F nf gn an nt T hT o1 o2 c1 c2
 match T,hT with
 | [t],_=>exact could_end1 F nf gn an nt t o1 o2 c1 c2
def Could6 (g:UInt8):Prop:=∀ (z1 z2:Int) (F:LV) (nf gn an nt t0 t1 t2 t3 t4 t5:Nat) (o1 o2:OA) (c1 c2:Nat),couldB prog F (sumL g false false z1 z2) [t0,t1,t2,t3,t4,t5] nf gn an nt o1 o2 c1 c2=true
def Could7 (g:UInt8) (s:Bool):Prop:=∀ (z1 z2:Int) (F:LV) (nf gn an nt t0 t1 t2 t3 t4 t5 t6:Nat) (o1 o2:OA) (c1 c2:Nat),couldB prog F (sumL g s (!s) z1 z2) [t0,t1,t2,t3,t4,t5,t6] nf gn an nt o1 o2 c1 c2=true
def Could8 (g:UInt8):Prop:=∀ (z1 z2:Int) (F:LV) (nf gn an nt t0 t1 t2 t3 t4 t5 t6 t7:Nat) (o1 o2:OA) (c1 c2:Nat),couldB prog F (sumL g true true z1 z2) [t0,t1,t2,t3,t4,t5,t6,t7] nf gn an nt o1 o2 c1 c2=true
def CouldIs (g:UInt8):Prop:=∀ (s1 s2:Bool) (z1 z2:Int),CouldL (sumL g s1 s2 z1 z2)
theorem couldIs {g:UInt8}(h6:Could6 g)(h7:Could7 g false)(h7':Could7 g true)(h8:Could8 g):CouldIs g:=by
 intro s1 s2 z1 z2 F nf gn an nt T hT o1 o2 c1 c2
 cases s1 <;> cases s2
 ·match T,hT with
  | [t0,t1,t2,t3,t4,t5],_=>exact h6 _ _ _ _ _ _ _ _ _ _ _ _ _ _ _ _ _
 ·match T,hT with
  | [t0,t1,t2,t3,t4,t5,t6],_=>exact h7 _ _ _ _ _ _ _ _ _ _ _ _ _ _ _ _ _ _
 ·match T,hT with
  | [t0,t1,t2,t3,t4,t5,t6],_=>exact h7' _ _ _ _ _ _ _ _ _ _ _ _ _ _ _ _ _ _
 ·match T,hT with
  | [t0,t1,t2,t3,t4,t5,t6,t7],_=>exact h8 _ _ _ _ _ _ _ _ _ _ _ _ _ _ _ _ _ _ _
end Tok
open Go.RowKit
open Wire Flow
namespace Tok
open Ev (TabS Kept plainV signs)
structure GoodM (m:Mo) (gn an:Nat):Prop where
 win:within ipF m=true
 pt:m.pats=[]
 gl:m.globs=(gn:Nat)
 ar:m.arrs=(an:Nat)
 mo:MoOk m
 three:3≤m.fns.length
 fns:∀ k,k<m.fns.length→FnGood m gn an m.texts.length k
 ok:Mach.ModOk m
 len:(Wire.written m).length≤40000
theorem GoodM.plain {m:Mo}{gn an:Nat} (h:GoodM m gn an):(fnsV m).all plainV=true:=by
 rw[List.all_eq_true];intro v hv;obtain⟨x,hx,hv⟩:=List.mem_flatMap.1 hv;obtain⟨p1,p2,p3,p4,p5⟩:=h.mo.f.p x hx;have key:∀ z:Int,z≤1000→plainV (iA z)=true:=fun z hz=>by
  show Ev.ilt z 9223372036854775808=true;rw[Ev.ilt_eq];exact decide_eq_true (by omega)
 simp only[fnC,List.mem_cons,List.not_mem_nil,or_false] at hv;rcases hv with rfl | rfl | rfl
 ·exact key _ (by omega)
 ·exact key _ (by omega)
 rfl
theorem own_any {W:WL}{B e z n:Nat}{v:Value}{xs:LV} (h:W.ownsRow B e z v n xs):AnySl v n:=by
 rcases h.2 with ⟨rfl,rfl⟩ | ⟨g,cap,cur,rfl,_⟩
 ·exact .inl rfl
 exact .inr ⟨_,cap,rfl,rfl⟩
def ChkG (m:Mo) (gn an:Nat) (W:WL) (e:Ending) (w:WL):Prop:=
 Fr [] W w∧∃ (a0 a1:OA) (c0 c1 gF cF:Nat),e=.returned (.tuple #[.agg #[.slice a0 m.texts.length c0,.slice a1 0 c1,.int .i64 (gn:Nat),.int .i64 (an:Nat),.slice (some ⟨gF,0,none⟩) m.fns.length cF],.int .i64 0,.int .i64 0,.int .i64 0])∧W.heap.size≤gF∧gF<w.heap.size∧m.fns.length≤cF∧(∀ i v,(fnsV m)[i]?=some v→w.cell? ⟨gF,i,none⟩=some v)∧StrsFar W.heap.size w (.slice a0 m.texts.length c0) m.texts
theorem checked_good (HB:BothOk){m:Mo}{gn an:Nat} (hG:GoodM m gn an) {b:BA} (hu:bl b=Wire.written m) {w:WL} (ht:TabS signs w) (hT0:1<w.heap.size):Calls prog 31 #[.string b] w (ChkG m gn an w):=by
 have hm:b.size≤40000:=by rw[← bl_length,hu];exact hG.len
 obtain⟨W1,hW1⟩:=eXi (w.alloc (.cells #[.slice none 0 0,.slice none 0 0,iA 0,iA 0,.slice none 0 0] 70));have F1:=frA hW1
 have k1:W1.heap[w.heap.size]?=some (.cells #[.slice none 0 0,.slice none 0 0,iA 0,iA 0,.slice none 0 0] 70):=by rw[← hW1];exact wan w _
 have HU:Hid _:=unpackG b W1 hG.win hu hm trivial (Nll hT0 F1.size);have hT1:TabS signs W1:=tabS_fr ht F1;have H1:Hid _:=AI F1 (AI k1 hT1);have HG:Hid _:=hG;clear F1 k1 hu hG ht hT1;go_enter func31,ntmps31;go_wp2_with fail;refine Calls.mono HU.out ?_;rintro e W2 ⟨F2,a0,a1,a4,n0,c0,n1,c1,n4,c4,gn',an',rfl,hF⟩;have hF0:=hF;obtain⟨tv,pv,fv,e5,hS0,hS1,hS4,-⟩:=hF;simp only[Value.agg.injEq,Array.mk.injEq,List.cons.injEq,Value.int.injEq,true_and,and_true] at e5;obtain⟨e50,e51,e52,e53,e54⟩:=e5;subst e50 e51 e54;obtain rfl:gn'=gn:=by have:=HG.out.gl;omega
 obtain rfl:an'=an:=by have:=HG.out.ar;omega
 obtain rfl:n0=m.texts.length:=by obtain⟨_,_,_,_,e,-⟩:=hS0;cases e;rfl
 obtain rfl:n1=0:=by obtain⟨_,_,_,_,e,-⟩:=hS1;cases e;rw[HG.out.pt];rfl
 obtain rfl:n4=m.fns.length:=by obtain⟨_,_,_,_,e,-⟩:=hS4;cases e;rfl
 obtain⟨gF,rfl,hgF1,hgF2,hcF⟩:∃ gF,a4=some (Ad gF 0)∧W1.heap.size≤gF∧gF<W2.heap.size∧m.fns.length≤c4:=by
  have h3:=HG.out.three;rcases hS4.own.2 with ⟨_,h0⟩ | ⟨g,cap,cur,hv,hb,hg,hn,_⟩
  ·omega
  cases hv;exact⟨g,rfl,hb,(Age.1 hg).1,hn⟩
 have hcells:∀ i v,(fnsV m)[i]?=some v→W2.cell? (Ad gF i)=some v:=fun i v hv=>own_cell hS4.own hv;obtain⟨W3,hW3⟩:=eXi (W2.alloc (.cells #[.slice a0 m.texts.length c0,.slice a1 0 c1,iA gn',iA an',.slice (some (Ad gF 0)) m.fns.length c4] 70));have F3:=frA hW3
 have k3:W3.heap[W2.heap.size]?=some (.cells #[.slice a0 m.texts.length c0,.slice a1 0 c1,iA gn',iA an',.slice (some (Ad gF 0)) m.fns.length c4] 70):=by rw[← hW3];exact wan W2 _
 obtain⟨⟨q0,q1,q2,q3,q4⟩,-⟩:=cells5F k3;have HC:Hid _:=fun (_:Unit)=>check_good HB H1.out.2.2 ((F2.trans F3).kept) HG.out.mo HG.out.gl HG.out.ar (a0:=a0) (a1:=a1) (c0:=c0) (c1:=c1) (gF:=gF) (cF:=c4) rfl rfl
  (by obtain⟨x0,x1,x2,x3,z1,z2,z3,z4,-⟩:=hS0.fr F3 (by simp);exact⟨x0,x1,x2,x3,z1,z2,fun h=>⟨(z3 h).1,(z3 h).2.1⟩,z4⟩)
  (by obtain⟨x0,x1,x2,x3,z1,z2,z3,z4,-⟩:=hS1.fr F3 (by simp);exact⟨x0,x1,x2,x3,z1,z2,fun h=>⟨(z3 h).1,(z3 h).2.1⟩,z4⟩)
  ((hS4.fr F3 (by simp)).fns) (own_any hS0.own) (by have:=own_any hS1.own;rw[HG.out.pt] at this;exact this) hgF1 (Nll hgF2 F3.size) (fun i v hv=>(F3.cell (p:=Ad gF i) hgF2 (by simp)).trans (hcells i v hv)) HG.out.plain HG.out.three hcF
  (by rw[List.all_eq_true];intro x hx;exact decide_eq_true (HG.out.mo.f.p x hx).2.2.2.2) (fun k hk=>HG.out.fns k hk)
 have H2:Hid _:=AI F2 (AI hS0 (AI hcells (AI hgF1 (AI hgF2 hcF))));have H3:Hid _:=AI F3 k3;clear F3 k3 F2 hS0 hS1 hS4 hF0 hcells hgF1 hgF2 hcF HU e52 e53;go_wp2_with fail;refine Calls.mono (HC.out ()) ?_;rintro e W4 ⟨rfl,F4⟩;have l1:w.heap.size<W1.heap.size:=(Age.1 H1.out.2.1).1;have l2:W1.heap.size≤W2.heap.size:=H2.out.1.size;have l3:W2.heap.size<W3.heap.size:=(Age.1 H3.out.2).1;have FA:Fr [] W1 W4:=(H2.out.1.trans H3.out.1).trans F4;have k4:=(FA.block w.heap.size l1 (by simp)).trans H1.out.2.1;have k5:=(F4.block W2.heap.size l3 (by simp)).trans H3.out.2;obtain⟨⟨r0,r1,r2,r3,r4⟩,-⟩:=cells5F k5;obtain⟨⟨s0,s1,s2,s3,s4⟩,fz⟩:=cells5F k4;have f0:=fz 0;have f1:=fz 1;have f2:=fz 2;have f3:=fz 3;have f4:=fz 4;have HS:Hid _:=set5_block k4;have HF:Hid _:=AI (H1.out.1.trans FA) (AI l1 (AI l2 (H3.out.1.trans F4)));clear FA k4 k5 q0 q1 q2 q3 q4 F4 fz H1 H3 l1 l2 l3 HC;generalize hnf:m.fns.length=nf at *;generalize hnt:m.texts.length=nt at *;have HN:Hid _:=AI hnf hnt;clear hnf hnt;go_wp2_with fail;refine bodyPost_ret (results_row3 rfl _ _ w.heap.size 70 #[.slice a0 nt c0,.slice a1 0 c1,iA gn',iA an',.slice (some (Ad gF 0)) nf c4] (0,0) _ rfl (HS.out _ _ _ _ _) underlying70 rfl (by kernel_rfl)) rfl ?_;have hl:=Nat.le_refl w.heap.size;have FS:Fr [w.heap.size] W4 (set5W W4 w.heap.size (.slice a0 nt c0) (.slice a1 0 c1) (iA gn') (iA an') (.slice (some (Ad gF 0)) nf c4)):=((((((Fr.refl [w.heap.size] W4).setCell (.inl (by simp)) _).setCell (.inl (by simp)) _).setCell (.inl (by simp)) _).setCell (.inl (by simp)) _).setCell (.inl (by simp)) _);obtain⟨G1,G2,G3,G4⟩:=HF.out;obtain⟨-,T1,T2,T3,T4,T5⟩:=H2.out;have l4:gF<W4.heap.size:=Nll T4 G4.size;refine⟨((((G1.setCell (.inr hl) _).setCell (.inr hl) _).setCell (.inr hl) _).setCell (.inr hl) _).setCell (.inr hl) _,a0,a1,c0,c1,gF,c4,?_,by omega,Nll l4 FS.size,?_,fun i v hv=>?_,?_⟩
 ·rw[HN.out.1,HN.out.2];rfl
 ·rw[HN.out.1];exact T5
 ·exact (FS.cell (p:=Ad gF i) l4 (by simp;omega)).trans ((G4.cell (p:=Ad gF i) T4 (by simp)).trans (T2 i v hv))
 rw[HN.out.2];exact ((T1.fr G4 (by simp)).fr FS (by simp;omega)).base (by omega)
end Tok
open Go.RowKit
open Wire Flow
namespace Tok
open Ev (wr wr_eq)
theorem fnMo_win {fns:List Wire.Fn}(h3:3≤fns.length)(hn:fns.length≤1000)(hl:lawfulAll fns 0=true):within ipF (fnMo fns)=true:=by
 simp[within,fnMo,h3,hn,hl]
theorem win_mo {m:Mo}(h:within ipF m=true):MoOk m:=by
 simp only[within,Bool.and_eq_true,decide_eq_true_eq] at h;obtain⟨⟨⟨⟨⟨⟨⟨⟨⟨⟨h1,h2⟩,h3⟩,h4⟩,h5⟩,h6⟩,h7⟩,h8⟩,-⟩,-⟩,h9⟩:=h;refine⟨⟨h4,fun x hx=>?_⟩,h1,h2,⟨h5,h6⟩,⟨h7,h8⟩⟩;obtain⟨k,hk⟩:=List.getElem?_of_mem hx;obtain⟨hk1,rfl⟩:=Lgs.1 hk;have:=lawfulAll_at m.fns 0 k hk1 h9;rw[lawful_eq] at this;obtain⟨⟨a,b⟩,⟨c,d⟩,e⟩:=this;refine⟨a,?_,by omega,by omega,e⟩;split at b <;> omega
theorem fnsB_len:∀ (l:List Wire.Fn)(c:Nat),(∀ x ∈ l,x.code.size≤c)→(fnsB l).length≤l.length*(30+c)
 | [],_,_=>by simp[fnsB]
 | x :: l,c,h=>by
  have h1:=fnsB_len l c fun y hy=>h y (by simp[hy])
  have h2:=h x (by simp)
  have h3:=digs_len x.params.toNat
  have h4:=digs_len x.locs.toNat
  have h5:=digs_len x.code.size
  have h6:=bl_length x.code
  unfold fnsB at h1 ⊢
  rw[List.flatMap_cons,Lla,List.length_cons,Nat.add_mul]
  have:(Wire.fnB x).length≤30+c:=by
   unfold Wire.fnB Wire.textB
   simp only[Lla]
   first | omega | (rw[h6];omega)
  omega
theorem fnMo_len {fns:List Wire.Fn}{c:Nat} (h:∀ x ∈ fns,x.code.size≤c) (hb:fns.length*(30+c)≤30000):(Wire.written (fnMo fns)).length≤40000:=by
 have h1:=fnsB_len fns c h;have h2:=digs_len fns.length;have h3:=digs_len (digs fns.length++fnsB fns).length;have e1:(sect 5 (fnsL fns)).length≤30000+30:=by
  unfold sect fnsL;simp only[List.length_cons,Lla] at h3 ⊢;omega
 have e2:(digs 0).length≤10:=digs_len 0;have e3:∀ k,(sect k (listing [])).length≤30:=fun k=>by
  have:=digs_len (listing []).length;unfold sect;have e4:(listing []).length≤10:=by unfold listing;simp only[Lla];have:=digs_len ([]:LY).length;simp[textsB] at this ⊢;omega
  simp only[List.length_cons,Lla];omega
 have e5:∀ k,(sect k (digs 0)).length≤30:=fun k=>by
  have:=digs_len (digs 0).length;unfold sect;simp only[List.length_cons,Lla];omega
 have a1:=e3 1;have a2:=e3 2;have a3:=e5 3;have a4:=e5 4;unfold Wire.written body fnMo;simp only[Lla,List.length_cons,sum3,List.length_nil,Int.toNat_zero];omega
theorem fnMo_sz {fns:List Wire.Fn}(hn:fns.length≤1000)(h:∀ x ∈ fns,x.code.size≤20000):ModSz (fnMo fns):=by
 refine⟨by simp[fnMo,maxLen],by simp[fnMo],by simp[fnMo,maxLen],by simp[fnMo],?_,fun x hx=>?_⟩
 ·show fns.length≤maxLen;unfold maxLen;omega
 have:=h x hx;unfold maxLen;omega
theorem stps_ops:∀ {L:List Ln},(∀ x ∈ L,opB x.1=true)→∀ (i:Nat),∀ s ∈ stpsF i L,opB s.op=true
 | [],_,_,s,hs=>by cases hs
 | x :: L,h,i,s,hs=>by
  rcases List.mem_cons.1 hs with rfl | hs
  ·exact h x (by simp)
  ·exact stps_ops (fun y hy=>h y (by simp[hy])) _ s hs
theorem fnGood_lines {fns:List Wire.Fn}{f:Nat}{L:List Ln}{p q:Int} (hf:fns[f]?=some ⟨p,q,lnsC L⟩) (hL:∀ x ∈ L,Fit (fnMo fns) f q.toNat x) (hn:NoFar L) (h0:0<L.length) (ho:∀ x ∈ L,opB x.1=true) {G:List (Option (LB))} (hg:firstB G=true) (hG:eachB (Mach.parOf (fnMo fns)) (stpsF 0 L) G 0 (stpsF 0 L) G=true) (hC:CouldL L) :
  FnGood (fnMo fns) 0 0 0 f∧Mach.FnOk (fnMo fns) f:=by
 obtain⟨h1,h2,h3⟩:=fnOk_lines (m:=fnMo fns) (f:=f) hf hL hn hg hG;refine⟨⟨stpsF 0 L,⟨h1,h2,by rw[stps_len];exact h0,stps_ops ho 0⟩,fun T hT _ o1 o2 c1 c2=>?_⟩,⟨_,h1,h2,h3⟩⟩;rw[stps_len] at hT ⊢;exact hC _ _ 0 0 0 T hT o1 o2 c1 c2
end Tok
open Go.RowKit
open Wire Flow
namespace Tok
open Ev (wr wr_eq)
def sumFn (g:UInt8) (s1 s2:Bool) (a1 a2:Nat):List Wire.Fn:=[⟨0,0,lnsC (sumL g s1 s2 (a1:Int) (a2:Int))⟩,endF,endF]
theorem wr2 {n:Nat}(h:n≤1000000000):wr .i64 (2*(n:Int))=((2*n:Nat):Int):=by
 rw[wr_eq,IntKind.wrap_i64];omega
theorem sumFs_eq {g:UInt8}{s1 s2:Bool}{n1 n2:Nat} (h1:n1≤1000000000) (h2:n2≤1000000000):sumFs g s1 s2 n1 n2=sumFn g s1 s2 (2*n1) (2*n2):=by
 unfold sumFs sumFn;rw[wr2 h1,wr2 h2]
def opsL:LB:=[43,45,42,47,37,60]
theorem fit_num {m:Mo}{a:Nat} (h:a≤2000000000):Fit m 0 0 (0,[(a:Int)]):=
 ⟨rfl,(show (0:Nat)≠38 by decide),.inr ⟨(show sortsT.getD 0 0≠0 by decide),a,rfl,by
  show fitN m 0 1 a=true
  unfold fitN low above
  simp
  omega,by omega⟩⟩
theorem fit_op {m:Mo}{op:Nat} (h:(mayOp 0 op && (op != 38) && (sortsT.getD op 0==0))=true):Fit m 0 0 (op,[]):=by
 simp only[Bool.and_eq_true,bne_iff_ne,ne_eq,beq_iff_eq] at h;exact⟨h.1.1,h.1.2,.inl ⟨h.2,rfl⟩⟩
theorem fit_print {m:Mo}:Fit m 0 0 (44,[1]):=⟨rfl,by decide,.inr ⟨by decide,1,rfl,by
 show fitN m 0 8 1=true
 unfold fitN low above
 simp,by decide⟩⟩
theorem fit_end {m:Mo}{f:Nat} (h:f<3):Fit m f 0 (52,[]):=by
 refine⟨?_,by decide,.inl ⟨rfl,rfl⟩⟩;rcases (show f=0∨f=1∨f=2 by omega) with rfl | rfl | rfl <;> rfl
theorem opN_ok {g:UInt8}(hg:g ∈ opsL):(mayOp 0 (opN g) && (opN g != 38) && (sortsT.getD (opN g) 0==0))=true∧far (opN g)=false∧opN g<256:=by
 simp only[opsL,List.mem_cons,List.not_mem_nil,or_false] at hg;rcases hg with rfl | rfl | rfl | rfl | rfl | rfl <;> exact⟨rfl,rfl,by decide⟩
theorem sumL_mem {g:UInt8}{s1 s2:Bool}{z1 z2:Int}{x:Ln} (h:x ∈ sumL g s1 s2 z1 z2):x=(0,[z1])∨x=(0,[z2])∨x=(23,[])∨x=(opN g,[])∨x=(27,[])∨x=(44,[1])∨x=(52,[]):=by
 unfold sumL negL at h;cases s1 <;> cases s2 <;> simp at h <;> grind
theorem sum_fit {m:Mo}{g:UInt8} (hg:g ∈ opsL) {s1 s2:Bool}{a1 a2:Nat} (h1:a1≤2000000000) (h2:a2≤2000000000):∀ x ∈ sumL g s1 s2 (a1:Int) (a2:Int),Fit m 0 0 x:=by
 intro x hx;rcases sumL_mem hx with rfl | rfl | rfl | rfl | rfl | rfl | rfl
 ·exact fit_num h1
 ·exact fit_num h2
 ·exact fit_op rfl
 ·exact fit_op (opN_ok hg).1
 ·exact fit_op rfl
 ·exact fit_print
 exact fit_end (by decide)
theorem sum_nofar {g:UInt8}(hg:g ∈ opsL){s1 s2:Bool}{z1 z2:Int}:NoFar (sumL g s1 s2 z1 z2):=by
 intro x hx;rcases sumL_mem hx with rfl | rfl | rfl | rfl | rfl | rfl | rfl
 ·rfl
 ·rfl
 ·rfl
 ·exact (opN_ok hg).2.1
 ·rfl
 ·rfl
 rfl
theorem sum_lnok {g:UInt8}(hg:g ∈ opsL){s1 s2:Bool}{a1 a2:Nat} (h1:a1≤2000000000) (h2:a2≤2000000000):∀ x ∈ sumL g s1 s2 (a1:Int) (a2:Int),LnOk x:=by
 intro x hx;have one:∀ (op:Nat) (z:Int),op<256→z≤2000000000→LnOk (op,[z]):=fun op z h1 h2=>⟨h1,by simp,fun y hy=>by simp at hy;omega⟩;have non:∀ op:Nat,op<256→LnOk (op,[]):=fun op h=>⟨h,by simp,by simp⟩;rcases sumL_mem hx with rfl | rfl | rfl | rfl | rfl | rfl | rfl
 ·exact one _ _ (by decide) (by omega)
 ·exact one _ _ (by decide) (by omega)
 ·exact non _ (by decide)
 ·exact non _ (opN_ok hg).2.2
 ·exact non _ (by decide)
 ·exact one _ _ (by decide) (by decide)
 exact non _ (by decide)
theorem sum_ops {g:UInt8}(hg:g ∈ opsL){s1 s2:Bool}{z1 z2:Int}:∀ x ∈ sumL g s1 s2 z1 z2,opB x.1=true:=by
 intro x hx;rcases sumL_mem hx with rfl | rfl | rfl | rfl | rfl | rfl | rfl
 ·rfl
 ·rfl
 ·rfl
 ·simp only[opsL,List.mem_cons,List.not_mem_nil,or_false] at hg;rcases hg with rfl | rfl | rfl | rfl | rfl | rfl <;> rfl
 ·rfl
 ·rfl
 rfl
theorem lnsC_size (L:List Ln):(lnsC L).size=(L.flatMap lnB).length:=by simp[lnsC,ByteArray.size]
theorem sumL_len (g:UInt8)(s1 s2:Bool)(z1 z2:Int):(sumL g s1 s2 z1 z2).length≤8∧0<(sumL g s1 s2 z1 z2).length:=by
 cases s1 <;> cases s2 <;> exact⟨by simp[sumL,negL],by simp[sumL,negL]⟩
def sumG (s1 s2:Bool):List (Option (LB)):=[some []]++cond s1 [some [110]] []++[some [110]]++cond s2 [some [110,110]] []++[some [110,110],some [110],some [116],some []]
theorem sum_each {g:UInt8}(hg:g ∈ opsL)(par:NN)(s1 s2:Bool)(z1 z2:Int):eachB par (stpsF 0 (sumL g s1 s2 z1 z2)) (sumG s1 s2) 0 (stpsF 0 (sumL g s1 s2 z1 z2)) (sumG s1 s2)=true:=by
 simp only[opsL,List.mem_cons,List.not_mem_nil,or_false] at hg;rcases hg with rfl | rfl | rfl | rfl | rfl | rfl <;> cases s1 <;> cases s2 <;> rfl
theorem sum_first (s1 s2:Bool):firstB (sumG s1 s2)=true:=by cases s1 <;> cases s2 <;> rfl
theorem end_each (par:NN):eachB par (stpsF 0 [(52,[])]) [some []] 0 (stpsF 0 [(52,[])]) [some []]=true:=rfl
theorem end_good {fns:List Wire.Fn}{f:Nat} (hf:fns[f]?=some endF) (h3:f<3):FnGood (fnMo fns) 0 0 0 f∧Mach.FnOk (fnMo fns) f:=
 fnGood_lines hf (fun x hx=>by rw[List.mem_singleton.1 hx];exact fit_end h3) (fun x hx=>by rw[List.mem_singleton.1 hx];rfl) (by decide) (fun x hx=>by rw[List.mem_singleton.1 hx];rfl) (G:=[some []]) rfl (end_each _) could_end
theorem lawful0 {c:BA}(h:c.size≤20000)(i:Nat):lawful ⟨0,0,c⟩ i=true:=by
 rw[lawful_eq];refine⟨⟨Int.le_refl 0,?_⟩,⟨Int.le_refl 0,by simp⟩,h⟩;split <;> simp
theorem sum_good {g:UInt8}(hg:g ∈ opsL)(hC:CouldIs g){s1 s2:Bool}{a1 a2:Nat} (h1:a1≤2000000000) (h2:a2≤2000000000):GoodM (fnMo (sumFn g s1 s2 a1 a2)) 0 0:=by
 have hc:(lnsC (sumL g s1 s2 (a1:Int) (a2:Int))).size≤168:=by
  rw[lnsC_size];have:=lines_len (sum_lnok hg (s1:=s1) (s2:=s2) h1 h2);have:=(sumL_len g s1 s2 (a1:Int) (a2:Int)).1;omega
 have he:(lnsC [(52,[])]).size≤168:=by decide
 have hall:∀ x ∈ sumFn g s1 s2 a1 a2,x.code.size≤168:=by
  intro x hx;simp only[sumFn,List.mem_cons,List.not_mem_nil,or_false,or_self] at hx;rcases hx with rfl | rfl
  ·exact hc
  exact he
 have hw:within ipF (fnMo (sumFn g s1 s2 a1 a2))=true:=by
  refine fnMo_win (by simp[sumFn]) (by simp[sumFn]) ?_;unfold sumFn lawfulAll lawfulAll lawfulAll lawfulAll;have l0:∀ i,lawful ⟨0,0,lnsC (sumL g s1 s2 (a1:Int) (a2:Int))⟩ i=true:=lawful0 (by omega);have l1:∀ i,lawful endF i=true:=lawful0 (by omega);simp[l0,l1]
 have hz:=fnGood_lines (fns:=sumFn g s1 s2 a1 a2) (f:=0) rfl (sum_fit hg h1 h2) (sum_nofar hg) (sumL_len _ _ _ _ _).2 (sum_ops hg) (sum_first s1 s2) (sum_each hg _ s1 s2 _ _) (hC s1 s2 _ _);have hk:∀ k,k<(fnMo (sumFn g s1 s2 a1 a2)).fns.length→FnGood (fnMo (sumFn g s1 s2 a1 a2)) 0 0 0 k∧Mach.FnOk (fnMo (sumFn g s1 s2 a1 a2)) k:=by
  intro k hk;have hk3:k<3:=hk;rcases (show k=0∨k=1∨k=2 by omega) with rfl | rfl | rfl
  ·exact hz
  ·exact end_good rfl (by decide)
  exact end_good rfl (by decide)
 refine⟨hw,rfl,rfl,rfl,win_mo hw,by simp[fnMo,sumFn],fun k h=>(hk k h).1,⟨by simp[fnMo,sumFn],fun k h=>(hk k h).2,fun k h=>?_⟩,fnMo_len hall (by simp[sumFn])⟩;have hk3:k<3:=h;rcases (show k=0∨k=1∨k=2 by omega) with rfl | rfl | rfl <;> exact Nat.zero_le _
end Tok
open Go.RowKit
open Wire
namespace Tok
open Ev
def badT (s:Bool) (p:Nat):List Tk:=cond s [sg 45 p,⟨wrongK,p+1,0,⟨#[]⟩⟩] [⟨wrongK,p,0,⟨#[]⟩⟩]
def badP (s:Bool) (p:Nat):Nat:=cond s (p+1) p
def errM (P:Program) (fn:Func) (R:List Tk):Option Int:=errF (evT P fn signs R.length (R.flatMap tkC) 2000 100)
theorem bad_first (s:Bool):errM prog f28 (headT++badT s 15)=some (Int.ofNat (badP s 15)):=by
 cases s <;> kernel_rfl
def BadAt (g:UInt8) (b:Nat):Prop:=∀ (s1 s2:Bool) (n1 a:Nat),errM prog f28 (headT++numT s1 15 n1++[sg 41 a,sg g (a+2),sg 40 (a+4)]++badT s2 b)=some (Int.ofNat (badP s2 b))
def BadIs (g:UInt8):Prop:=∀ b,21≤b→b≤31→BadAt g b
theorem badIs {g:UInt8}(h0:BadAt g 21)(h1:BadAt g 22)(h2:BadAt g 23)(h3:BadAt g 24)(h4:BadAt g 25)(h5:BadAt g 26)(h6:BadAt g 27)(h7:BadAt g 28)(h8:BadAt g 29)(h9:BadAt g 30)(h10:BadAt g 31):BadIs g:=by
 intro b q1 q2;have h:b=21∨b=22∨b=23∨b=24∨b=25∨b=26∨b=27∨b=28∨b=29∨b=30∨b=31:=by omega
 rcases h with rfl | rfl | rfl | rfl | rfl | rfl | rfl | rfl | rfl | rfl | rfl
 ·exact h0
 ·exact h1
 ·exact h2
 ·exact h3
 ·exact h4
 ·exact h5
 ·exact h6
 ·exact h7
 ·exact h8
 ·exact h9
 exact h10
end Tok
open Go.RowKit
open Wire Flow
theorem build53 (b:Nat)(w:WL):(Instr.build 77 #[(0,ptr b)]).run prog w=.ok (.agg #[ptr b]) w:=by
 kernel_rfl
section
variable {m:Mo}{W:WL}{recs:LY}{draws:List Int}
theorem rst_begin {X Y:Nat}{g:Pl}{w:WL}{tag:NN} (hK:Mach.ModOk m) (hs:Scr recs draws) (h:MM (envP m) X g (ms0 m recs draws) w tag) (he:g.en=0) (hY:GM Y X w) (tY:tag Y<10):Rst (envP m) X Y (Mach.begin_ m recs draws) w tag:=by
 obtain⟨h1,h2,h3,h4⟩:=hs;refine⟨g,[],Mach.enter m 0 [],h,hY,tY,Mach.good_begin (E:=envP m) hK h1 (fun s hs=>?_) h2 (fun n hn=>?_),⟨by show 0≤9;omega,fun _=>rfl⟩,fun _=>⟨fun g hg c hc=>?_,rfl,by rw[he];rfl⟩⟩
 ·by_cases c:s.size≤100
  ·exact c
  exact absurd ⟨s,hs,show 100<s.size by omega⟩ h3
 ·by_cases c:-1000000000≤n∧n≤1000000000
  ·exact c
  exact absurd ⟨n,hn,show n < -1000000000∨1000000000<n by omega⟩ h4
 have hg:g ∈ [Mach.enter m 0 []]:=hg;rw[List.mem_singleton] at hg;subst hg;exact pr_enter m 0 [] c hc
def OpnR (m:Mo) (recs:LY) (draws:List Int) (W:WL) (Y:Nat) (w:WL):Prop:=∃ X tag,Rst (envP m) X Y (Mach.begin_ m recs draws) w tag∧(∀ k,k<W.heap.size→tag k=6)∧W.heap.size≤Y
def OpnP (m:Mo) (recs:LY) (draws:List Int) (W:WL) (e:Ending) (w:WL):Prop:=
 Fr [] W w∧((¬ Scr recs draws∧e=.returned (.tuple #[.pointer none,.int .i64 13]))∨(Scr recs draws∧∃ Y,e=.returned (.tuple #[ptr Y,.int .i64 0])∧OpnR m recs draws W Y w))
end
namespace Tok
open Ev (TabS Kept plainV signs)
theorem GoodM.fnCells {m:Mo}{gn an:Nat} (h:GoodM m gn an) {w:WL}{b:Nat} (hF:∀ i u,(fnsV m)[i]?=some u→w.cell? (Ad b i)=some u) {k:Nat}{x:Wire.Fn} (hk:m.fns[k]?=some x):w.cell? (Ad b (0+k*3))=some (iA (Mach.parOf m k:Nat))∧w.cell? (Ad b (0+k*3+1))=some (iA x.locs)∧w.cell? (Ad b (0+k*3+2))=some (.string x.code):=by
 have hp:x.params=(Mach.parOf m k:Nat):=by
  have:=(h.mo.f.p x (List.mem_of_getElem? hk)).1;have e:Mach.parOf m k=x.params.toNat:=by
   unfold Mach.parOf Mach.fnOf;rw[List.getD_eq_getElem?_getD,hk];rfl
  rw[e];omega
 have key:∀ j,j<3→(fnsV m)[k*3+j]?=(fnC x)[j]?:=fun j hj=>flat_get (f:=fnC) (z:=3) (fun _=>rfl) hk hj;rw[Nat.zero_add];exact⟨by rw[← hp];exact hF _ _ ((key 0 (by omega)).trans rfl),hF _ _ ((key 1 (by omega)).trans rfl),hF _ _ ((key 2 (by omega)).trans rfl)⟩
theorem GoodM.reads {m:Mo}{gn an:Nat} (h:GoodM m gn an) {w:WL}{mv:Value} (hM:ModIn w mv m) {k:Nat} (hk:k<m.fns.length) :
  Calls prog 60 #[mv,iA (k:Nat)] w fun e w'=>∃ g cap l,e=.returned (.tuple #[.slice (some (Ad g 0)) (l:List Stp).length cap,iA 0,iA 0])∧Fr [] w w'∧w.heap.size≤g∧∀ tag:NN,tag g=9→CodeM m w' tag k (.slice (some (Ad g 0)) l.length cap) l:=by
 obtain⟨l,⟨q1,q2,q3,-⟩,-⟩:=h.fns k hk;refine (read_good hM h.mo hk q1 q2 q3).mono ?_;rintro e w' ⟨g,cap,T,rfl,F',z1,z2,z3,z4,z5⟩;refine⟨g,cap,l,rfl,F',z1,fun tag ht=>codeM_of q1 q2 z2 z3 z4 z5 ?_ tag ht⟩;obtain⟨x,hx⟩:∃ x,m.fns[k]?=some x:=⟨_,Lge hk⟩;have e1:Mach.fnOf m k=x:=by unfold Mach.fnOf;rw[List.getD_eq_getElem?_getD,hx];rfl
 unfold Mach.codeOf;rw[e1,bl_length];exact (h.mo.f.p x (List.mem_of_getElem? hx)).2.2.2.2
theorem strs_ro {W V:WL}{a0:OA}{n c0:Nat}{L:LY} (h:StrsFar W.heap.size V (.slice a0 n c0) L):RoL V (fun k=>if k<W.heap.size then 6 else 9) (.slice a0 n c0) (L.map .string)∧StrsIn V (.slice a0 n c0) L:=by
 have ho:=h.own;obtain⟨x0,x1,x2,x3,z1,z2,z3,z4,-⟩:=h;cases z1;refine⟨⟨a0,c0,by rw[List.length_map],by rw[List.length_map];exact z2,?_,fun h0=>?_⟩,⟨a0,c0,x2,x3,rfl,z2,fun h=>⟨(z3 h).1,(z3 h).2.1⟩,z4⟩⟩
 ·rcases ho.2 with ⟨e,_⟩ | ⟨g,cap,cur,e,_,_,_,hm,_⟩
  ·simp only[Value.slice.injEq] at e;omega
  simp only[Value.slice.injEq] at e;unfold maxLen at hm;omega
 rw[List.length_map] at h0;obtain⟨q1,q2,q3⟩:=z3 h0;refine⟨x2,x3,q1,q2,if_neg (by omega),fun i v hv=>?_⟩;rw[List.getElem?_map] at hv;cases hq:L[i]? with
 | none=>rw[hq] at hv;cases hv
 | some s=>rw[hq] at hv;cases hv;exact z4 i s hq
section
variable {m:Mo}{W:WL}{recs:LY}{draws:List Int}
theorem open_good (HB:BothOk){gn an:Nat}(hC:GoodM m gn an){b:BA}(hu:bl b=Wire.written m)(hb:Base W)(h1w:1<W.heap.size)(ht:TabS signs W){ro do_:OA}{rc dc nr nd:Nat} (hr:ArgL W (.slice ro nr rc) (recs.map .string)) (hd:ArgL W (.slice do_ nd dc) (draws.map (.int .i64))) :
  Calls prog 20 #[.string b,.slice ro nr rc,.slice do_ nd dc] W (OpnP m recs draws W):=by
 have HU:Hid _:=checked_good HB hC hu ht h1w;have HS:Hid (∀ V,Fr [] W V→Calls prog 32 #[.slice ro nr rc,.slice do_ nd dc] V (IsB (Scr recs draws) V)):=fun V F=>isScript_any (hr.fr F) (hd.fr F);have HN:Hid (∀ V (a0 a1:OA) (c0 c1 g c:Nat),Fr [] W V→W.heap.size≤g→g<V.heap.size→m.fns.length≤c→(∀ i u,(fnsV m)[i]?=some u→V.cell? (Ad g i)=some u)→StrsFar W.heap.size V (.slice a0 m.texts.length c0) m.texts→Scr recs draws→Calls prog 33 #[.agg #[.slice a0 m.texts.length c0,.slice a1 0 c1,iA (gn:Nat),iA (an:Nat),.slice (some (Ad g 0)) m.fns.length c],.slice ro nr rc,.slice do_ nd dc] V fun e w=>∃ X g tag,e=.returned (ptr X)∧MM (envP m) X g (ms0 m recs draws) w tag∧g.en=0∧Kp (fun k=>if k<W.heap.size then 6 else 9) tag V w):=by
  intro V a0 a1 c0 c1 g c F h1 h2 h3 h4 hst hs;have hp0:m.pats.length=0:=by rw[hC.pt];rfl
  have key:=fun (U:WL) (G:Fr [] V U) (i:Nat) (u:Value) (hi:(fnsV m)[i]?=some u)=>(G.cell (p:=Ad g i) h2 (by simp)).trans (h4 i u hi);obtain⟨hro,hsi⟩:=strs_ro hst;have hgs:=hC.mo.g;have has:=hC.mo.a;have hgl:=hC.gl;have har:=hC.ar;have hM:∀ U,Fr [] V U→ModIn U (.agg #[.slice a0 m.texts.length c0,.slice a1 m.pats.length c1,iA (gn:Nat),iA (an:Nat),.slice (some (Ad g 0)) m.fns.length c]) m:=fun U G=>by
   refine⟨_,_,_,by rw[hgl,har],hsi.fr G,?_,⟨_,c,g,0,rfl,h3,fun _=>⟨rfl,Nll h2 G.size⟩,fun i x hx=>?_⟩⟩
   ·rw[hC.pt];by_cases hz:True
    ·exact⟨a1,c1,0,0,rfl,Nat.zero_le _,by simp,by simp⟩
    exact absurd trivial hz
   have kk:=fun j (hj:j<3)=>flat_get (f:=fnC) (z:=3) (fun _=>rfl) hx hj;rw[Nat.zero_add];exact⟨key U G _ _ ((kk 0 (by omega)).trans rfl),key U G _ _ ((kk 1 (by omega)).trans rfl),key U G _ _ ((kk 2 (by omega)).trans rfl)⟩
  have:=new_any (m:=m) (W:=V) (t0:=fun k=>if k<W.heap.size then 6 else 9) (recs:=recs) (draws:=draws) (hb.fr F) (fun k _=>by show (if _ then _ else _)<10;split <;> decide) (a0:=a0) (a1:=a1) (a4:=some (Ad g 0)) (n0:=m.texts.length) (c0:=c0) (c1:=c1) (c4:=c) hC.gl hC.ar (by omega) (by omega) hp0 hC.mo.f.n hC.three
   (fun U k x G hk=>⟨g,0,rfl,hC.fnCells (key U G) hk⟩)
   (fun U k G hk=>hC.reads (hM U G) hk)
   hro (hr.fr F) (hd.fr F) hs
  rw[hp0] at this;exact this
 have HK:Hid (Mach.ModOk m):=hC.ok;have h3:0<m.fns.length:=by have:=hC.three;omega
 have hbd:=build53;clear hb hr hd ht hC hu h1w;go_enter func20,ntmps20;go_wp2_with fail;refine Calls.mono HU.out ?_;rintro e V ⟨FV,a0,a1,c0,c1,g,c,rfl,hg1,hg2,hc,hcell,hst⟩;obtain⟨W3,hW3⟩:=eXi (V.alloc (.cells #[.slice a0 m.texts.length c0,.slice a1 0 c1,iA (gn:Nat),iA (an:Nat),.slice (some (Ad g 0)) m.fns.length c] 70));have F3:=frA hW3
 have k3:W3.heap[V.heap.size]?=some (.cells #[.slice a0 m.texts.length c0,.slice a1 0 c1,iA (gn:Nat),iA (an:Nat),.slice (some (Ad g 0)) m.fns.length c] 70):=by rw[← hW3];exact wan V _
 obtain⟨⟨q0,q1,q2,q3,q4⟩,-⟩:=cells5F k3;have H3:Hid _:=AI (FV.trans F3) (fun (hs:Scr recs draws)=>HN.out W3 a0 a1 c0 c1 g c (FV.trans F3) hg1 (Nll hg2 F3.size) hc (fun (i:Nat) (u:Value) (hi:(fnsV m)[i]?=some u)=>(F3.cell (p:=Ad g i) hg2 (by simp)).trans (hcell i u hi)) (hst.fr F3 (by simp)) hs);clear FV F3 k3 HU hc hg1 hg2 hcell h3 hst HN;generalize m.fns.length=nf at *;generalize m.texts.length=nt at *;go_wp2_with fail;refine Calls.mono (HS.out W3 H3.out.1) ?_;rintro e V' ⟨bb,rfl,hbb,hV'⟩;replace hV':=hV'.symm;subst hV';cases bb with
 | false=>
  go_wp2_with fail;go_ret2;exact⟨H3.out.1,.inl ⟨(fun h=>(by have:=hbb.2 h;cases this)),rfl⟩⟩
 | true=>
  have hs:=hbb.1 rfl;have H4:Hid _:=hs;clear hbb hs;go_wp2_with fail;refine Calls.mono (H3.out.2 H4.out) ?_;rintro e V2 ⟨X,g',tag,rfl,hM,hg,K⟩;have HM:Hid _:=AI hM (AI hg K);clear hM hg K q0 q1 q2 q3 q4 HS;go_wp2_with fail;go_ret2;obtain⟨hM,hg,K⟩:=HM.out;have F5:Fr [] V2 (V2.alloc (.cells #[ptr X] 77)):=(Fr.refl [] V2).alloc _;obtain⟨t,M5,K5,h6⟩:=MM.box hM F5;have F4:Fr [] W3 V2:=⟨K.os,K.tape,K.output,K.size,fun k hk _=>K.blk k hk (by show (if _ then _ else _)<10;split <;> decide)⟩
  refine⟨(H3.out.1.trans F4).trans F5,.inr ⟨H4.out,V2.heap.size,rfl,X,t,rst_begin HK.out H4.out M5 hg ?_ (by rw[h6 _ (Nat.le_refl _)];decide),fun k hk=>?_,Nat.le_trans H3.out.1.size K.size⟩⟩
  ·show World.cell? _ _=_;unfold World.cell?;rw[wan];rfl
  have l3:k<W3.heap.size:=Nll hk H3.out.1.size;rw[K5.ret k (Nll l3 K.size),K.ret k l3];exact if_pos hk
end
end Tok
open Go.RowKit
open Wire Flow
namespace Tok
open Ev (signs)
theorem shows_any (st:Nat)(out:BA)(used:Nat)(W:WL) :
  Calls prog 11 #[stV st 0 out used,.string out,iA (st:Nat)] W fun e w=>e=.returned (.bool true)∧Fr [] W w:=by
 unfold stV;have F1:Fr [] W (W.alloc (.cells #[iA (st:Nat),iA 0,.string out,iA (used:Nat)] 26)):=(Fr.refl [] W).alloc _;have HF:Hid _:=F1;clear F1;go_enter func11,ntmps11;go_wp2_with fail;go_ret;exact⟨rfl,HF.out⟩
structure SrcG (S b:BA) (m:Mo) (gn an:Nat):Prop where
 good:GoodM m gn an
 hu:bl b=Wire.written m
 co:∀ w:WL,Ev.TabS Ev.signs w→Calls prog 19 #[.string S] w fun e w'=>e=.returned (.tuple #[.string b,.int .i64 ((0:Nat):Int),.int .i64 ((0:Nat):Int)])∧Fr [] w w'
theorem GoodM.goE {m:Mo}{gn an:Nat} (h:GoodM m gn an):GoE (envP m):=by
 have hg:=h.mo.g;have ha:=h.mo.a;have hw:=h.win;simp only[within,Bool.and_eq_true,decide_eq_true_eq] at hw;obtain⟨⟨⟨⟨⟨⟨⟨⟨⟨⟨h1,h2⟩,h3⟩,h4⟩,h5⟩,h6⟩,h7⟩,h8⟩,h9⟩,-⟩,h11⟩:=hw;refine goE_of (fun f L hf hL=>by
  obtain⟨l,⟨q1,-,-,q4⟩,-⟩:=h.fns f hf;obtain rfl:=chain_unique q1 hL;exact q4) (fun s hs=>of_decide_eq_true (List.all_eq_true.1 h9 s hs)) (by omega) (by omega) (by rw[h.pt];decide) (by omega) (fun f hf=>?_) h.ok
 have hx:=Lge hf;have h12:=lawfulAll_at m.fns 0 f hf h11;rw[Nat.zero_add,lawful_eq] at h12;unfold Mach.locsOf Mach.fnOf;rw[List.getD_eq_getElem?_getD,hx];simp only[Option.getD_some];omega
theorem results_row1 {P:Program}{fn:Func}{p u:Tmp}{ty:TypeId} (h:fn.results=#[.cell p ty,.tmp u]) (tmps:Array Value) (w:WL) (g:Nat) (t:TypeId) (cs:Array Value) (fr:Nat × Nat) (d:TypeDesc)
  (hp:tmps.getD p undef=.pointer (some (Ad g 0))) (hg:w.heap[g]?=some (.cells cs t fr))
  (hu:P.underlying ty=some d) (hd:(match d with | .struct _ | .array _ _=>true | _=>false)=true) (hi:(P.info? ty).map (·.size)=some cs.size) :
  (results fn tmps).run P w=.ok (.tuple #[.agg cs,tmps.getD u undef]) w:=by
 have hp':tmps[p]?.getD undef=.pointer (some (Ad g 0)):=by simpa using hp
 simp[results,h,hp',asAddr,run_loadVar_row w g t ty cs fr d hg hu hd hi]
theorem _root_.Go.Proofs.YtmolfmgchbjnbaaGreatDoor.Ev.TabS.fr {ss:LY}{w w':WL} (h:Ev.TabS ss w) (F:Fr [] w w'):Ev.TabS ss w':=by
 obtain⟨B,o,c,h1,h2,h3,h4,h5,h6⟩:=h;exact⟨B,o,c,(F.cell (p:=Ad 1 0) (by show 1<_;omega) (by simp)).trans h1,h2,h3,h4,Nll h5 F.size,fun i s hs=>(F.cell (p:=Ad B (i+o)) h5 (by simp)).trans (h6 i s hs)⟩
section
variable {S b:BA}{m:Mo}{gn an:Nat}{W:WL}{recs:LY}
theorem nilD (W:WL):ArgL W (.slice none 0 0) (([]:List Int).map (.int .i64)):=⟨none,0,rfl,Nat.le_refl _,by decide,fun h=>absurd h (by simp)⟩
def PldP (m:Mo) (recs:LY) (W:WL) (e:Ending) (w:WL):Prop:=Fr [] W w∧∃ D,Mach.Plays (envP m) 100000 (Mach.begin_ m recs []) D∧e=.returned (.tuple #[stV D.st D.code D.w.out D.used,.bool true])
theorem played_good (HB:BothOk)(hS:SrcG S b m gn an)(h1w:1<W.heap.size)(hb:Base W)(ht:Ev.TabS Ev.signs W){v:Value}(hr:ArgL W v (recs.map .string))(hs:Scr recs []):Calls prog 9 #[.string S,v] W (PldP m recs W):=by
 obtain⟨W1,hW1⟩:=eXi (W.alloc (.cells #[iA 0,iA 0,.string ⟨#[]⟩,iA 0] 26));obtain⟨W2,hW2⟩:=eXi (W1.alloc (.cells #[iA 0,iA 0,.string ⟨#[]⟩,iA 0] 26));have F1:=frA hW1
 have F2:=frA hW2
 have k1:W1.heap[W.heap.size]?=some (.cells #[iA 0,iA 0,.string ⟨#[]⟩,iA 0] 26):=by rw[← hW1];exact wan W _
 have k2:W2.heap[W1.heap.size]?=some (.cells #[iA 0,iA 0,.string ⟨#[]⟩,iA 0] 26):=by rw[← hW2];exact wan W1 _
 have l1:=(Age.1 k1).1;have l2:=(Age.1 k2).1;have k1':=(F2.block _ l1 (by simp)).trans k1;obtain⟨b4,hb4⟩:=eXi (W.heap.size);obtain⟨b6,hb6⟩:=eXi (W1.heap.size);have HE:Hid _:=hS.good.goE;have HC:Hid _:=hS.co W2 (ht.fr (F1.trans F2));have HO:Hid (∀ V,Fr [] W2 V→Calls prog 20 #[.string b,v,.slice none 0 0] V (OpnP m recs [] V)):=fun V F=>by
  obtain⟨o,c,rfl,h⟩:=hr;exact open_good HB hS.good hS.hu (hb.fr ((F1.trans F2).trans F)) (Nll h1w ((F1.trans F2).trans F).size) (ht.fr ((F1.trans F2).trans F)) (ArgL.fr ⟨o,c,rfl,h⟩ ((F1.trans F2).trans F)) (nilD V)
 have HS:Hid _:=hs;rw[hb4] at k1' l1;rw[hb6] at k2 l2 l1;have HK:Hid _:=AI (F1.trans F2) (AI k1' (AI k2 (AI l1 l2)));clear hS hb ht hr hs F1 F2 k1 k2 k1' l1 l2 h1w HB;go_enter func9,ntmps9;go_wp2_with fail;refine Calls.mono HC.out ?_;rintro e V ⟨rfl,F⟩;have HF:Hid _:=F;clear F HC;go_wp2_with fail;refine Calls.mono (HO.out V HF.out) ?_;rintro e V2 ⟨F2,⟨h,-⟩ | ⟨-,Y,rfl,X,tag,hR,ht6,-⟩⟩
 ·exact absurd HS.out h
 have HR:Hid _:=AI F2 (AI hR ht6);clear F2 hR ht6 HO;go_wp2_with fail;refine Calls.mono (Rst.go (N:=100000) HE.out HR.out.2.1 (by omega) (by show 0+100000≤_;decide)) ?_;rintro e V3 ⟨rfl,D,t,hP,hR3,K3⟩;have F3:Fr [] V V3:=by
  obtain⟨F2,-,h6⟩:=HR.out;exact⟨K3.os.trans F2.os,K3.tape.trans F2.tape,K3.output.trans F2.output,Nat.le_trans F2.size K3.size,fun k hk _=>(K3.blk k (Nll hk F2.size) (by rw[h6 k hk];decide)).trans (F2.block k hk (by simp))⟩
 have H3:Hid _:=AI hP (AI hR3 F3);clear hP hR3 K3 F3 HR;go_wp2_with fail;refine Calls.mono (Rst.tell H3.out.2.1) ?_;rintro e V4 ⟨rfl,F4⟩;obtain⟨FW,k4,k6,l4,l6⟩:=HK.out;have FA:Fr [] W2 V4:=(HF.out.trans H3.out.2.2).trans F4;have hlt:b4<W2.heap.size:=Nat.lt_trans l4 l6;replace k4:=(FA.block b4 hlt (by simp)).trans k4;replace k6:=(FA.block b6 l6 (by simp)).trans k6;have HBB:Hid _:=AI (FW.trans FA) (AI k4 (AI k6 l4));obtain⟨⟨c0,c1,c2,c3⟩,cz⟩:=cells4F k6;obtain⟨⟨d0,d1,d2,d3⟩,dz⟩:=cells4F k4;have f0:=cz 0;have f1:=cz 1;have f2:=cz 2;have f3:=cz 3;have g0:=dz 0;have g1:=dz 1;have g2:=dz 2;have g3:=dz 3;have HP:Hid _:=H3.out.1;have hne:b4≠b6:=by omega
 have hne':b6≠b4:=by omega
 clear FW k4 k6 l4 l6 FA F4 hlt cz dz H3 HK HE HS HF;unfold stV at *;go_wp2_with fail;obtain⟨FW,k4,k6,l4⟩:=HBB.out;have hB4:W.heap.size≤b4:=Nat.le_of_eq hb4;have hB6:W.heap.size≤b6:=Nat.le_trans hB4 (Nat.le_of_lt l4);have kk:∀ x0 x1 x2 x3:Value,((((V4.setCell ⟨b6,0,none⟩ x0).setCell ⟨b6,1,none⟩ x1).setCell ⟨b6,2,none⟩ x2).setCell ⟨b6,3,none⟩ x3).heap[b4]?=some (.cells #[iA 0,iA 0,.string ⟨#[]⟩,iA 0] 26):=fun x0 x1 x2 x3=>by
  rw[Below.heap_setCell _ _ _ _ hne,Below.heap_setCell _ _ _ _ hne,Below.heap_setCell _ _ _ _ hne,Below.heap_setCell _ _ _ _ hne];exact k4
 refine bodyPost_ret (results_row1 rfl _ _ b4 26 #[iA (D.st:Nat),iA D.code,.string D.w.out,iA (D.used:Nat)] (0,0) _ rfl (set4_block (kk _ _ _ _) _ _ _ _) underlying26 rfl (by kernel_rfl)) rfl ?_;refine⟨?_,D,HP.out,rfl⟩;exact (((((((FW.setCell (.inr hB6) _).setCell (.inr hB6) _).setCell (.inr hB6) _).setCell (.inr hB6) _).setCell (.inr hB4) _).setCell (.inr hB4) _).setCell (.inr hB4) _).setCell (.inr hB4) _
end
end Tok
open Go.RowKit
open Wire Flow
namespace Tok
open Ev (signs TabS entered)
theorem dec_small {u:Nat}(h:u<10):Lib.decDigits u=[UInt8.ofNat (48+u)]:=Lib.decDigits_one h
theorem dec_big {u:Nat}(h:¬ u<10):Lib.decDigits u=Lib.decDigits (u / 10)++[UInt8.ofNat (48+u % 10)]:=by rw[Lib.decDigits,dif_neg h]
theorem dig_nat {d:Nat}(h:d<10):(UInt8.ofNat (48+d)).toNat=48+d:=by simp[UInt8.toNat_ofNat];omega
theorem dig_is {d:Nat}(h:d<10):isDg ((UInt8.ofNat (48+d)).toNat:Int)=true:=by
 rw[dig_nat h];simp[isDg];omega
theorem numL_snoc (l:LB)(c:UInt8):numL (l++[c])=min (numL l*10+(c.toNat-48)) 1000000001:=by simp[numL,List.foldl_append]
theorem dec_facts (u:Nat):(Lib.decDigits u).all (fun c=>isDg (c.toNat:Int))=true∧numL (Lib.decDigits u)=min u 1000000001∧Lib.decDigits u≠[]:=by
 induction u using Nat.strongRecOn with
 | _ u ih=>
  by_cases h:u<10
  ·rw[dec_small h];refine⟨by rw[List.all_cons,List.all_nil,Bool.and_true];exact dig_is h,?_,by simp⟩;have:=numL_snoc [] (UInt8.ofNat (48+u));rw[List.nil_append] at this;rw[this,dig_nat h];simp[numL]
  rw[dec_big h];obtain⟨h1,h2,-⟩:=ih (u / 10) (by omega);refine⟨by rw[List.all_append,h1,Bool.true_and,List.all_cons,List.all_nil,Bool.and_true];exact dig_is (by omega),?_,by simp⟩;rw[numL_snoc,h2,dig_nat (by omega)];omega
theorem dec_len:∀ (k u:Nat),u<10 ^ (k+1)→(Lib.decDigits u).length≤k+1
 | 0,u,h=>by rw[dec_small (by simpa using h)];simp
 | k+1,u,h=>by
  by_cases hu:u<10
  ·rw[dec_small hu];simp
  ·rw[dec_big hu,Lla]
   have:=dec_len k (u / 10) (by rw[Nat.pow_succ] at h;omega)
   simp
   omega
theorem itoa_num (a:Int):Lib.itoa a=numB (decide (a<0)) (Lib.decDigits a.natAbs):=by
 unfold Lib.itoa numB;by_cases h:a<0
 ·rw[if_pos h,decide_eq_true h];rfl
 rw[if_neg h,decide_eq_false h,show a.toNat=a.natAbs by omega];rfl
theorem dec_cons (u:Nat):∃ c t,Lib.decDigits u=c :: t:=by
 cases h:Lib.decDigits u with
 | nil=>exact absurd h (dec_facts u).2.2
 | cons c t=>exact⟨c,t,rfl⟩
theorem itoa_len {a:Int}(k:Nat)(h:a.natAbs<10 ^ (k+1)):(Lib.itoa a).length≤k+2:=by
 rw[itoa_num];have:=dec_len k a.natAbs h;unfold numB;cases decide (a<0) <;> simp <;> omega
def srcOf (g:UInt8) (a b:Int):BA:=⟨(sumB g (Lib.itoa a) (Lib.itoa b)).toArray⟩
theorem srcOf_size {g:UInt8}{a b:Int} (ha:a.natAbs≤9223372036854775808) (hb:b.natAbs≤9223372036854775808):(srcOf g a b).size≤1000:=by
 have h1:=itoa_len (a:=a) 18 (by omega);have h2:=itoa_len (a:=b) 18 (by omega);have e:(srcOf g a b).size=(sumB g (Lib.itoa a) (Lib.itoa b)).length:=by simp[srcOf,ByteArray.size]
 rw[e];unfold sumB headB;simp only[Lla,List.length_cons,List.length_nil];omega
theorem ops_opK {g:UInt8}(hg:g ∈ opsL):g ∈ opK.map (·.1):=by simpa [opsL,opK] using hg
def sumMo (g:UInt8) (a b:Int):Mo:=fnMo (sumFn g (decide (a<0)) (decide (b<0)) (2*a.natAbs) (2*b.natAbs))
theorem sumMo_good {g:UInt8}(hg:g ∈ opsL)(hC:CouldIs g){a b:Int}(ha:a.natAbs≤1000000000)(hb:b.natAbs≤1000000000):GoodM (sumMo g a b) 0 0:=sum_good hg hC (by omega) (by omega)
theorem pack_good {m:Mo}{gn an:Nat} (h:GoodM m gn an):packS m=mkB (Wire.written m)∧packE m=0:=by
 have:within ipF m=true∧(Wire.written m).length≤40000:=⟨h.win,h.len⟩;unfold packS packE;rw[if_pos this,if_pos this];exact⟨rfl,rfl⟩
theorem sum_src {g:UInt8}(hg:g ∈ opsL)(hC:CouldIs g)(hS:SumIs g)(h163:∃ fn,entered prog 163=some fn){a b:Int}(ha:a.natAbs≤1000000000)(hb:b.natAbs≤1000000000):SrcG (srcOf g a b) (mkB (Wire.written (sumMo g a b))) (sumMo g a b) 0 0:=by
 have hG:=sumMo_good hg hC ha hb;refine⟨hG,bl_mkB _,fun w ht=>?_⟩;obtain⟨c1,w1,e1⟩:=dec_cons a.natAbs;obtain⟨c2,w2,e2⟩:=dec_cons b.natAbs;obtain⟨f1,f2,-⟩:=dec_facts a.natAbs;obtain⟨f3,f4,-⟩:=dec_facts b.natAbs;have hR:=sum_rds (n1:=decide (a<0)) (n2:=decide (b<0)) (ops_opK hg) (by rw[← e1];exact f1) (by rw[← e2];exact f3) (by rw[← e1,f2];omega) (by rw[← e2,f4];omega);rw[← e1,← e2,← itoa_num,← itoa_num,f2,f4,Nat.min_eq_left (by omega),Nat.min_eq_left (by omega)] at hR;obtain⟨p,q,r,s,hR⟩:=hR;have hm:=hS (decide (a<0)) (decide (b<0)) a.natAbs b.natAbs p q r s;rw[sumFs_eq ha hb] at hm;have hz:∀ x ∈ (sumMo g a b).fns,x.code.size≤20000:=fun x hx=>(hG.mo.f.p x hx).2.2.2.2;have:=compile_any (fns:=sumFn g (decide (a<0)) (decide (b<0)) (2*a.natAbs) (2*b.natAbs)) h163 ht (srcOf_size (g:=g) (a:=a) (b:=b) (by omega) (by omega)) (R:=sumT g (decide (a<0)) (decide (b<0)) a.natAbs b.natAbs p q r s) hR (by simp[sumT,headT]) (fnMo_sz (by simp[sumFn]) hz) hm;obtain⟨k1,k2⟩:=pack_good hG;unfold sumMo at k1 k2 ⊢;rw[k1,k2] at this;exact this
end Tok
open Go.RowKit
open Wire Flow
namespace Tok
open Ev (signs TabS entered)
theorem bad_src1 {w:WL}(ht:TabS signs w){g:UInt8}{a b:Int} (ha:1000000000<a.natAbs) (ha2:a.natAbs≤9223372036854775808) (hb:b.natAbs≤9223372036854775808) :
  Calls prog 19 #[.string (srcOf g a b)] w fun e w'=>e=.returned (.tuple #[.string ⟨#[]⟩,iA (badP (decide (a<0)) 15:Nat),iA 14])∧Fr [] w w':=by
 obtain⟨c1,w1,e1⟩:=dec_cons a.natAbs;obtain⟨f1,f2,-⟩:=dec_facts a.natAbs;have hR:Rds signs (srcOf g a b) 0 [] (headT++badT (decide (a<0)) 15):=by
  have h0:=Rest.start (sumB g (Lib.itoa a) (Lib.itoa b));have e0:srcOf g a b=⟨(sumB g (Lib.itoa a) (Lib.itoa b)).toArray⟩:=rfl;rw[← e0] at h0;generalize srcOf g a b=S at h0 ⊢;unfold sumB at h0;rw[itoa_num a,e1] at h0;obtain⟨d1,t1,q1⟩:=numB_cons (decide (a<0)) c1 w1 ([41,32,g,32,40]++(Lib.itoa b++[41,59,32,125]));have h0':=h0;rw[q1] at h0';refine head_rds h0' fun h=>?_;rw[← q1] at h;have h:Rest S 15 (numB (decide (a<0)) (c1 :: w1)++(41 :: ([32,g,32,40]++(Lib.itoa b++[41,59,32,125])))):=⟨h.le,h.is⟩;exact bad_rds h (by rw[← e1];exact f1) (by rw[← e1,f2];omega)
 exact compile_bad ht (srcOf_size ha2 hb) hR (by simp[headT]) (bad_first _)
theorem bad_src2 {w:WL}(ht:TabS signs w){g:UInt8}(hg:g ∈ opsL)(hB:BadIs g){a b:Int}(ha:a.natAbs≤1000000000)(hb:1000000000<b.natAbs)(hb2:b.natAbs≤9223372036854775808) :
  Calls prog 19 #[.string (srcOf g a b)] w fun e w'=>e=.returned (.tuple #[.string ⟨#[]⟩,iA (badP (decide (b<0)) (20+(Lib.itoa a).length):Nat),iA 14])∧Fr [] w w':=by
 obtain⟨c1,w1,e1⟩:=dec_cons a.natAbs;obtain⟨c2,w2,e2⟩:=dec_cons b.natAbs;obtain⟨f1,f2,-⟩:=dec_facts a.natAbs;obtain⟨f3,f4,-⟩:=dec_facts b.natAbs;have hl:=itoa_len (a:=a) 9 (by omega);have hl1:1≤(Lib.itoa a).length:=by rw[itoa_num,e1];unfold numB;cases decide (a<0) <;> simp
 have hR:Rds signs (srcOf g a b) 0 [] (headT++numT (decide (a<0)) 15 a.natAbs++[sg 41 (15+(Lib.itoa a).length),sg g (15+(Lib.itoa a).length+2),sg 40 (15+(Lib.itoa a).length+4)]++badT (decide (b<0)) (20+(Lib.itoa a).length)):=by
  have h0:=Rest.start (sumB g (Lib.itoa a) (Lib.itoa b));have e0:srcOf g a b=⟨(sumB g (Lib.itoa a) (Lib.itoa b)).toArray⟩:=rfl;rw[← e0] at h0;generalize srcOf g a b=S at h0 ⊢;unfold sumB at h0;have en:numL (c1 :: w1)=a.natAbs:=by rw[← e1,f2];omega
  rw[itoa_num a,itoa_num b,e1,e2] at h0;rw[itoa_num a,e1,← en];obtain⟨d1,t1,q1⟩:=numB_cons (decide (a<0)) c1 w1 ([41,32,g,32,40]++(numB (decide (b<0)) (c2 :: w2)++[41,59,32,125]));obtain⟨d2,t2,q2⟩:=numB_cons (decide (b<0)) c2 w2 [41,59,32,125];have h0':=h0;rw[q1] at h0';refine head_rds h0' fun h=>?_;rw[← q1] at h;have h:Rest S 15 (numB (decide (a<0)) (c1 :: w1)++(41 :: ([32,g,32,40]++(numB (decide (b<0)) (c2 :: w2)++[41,59,32,125])))):=⟨h.le,h.is⟩;refine num_rds (neg:=decide (a<0)) (c:=c1) (w:=w1) h (by rw[← e1];exact f1) (by omega) fun h=>?_;have h':Rest _ _ ([41,32,g,32,40]++(numB (decide (b<0)) (c2 :: w2)++[41,59,32,125])):=h;rw[q2] at h';refine mid_rds (ops_opK hg) h' fun h=>?_;rw[← q2] at h;have h:Rest S (15+(numB (decide (a<0)) (c1 :: w1)).length+5) (numB (decide (b<0)) (c2 :: w2)++(41 :: [59,32,125])):=⟨h.le,h.is⟩;have:=bad_rds (L:=headT++numT (decide (a<0)) 15 (numL (c1 :: w1))++[sg 41 (15+(numB (decide (a<0)) (c1 :: w1)).length),sg g (15+(numB (decide (a<0)) (c1 :: w1)).length+2),sg 40 (15+(numB (decide (a<0)) (c1 :: w1)).length+4)]) h (by rw[← e2];exact f3) (by rw[← e2,f4];omega);rw[show 20+(numB (decide (a<0)) (c1 :: w1)).length=15+(numB (decide (a<0)) (c1 :: w1)).length+5 by omega];exact this
 exact compile_bad ht (srcOf_size (by omega) hb2) hR (by simp[headT]) (hB _ (by omega) (by omega) _ _ _ _)
end Tok
open Go.RowKit
open Wire Flow
namespace Tok
open Ev (signs wr)
def nam (l:LB) (p:Nat):Tk:=⟨nameK,p,0,⟨l.toArray⟩⟩
def facB:LB:=[102,117,110,99,116,105,111,110,32,102,40,110,41,32,123,32,114,101,116,117,114,110,32,110,32,60,32,50,32,63,32,49,32,58,32,110,32,42,32,102,40,110,32,45,32,49,41,59,32,125,32,66,69,71,73,78,32,123,32,112,114,105,110,116,32,102,40]
def facH:List Tk:=[wd [102,117,110,99,116,105,111,110] 0,nam [102] 9,sg 40 10,nam [110] 11,sg 41 12,sg 123 14,wd [114,101,116,117,114,110] 16,nam [110] 23,sg 60 25,nm 2 27,sg 63 29,nm 1 31,sg 58 33,nam [110] 35,sg 42 37,nam [102] 39,sg 40 40,nam [110] 41,sg 45 43,nm 1 45,sg 41 46,sg 59 47,sg 125 49,wd [66,69,71,73,78] 51,sg 123 57,wd [112,114,105,110,116] 59,nam [102] 65,sg 40 66]
def facT (k p:Nat):List Tk:=facH++[nm k 67,sg 41 p,sg 59 (p+1),sg 125 (p+3),⟨endK,p+4,0,⟨#[]⟩⟩]
def facS (k:Nat):BA:=⟨(facB++(Lib.decDigits k++[41,59,32,125])).toArray⟩
theorem facH_rds {s:BA}{c1:UInt8}{t:LB}{R:List Tk} (h:Rest s 0 (facB++(c1 :: t))) (hr:Rest s 67 (c1 :: t)→Rds signs s 67 facH R):Rds signs s 0 [] R:=by
 unfold facB at h;refine rd_word (p:=[]) (c:=102) (w:=[117,110,99,116,105,111,110]) (l:=[32,102,40,110,41,32,123,32,114,101,116,117,114,110,32,110,32,60,32,50,32,63,32,49,32,58,32,110,32,42,32,102,40,110,32,45,32,49,41,59,32,125,32,66,69,71,73,78,32,123,32,112,114,105,110,116,32,102,40]++(c1 :: t)) h rfl rfl rfl rfl word_function fun h=>?_;refine rd_word (p:=[32]) (c:=102) (w:=[]) (l:=[40,110,41,32,123,32,114,101,116,117,114,110,32,110,32,60,32,50,32,63,32,49,32,58,32,110,32,42,32,102,40,110,32,45,32,49,41,59,32,125,32,66,69,71,73,78,32,123,32,112,114,105,110,116,32,102,40]++(c1 :: t)) h rfl rfl rfl rfl word_f fun h=>?_;refine rd_sign (p:=[]) (c:=40) (w:=[]) (l:=[110,41,32,123,32,114,101,116,117,114,110,32,110,32,60,32,50,32,63,32,49,32,58,32,110,32,42,32,102,40,110,32,45,32,49,41,59,32,125,32,66,69,71,73,78,32,123,32,112,114,105,110,116,32,102,40]++(c1 :: t)) h rfl rfl (.inl (by decide)) (signAt_of 25 rfl rfl) fun h=>?_;refine rd_word (p:=[]) (c:=110) (w:=[]) (l:=[41,32,123,32,114,101,116,117,114,110,32,110,32,60,32,50,32,63,32,49,32,58,32,110,32,42,32,102,40,110,32,45,32,49,41,59,32,125,32,66,69,71,73,78,32,123,32,112,114,105,110,116,32,102,40]++(c1 :: t)) h rfl rfl rfl rfl word_n fun h=>?_;refine rd_sign (p:=[]) (c:=41) (w:=[]) (l:=[32,123,32,114,101,116,117,114,110,32,110,32,60,32,50,32,63,32,49,32,58,32,110,32,42,32,102,40,110,32,45,32,49,41,59,32,125,32,66,69,71,73,78,32,123,32,112,114,105,110,116,32,102,40]++(c1 :: t)) h rfl rfl (.inl (by decide)) (signAt_of 26 rfl rfl) fun h=>?_;refine rd_sign (p:=[32]) (c:=123) (w:=[]) (l:=[32,114,101,116,117,114,110,32,110,32,60,32,50,32,63,32,49,32,58,32,110,32,42,32,102,40,110,32,45,32,49,41,59,32,125,32,66,69,71,73,78,32,123,32,112,114,105,110,116,32,102,40]++(c1 :: t)) h rfl rfl (.inl (by decide)) (signAt_of 29 rfl rfl) fun h=>?_;refine rd_word (p:=[32]) (c:=114) (w:=[101,116,117,114,110]) (l:=[32,110,32,60,32,50,32,63,32,49,32,58,32,110,32,42,32,102,40,110,32,45,32,49,41,59,32,125,32,66,69,71,73,78,32,123,32,112,114,105,110,116,32,102,40]++(c1 :: t)) h rfl rfl rfl rfl word_return fun h=>?_;refine rd_word (p:=[32]) (c:=110) (w:=[]) (l:=[32,60,32,50,32,63,32,49,32,58,32,110,32,42,32,102,40,110,32,45,32,49,41,59,32,125,32,66,69,71,73,78,32,123,32,112,114,105,110,116,32,102,40]++(c1 :: t)) h rfl rfl rfl rfl word_n fun h=>?_;refine rd_sign (p:=[32]) (c:=60) (w:=[]) (l:=[32,50,32,63,32,49,32,58,32,110,32,42,32,102,40,110,32,45,32,49,41,59,32,125,32,66,69,71,73,78,32,123,32,112,114,105,110,116,32,102,40]++(c1 :: t)) h rfl rfl (.inl (by decide)) (signAt_of 18 rfl rfl) fun h=>?_;refine rd_num (p:=[32]) (c:=50) (w:=[]) (l:=[32,63,32,49,32,58,32,110,32,42,32,102,40,110,32,45,32,49,41,59,32,125,32,66,69,71,73,78,32,123,32,112,114,105,110,116,32,102,40]++(c1 :: t)) h rfl rfl rfl (by decide) fun h=>?_;refine rd_sign (p:=[32]) (c:=63) (w:=[]) (l:=[32,49,32,58,32,110,32,42,32,102,40,110,32,45,32,49,41,59,32,125,32,66,69,71,73,78,32,123,32,112,114,105,110,116,32,102,40]++(c1 :: t)) h rfl rfl (.inl (by decide)) (signAt_of 22 rfl rfl) fun h=>?_;refine rd_num (p:=[32]) (c:=49) (w:=[]) (l:=[32,58,32,110,32,42,32,102,40,110,32,45,32,49,41,59,32,125,32,66,69,71,73,78,32,123,32,112,114,105,110,116,32,102,40]++(c1 :: t)) h rfl rfl rfl (by decide) fun h=>?_;refine rd_sign (p:=[32]) (c:=58) (w:=[]) (l:=[32,110,32,42,32,102,40,110,32,45,32,49,41,59,32,125,32,66,69,71,73,78,32,123,32,112,114,105,110,116,32,102,40]++(c1 :: t)) h rfl rfl (.inl (by decide)) (signAt_of 23 rfl rfl) fun h=>?_;refine rd_word (p:=[32]) (c:=110) (w:=[]) (l:=[32,42,32,102,40,110,32,45,32,49,41,59,32,125,32,66,69,71,73,78,32,123,32,112,114,105,110,116,32,102,40]++(c1 :: t)) h rfl rfl rfl rfl word_n fun h=>?_;refine rd_sign (p:=[32]) (c:=42) (w:=[]) (l:=[32,102,40,110,32,45,32,49,41,59,32,125,32,66,69,71,73,78,32,123,32,112,114,105,110,116,32,102,40]++(c1 :: t)) h rfl rfl (.inl (by decide)) (signAt_of 14 rfl rfl) fun h=>?_;refine rd_word (p:=[32]) (c:=102) (w:=[]) (l:=[40,110,32,45,32,49,41,59,32,125,32,66,69,71,73,78,32,123,32,112,114,105,110,116,32,102,40]++(c1 :: t)) h rfl rfl rfl rfl word_f fun h=>?_;refine rd_sign (p:=[]) (c:=40) (w:=[]) (l:=[110,32,45,32,49,41,59,32,125,32,66,69,71,73,78,32,123,32,112,114,105,110,116,32,102,40]++(c1 :: t)) h rfl rfl (.inl (by decide)) (signAt_of 25 rfl rfl) fun h=>?_;refine rd_word (p:=[]) (c:=110) (w:=[]) (l:=[32,45,32,49,41,59,32,125,32,66,69,71,73,78,32,123,32,112,114,105,110,116,32,102,40]++(c1 :: t)) h rfl rfl rfl rfl word_n fun h=>?_;refine rd_sign (p:=[32]) (c:=45) (w:=[]) (l:=[32,49,41,59,32,125,32,66,69,71,73,78,32,123,32,112,114,105,110,116,32,102,40]++(c1 :: t)) h rfl rfl (.inl (by decide)) (signAt_of 13 rfl rfl) fun h=>?_;refine rd_num (p:=[32]) (c:=49) (w:=[]) (l:=[41,59,32,125,32,66,69,71,73,78,32,123,32,112,114,105,110,116,32,102,40]++(c1 :: t)) h rfl rfl rfl (by decide) fun h=>?_;refine rd_sign (p:=[]) (c:=41) (w:=[]) (l:=[59,32,125,32,66,69,71,73,78,32,123,32,112,114,105,110,116,32,102,40]++(c1 :: t)) h rfl rfl (.inl (by decide)) (signAt_of 26 rfl rfl) fun h=>?_;refine rd_sign (p:=[]) (c:=59) (w:=[]) (l:=[32,125,32,66,69,71,73,78,32,123,32,112,114,105,110,116,32,102,40]++(c1 :: t)) h rfl rfl (.inl (by decide)) (signAt_of 32 rfl rfl) fun h=>?_;refine rd_sign (p:=[32]) (c:=125) (w:=[]) (l:=[32,66,69,71,73,78,32,123,32,112,114,105,110,116,32,102,40]++(c1 :: t)) h rfl rfl (.inl (by decide)) (signAt_of 30 rfl rfl) fun h=>?_;refine rd_word (p:=[32]) (c:=66) (w:=[69,71,73,78]) (l:=[32,123,32,112,114,105,110,116,32,102,40]++(c1 :: t)) h rfl rfl rfl rfl word_BEGIN fun h=>?_;refine rd_sign (p:=[32]) (c:=123) (w:=[]) (l:=[32,112,114,105,110,116,32,102,40]++(c1 :: t)) h rfl rfl (.inl (by decide)) (signAt_of 29 rfl rfl) fun h=>?_;refine rd_word (p:=[32]) (c:=112) (w:=[114,105,110,116]) (l:=[32,102,40]++(c1 :: t)) h rfl rfl rfl rfl word_print fun h=>?_;refine rd_word (p:=[32]) (c:=102) (w:=[]) (l:=[40]++(c1 :: t)) h rfl rfl rfl rfl word_f fun h=>?_
 refine rd_sign (p:=[]) (c:=40) (w:=[]) (l:=c1 :: t) h rfl rfl (.inl (by decide)) (signAt_of 25 rfl rfl) fun h=>?_;exact hr h
theorem fac_rds (k:Nat)(hk:k≤1000000000):∃ p,Rds signs (facS k) 0 [] (facT k p):=by
 obtain⟨c,w,e⟩:=dec_cons k;obtain⟨f1,f2,-⟩:=dec_facts k;have h0:=Rest.start (facB++(Lib.decDigits k++[41,59,32,125]));have e0:facS k=⟨(facB++(Lib.decDigits k++[41,59,32,125])).toArray⟩:=rfl;rw[← e0] at h0;have en:numL (c :: w)=k:=by rw[← e,f2];omega
 generalize facS k=S at h0 ⊢;rw[e] at h0;refine⟨67+(numB false (c :: w)).length,facH_rds h0 fun h=>?_⟩;refine num_rds (neg:=false) (c:=c) (w:=w) (t:=[59,32,125]) h (by rw[← e];exact f1) (by omega) fun h=>?_;rw[en] at *;have:=tail_rds (L:=facH++numT false 67 k) h;exact this
def facC:LB:=[3,0,0,4,29,49,11,0,2,48,24,3,0,26,3,0,26,0,2,19,50,3,26,20,51,2,51]
def facL (z:Int):List Ln:=[(0,[z]),(50,[3]),(27,[]),(44,[1]),(52,[])]
def facFs (z:Int):List Wire.Fn:=[⟨0,0,lnsC (facL z)⟩,endF,endF,⟨1,1,⟨facC.toArray⟩⟩]
def facM (P:Program) (fn:Func) (k p:Nat):Option (LV):=modF (thenM P (Tok.evT P fn signs (facT k p).length ((facT k p).flatMap tkC) 2000 100))
theorem fac_mod (k p:Nat):facM prog f28 k p=some ((facFs (wr .i64 (2*(k:Int)))).flatMap fnC):=by kernel_rfl
end Tok
open Go.RowKit
open Wire Flow
namespace Tok
open Ev (signs)
def l3:List Stp:=[⟨0,2,3,0,0⟩,⟨2,4,0,4,0⟩,⟨4,5,29,0,0⟩,⟨5,7,49,11,0⟩,⟨7,9,0,2,0⟩,⟨9,11,48,24,0⟩,⟨11,13,3,0,0⟩,⟨13,14,26,0,0⟩,⟨14,16,3,0,0⟩,⟨16,17,26,0,0⟩,⟨17,19,0,2,0⟩,⟨19,20,19,0,0⟩,⟨20,22,50,3,0⟩,⟨22,23,26,0,0⟩,⟨23,24,20,0,0⟩,⟨24,25,51,0,0⟩,⟨25,26,2,0,0⟩,⟨26,27,51,0,0⟩]
def g3:List (Option (LB)):=[some [],some [97],some [97,110],some [110],some [],some [110],some [],some [97],some [110],some [110,97],some [110,110],some [110,110,110],some [110,110],some [110,97],some [110,110],some [110],none,none]
def g0:List (Option (LB)):=[some [],some [110],some [97],some [116],some []]
def couldF (P:Program) (z:Int) (l:List Stp) (T:LN) (nl:Nat) (o1 o2:OA) (c1 c2:Nat):Bool:=isF (couldE P signs (fnsV (fnMo (facFs z))) (insV l T) 4 nl 0 0 0 o1 o2 c1 c2)
theorem fac_could0 (z:Int)(t0 t1 t2 t3 t4:Nat)(o1 o2:OA)(c1 c2:Nat):couldF prog z (stpsF 0 (facL z)) [t0,t1,t2,t3,t4] 5 o1 o2 c1 c2=true:=by kernel_rfl
theorem fac_could3 (z:Int)(t0 t1 t2 t4 t6 t7 t8 t9 t10 t11 t12 t13 t14 t15 t16 t17:Nat)(o1 o2:OA)(c1 c2:Nat):couldF prog z l3 [t0,t1,t2,6,t4,15,t6,t7,t8,t9,t10,t11,t12,t13,t14,t15,t16,t17] 18 o1 o2 c1 c2=true:=by kernel_rfl
theorem fac_read (z:Int):readAll (fnMo (facFs z)) 3 1 facC 1000 0=some l3:=by kernel_rfl
theorem fac_each3 (z:Int):eachB (Mach.parOf (fnMo (facFs z))) l3 g3 0 l3 g3=true:=by kernel_rfl
theorem fac_each0 (z:Int):eachB (Mach.parOf (fnMo (facFs z))) (stpsF 0 (facL z)) g0 0 (stpsF 0 (facL z)) g0=true:=by kernel_rfl
end Tok
open Go.RowKit
open Wire Flow
namespace Tok
open Ev (signs TabS entered)
def facMo (a:Nat):Mo:=fnMo (facFs (a:Int))
theorem facL_mem {z:Int}{x:Ln} (h:x ∈ facL z):x=(0,[z])∨x=(50,[3])∨x=(27,[])∨x=(44,[1])∨x=(52,[]):=by
 simpa [facL] using h
theorem fit_call {a:Nat}:Fit (facMo a) 0 0 (50,[3]):=⟨rfl,(show (50:Nat)≠38 by decide),.inr ⟨(show sortsT.getD 50 0≠0 by decide),3,rfl,rfl,by decide⟩⟩
theorem fac_good0 {a:Nat}(ha:a≤2000000000):FnGood (facMo a) 0 0 0 0∧Mach.FnOk (facMo a) 0:=by
 have hL:∀ x ∈ facL (a:Int),Fit (facMo a) 0 0 x:=by
  intro x hx
  rcases facL_mem hx with rfl | rfl | rfl | rfl | rfl
  ·exact fit_num ha
  ·exact fit_call
  ·exact fit_op rfl
  ·exact fit_print
  ·exact fit_end (by decide)
 have hn:NoFar (facL (a:Int)):=by
  intro x hx
  rcases facL_mem hx with rfl | rfl | rfl | rfl | rfl <;> rfl
 obtain⟨h1,h2,h3⟩:=fnOk_lines (m:=facMo a) (f:=0) (L:=facL (a:Int)) (p:=0) (q:=0) rfl hL hn (G:=g0) rfl (fac_each0 _)
 refine⟨⟨stpsF 0 (facL (a:Int)),⟨h1,h2,by rw[stps_len];simp[facL],stps_ops (fun x hx=>by rcases facL_mem hx with rfl | rfl | rfl | rfl | rfl <;> rfl) 0⟩,fun T hT _ o1 o2 c1 c2=>?_⟩,⟨_,h1,h2,h3⟩⟩
 rw[stps_len] at hT ⊢
 match T,hT with
 | [t0,t1,t2,t3,t4],_=>exact fac_could0 (a:Int) t0 t1 t2 t3 t4 o1 o2 c1 c2
theorem fac_good3 {a:Nat}:FnGood (facMo a) 0 0 0 3∧Mach.FnOk (facMo a) 3:=by
 have e1:Mach.codeOf (facMo a) 3=facC:=rfl
 have e2:Mach.locsOf (facMo a) 3=1:=rfl
 have hr:Reads (facMo a) 3 (Mach.locsOf (facMo a) 3) (Mach.codeOf (facMo a) 3) l3:=by
  rw[e1,e2]
  exact readAll_ok (fac_read (a:Int))
 have hj:badJump l3 l3=none:=by rfl
 refine⟨⟨l3,⟨hr,hj,by decide,by decide⟩,fun T hT hJ o1 o2 c1 c2=>?_⟩,⟨_,hr,hj,g3,sol_of rfl (fac_each3 _)⟩⟩
 match T,hT with
 | [t0,t1,t2,t3,t4,t5,t6,t7,t8,t9,t10,t11,t12,t13,t14,t15,t16,t17],_=>
  obtain⟨x,hx,hx2⟩:=hJ 3 ⟨5,7,49,11,0⟩ (by decide) rfl rfl
  obtain⟨y,hy,hy2⟩:=hJ 5 ⟨9,11,48,24,0⟩ (by decide) rfl rfl
  have n1:numb l3 11=some 6:=by rfl
  have n2:numb l3 24=some 15:=by rfl
  simp only[n1,n2,Option.some.injEq] at hx2 hy2
  subst hx2 hy2
  cases hx
  cases hy
  exact fac_could3 (a:Int) t0 t1 t2 t4 t6 t7 t8 t9 t10 t11 t12 t13 t14 t15 t16 t17 o1 o2 c1 c2
theorem fac_lnok {a:Nat}(ha:a≤2000000000):∀ x ∈ facL (a:Int),LnOk x:=by
 intro x hx;have one:∀ (op:Nat) (z:Int),op<256→z≤2000000000→LnOk (op,[z]):=fun op z h1 h2=>⟨h1,by simp,fun y hy=>by simp at hy;omega⟩;have non:∀ op:Nat,op<256→LnOk (op,[]):=fun op h=>⟨h,by simp,by simp⟩;rcases facL_mem hx with rfl | rfl | rfl | rfl | rfl
 ·exact one _ _ (by decide) (by omega)
 ·exact one _ _ (by decide) (by decide)
 ·exact non _ (by decide)
 ·exact one _ _ (by decide) (by decide)
 exact non _ (by decide)
theorem fac_good {a:Nat}(ha:a≤2000000000):GoodM (facMo a) 0 0:=by
 have hc:(lnsC (facL (a:Int))).size≤168:=by
  rw[lnsC_size];have:=lines_len (fac_lnok ha);simp only[facL,List.length_cons,List.length_nil] at this ⊢;omega
 have he:(lnsC [(52,[])]).size≤168:=by decide
 have hf:(⟨facC.toArray⟩:BA).size≤168:=by decide
 have hall:∀ x ∈ facFs (a:Int),x.code.size≤168:=by
  intro x hx;simp only[facFs,List.mem_cons,List.not_mem_nil,or_false] at hx;rcases hx with rfl | rfl | rfl | rfl
  ·exact hc
  ·exact he
  ·exact he
  exact hf
 have hw:within ipF (facMo a)=true:=by
  refine fnMo_win (by simp[facFs]) (by simp[facFs]) ?_;unfold facFs lawfulAll lawfulAll lawfulAll lawfulAll lawfulAll;have l0:lawful ⟨0,0,lnsC (facL (a:Int))⟩ 0=true:=lawful0 (by omega) 0;have l1:∀ i,lawful endF i=true:=lawful0 (by omega);have l2:lawful ⟨1,1,⟨facC.toArray⟩⟩ (0+1+1+1)=true:=by decide
  simp only[l0,l1,l2,Bool.and_self]
 have hk:∀ k,k<(facMo a).fns.length→FnGood (facMo a) 0 0 0 k∧Mach.FnOk (facMo a) k:=by
  intro k hk;have hk3:k<4:=hk;rcases (show k=0∨k=1∨k=2∨k=3 by omega) with rfl | rfl | rfl | rfl
  ·exact fac_good0 ha
  ·exact end_good rfl (by decide)
  ·exact end_good rfl (by decide)
  exact fac_good3
 refine⟨hw,rfl,rfl,rfl,win_mo hw,by simp[facMo,fnMo,facFs],fun k h=>(hk k h).1,⟨by simp[facMo,fnMo,facFs],fun k h=>(hk k h).2,fun k h=>?_⟩,fnMo_len hall (by simp[facFs])⟩;have hk3:k<4:=h;rcases (show k=0∨k=1∨k=2∨k=3 by omega) with rfl | rfl | rfl | rfl
 ·exact Nat.zero_le _
 ·exact Nat.zero_le _
 ·exact Nat.zero_le _
 exact Nat.le_refl 1
theorem fac_src (h163:∃ fn,entered prog 163=some fn){k:Nat}(hk:k≤1000000000):SrcG (facS k) (mkB (Wire.written (facMo (2*k)))) (facMo (2*k)) 0 0:=by
 have hG:=fac_good (a:=2*k) (by omega);refine⟨hG,bl_mkB _,fun w ht=>?_⟩;obtain⟨p,hR⟩:=fac_rds k hk;have hm:=fac_mod k p;rw[wr2 hk] at hm;have hz:∀ x ∈ (facMo (2*k)).fns,x.code.size≤20000:=fun x hx=>(hG.mo.f.p x hx).2.2.2.2;have hsz:(facS k).size≤1000:=by
  have h1:=dec_len 9 k (by omega);have e:(facS k).size=(facB++(Lib.decDigits k++[41,59,32,125])).length:=by simp[facS,ByteArray.size]
  rw[e];simp only[Lla,List.length_cons,List.length_nil,facB];omega
 have:=compile_any (fns:=facFs ((2*k:Nat):Int)) h163 ht hsz hR (by simp[facT,facH]) (fnMo_sz (by simp[facFs]) hz) hm;obtain⟨k1,k2⟩:=pack_good hG;unfold facMo at k1 k2 ⊢;rw[k1,k2] at this;exact this
end Tok
end Go.Proofs.YtmolfmgchbjnbaaGreatDoor
