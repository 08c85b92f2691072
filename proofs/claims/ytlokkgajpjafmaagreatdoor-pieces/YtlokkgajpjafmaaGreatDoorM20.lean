import Derived.Test.YtlokkgajpjafmaaGreatDoorM19
set_option linter.unusedSimpArgs false
set_option linter.unusedVariables false
set_option maxRecDepth 100000
set_option maxHeartbeats 40000000
open _root_.Go.Proofs.Tryz
namespace Go.Proofs.YtlokkgajpjafmaaGreatDoor
open Go.RowKit
open Wire Flow Mach
theorem aEx {w:Wd}(h:(nextR w).2=false):(nextR w).1=w:=by
 unfold Mach.nextR at h ⊢;cases hq:w.recs[w.nr]? with
 | none=>rfl
 | some t=>rw[hq] at h;cases h
section
variable {E:Env}{X b4:Nat}{S0:St}{N:Nat}{tag:NN}{W w:WL}
theorem RP.play (hE:GoE E){n:Nat}(h:RP E X b4 S0 N tag W false n w):∃ op pl a b q:Int,(w.cell? (Ad b4 0)=some (.int .u8 op)∧w.cell? (Ad b4 1)=some (iA pl)∧w.cell? (Ad b4 2)=some (iA a)∧w.cell? (Ad b4 3)=some (iA b)∧w.cell? (Ad b4 4)=some (iA q)) ∧
  Calls prog 43 #[ptr X,inV op pl a b q] w (fun e w'=>∃ st:Int,e=.returned (stI st)∧(st=0→RF E X b4 S0 N tag W n w')∧(st≠0→RE E X S0 N tag W st w')):=by
 obtain⟨S,g,low,fr,i,rest,top,t,m,q,hp,hn,hst,hc,hG,hP,hu,hR,hh,M,K,h52,hfar,B⟩:=h;have h52':i.op≠52:=by simpa using h52
 refine⟨_,_,_,_,_,(dY B.2.2).1,?_⟩;refine (aJi hE.env hE.sm hE.lim hE.mod hG hP hst hc hR M hfar h52').mono ?_;rintro e w' ⟨st,he,hst',g',s',t',M',K',q1,q2,q3,q4,q5,q6⟩;have hGD:=hG.does hE.sm hE.mod hst hR;refine⟨st,he,fun h0=>?_,fun hne=>?_⟩
 ·have hD0:(Mach.does E S low fr i rest top).st=0:=by omega
  have hfr:=q6 hD0;have hused:=aIn (E:=E) (S:=S) (low:=low) (fr:=fr) (i:=i) (rest:=rest) (top:=top);refine⟨Mach.does E S low fr i rest top,g',s'.low,s'.fr,t',m+1,_,_,_,_,_,hp.more hst hR,by omega,hD0,D1 hc hR hD0 hst,hGD,hP.does hR,by omega,hfr.symm,?_,?_,K.trans K',B.kp K'⟩
  ·rw[aUc hR h52',hh,q1]
  have e:oV (Mach.does E S low fr i rest top) s'.low s'.fr=s':=by
   unfold oV;rw[← q3,← q4,← q5,hD0];have:s'.st=0:=by rw[q2];exact hst
   rw[← this]
  rw[e];exact M'
 exact⟨Mach.does E S low fr i rest top,g',s',t',m+1,hp.more hst hR,by omega,by omega,hst',hGD,M',K.trans K',q3,q4,q5⟩
theorem RP.ends (hE:GoE E){n:Nat}(h:RP E X b4 S0 N tag W true n w):∃ en:Nat,en≤1000000∧w.cell? (Ad X 10)=some (iA (en:Nat))∧(en=2→RE E X S0 N tag W 1 w)∧(en≠2→Calls prog 44 #[ptr X] w (fun e w'=>e=.returned cR∧RF E X b4 S0 N tag W n w')):=by
 obtain⟨S,g,low,fr,i,rest,top,t,m,q,hp,hn,hst,hc,hG,hP,hu,hR,hh,M,K,h52,hfar,B⟩:=h;have h52':i.op=52:=by simpa using h52
 obtain⟨hI,-,-⟩:=hG.inv hst;have hmay:=(cE hR.at_ hR.dec).2.2.2.2;have hf3:fr.f<3:=by
  unfold fT at hmay;rw[h52'] at hmay;simp at hmay;omega
 have hlow:low=[]:=by
  have h1:=(hI.kinds low.length fr (by rw[hR.frs];simp)).2 hf3;exact List.length_eq_zero_iff.1 h1
 subst hlow;have hen:g.en=fr.f:=by
  rw[hR.frs] at hh;simpa [hd] using hh.symm
 have hGD:=hG.does hE.sm hE.mod hst hR;have hD:Mach.does E S [] fr i rest top=Mach.over E.mo { S with used:=S.used+1 } fr.f:=by
  unfold Mach.does;rw[if_neg (by omega),if_neg (by omega),if_pos h52']
 have hx10:w.cell? (Ad X 10)=some (iA (g.en:Nat)):=by
  obtain⟨h6,lv,R,mp,x,hx,h⟩:=M;exact h.xc (by rw[← hx.1.2.1];rfl)
 refine⟨g.en,by omega,hx10,fun h2=>?_,fun h2=>?_⟩
 ·have hD1:Mach.does E S [] fr i rest top = { S with used:=S.used+1,st:=1 }:=by
   rw[hD];unfold Mach.over;rw[if_pos (by omega)]
  exact⟨Mach.does E S [] fr i rest top,g,_,t,m+1,hp.more hst hR,by omega,by rw[hD1];show (1:Nat)≠0;decide,by rw[hD1];rfl,hGD,M,K,by rw[hD1];rfl,by rw[hD1];rfl,by rw[hD1];rfl⟩
 have hw:SmW S.w:=hG.w;refine (M.nextFn (fun t ht=>Nat.le_trans (hw.recs t (List.mem_of_getElem? ht)) (by decide)) (Nat.le_trans hw.nrec (by decide)) (by have:=hE.mod.three;omega)).mono ?_;rintro e w' ⟨he,b,t',M',K'⟩;refine⟨he,?_⟩;have hw':(pR S [] fr i).w=S.w:=rfl;rw[hw'] at M';have hD1:Mach.does E S [] fr i rest top=⟨(nextR S.w).1,[enter E.mo (if (nextR S.w).2=true then 1 else 2) []],S.st,S.code,S.used+1⟩:=by
  rw[hD];unfold Mach.over;rw[if_neg (by omega)];rcases hb:(nextR S.w).2 with _ | _
  ·simp only[hb,Bool.false_eq_true,if_false,aEx hb]
  simp only[hb,if_true]
 have hD0:(Mach.does E S [] fr i rest top).st=0:=by rw[hD1];exact hst
 refine⟨Mach.does E S [] fr i rest top,g.at_ b (if (nextR S.w).2=true then 1 else 2),[],enter E.mo (if (nextR S.w).2=true then 1 else 2) [],t',m+1,_,_,_,_,_,hp.more hst hR,by omega,hD0,D1 hc hR hD0 hst,hGD,hP.does hR,by rw[hD1];show S.used+1+n≤_;omega,by rw[hD1];rfl,?_,?_,K.trans K',B.kp K'⟩
 ·rw[hD1];rfl
 rw[hD1];exact M'
end
def jE (E:Env) (X b4:Nat) (S0:St) (N:Nat) (tag:NN) (W:WL):Act→WL→Prop:=fun a w=>∃ (n:Nat) (st:Int) (u2 u3 u6 u7 u8 u9 u10 u11 u12 u13 u14 u15 u16 u17 u18 u19 u20 u21 u22 u23 u24 u25 u26 u27 u28 u29 u30 u31 u32 u33 u34 u35 u36 u37 u38 u39 u40 u41 u42 u43 u44 u45 u46 u47 u48:Value),a=⟨#[ptr X,.int .i64 ((n:Nat)),u2,u3,ptr b4,.int .i64 st,u6,u7,u8,u9,u10,u11,u12,u13,u14,u15,u16,u17,u18,u19,u20,u21,u22,u23,u24,u25,u26,u27,u28,u29,u30,u31,u32,u33,u34,u35,u36,u37,u38,u39,u40,u41,u42,u43,u44,u45,u46,u47,u48],[]⟩∧Hid (RE E X S0 N tag W st w)
def jF (E:Env) (X b4:Nat) (S0:St) (N:Nat) (tag:NN) (W:WL):Act→WL→Prop:=fun a w=>∃ (n:Nat) (u2 u3 u5 u6 u7 u8 u9 u10 u11 u12 u13 u14 u15 u16 u17 u18 u19 u20 u21 u22 u23 u24 u25 u26 u27 u28 u29 u30 u31 u32 u33 u34 u35 u36 u37 u38 u39 u40 u41 u42 u43 u44 u45 u46 u47 u48:Value),a=⟨#[ptr X,.int .i64 ((n:Nat)),u2,u3,ptr b4,u5,u6,u7,u8,u9,u10,u11,u12,u13,u14,u15,u16,u17,u18,u19,u20,u21,u22,u23,u24,u25,u26,u27,u28,u29,u30,u31,u32,u33,u34,u35,u36,u37,u38,u39,u40,u41,u42,u43,u44,u45,u46,u47,u48],[]⟩∧Hid (RF E X b4 S0 N tag W n w)
def jN (E:Env) (X b4:Nat) (S0:St) (N:Nat) (tag:NN) (W:WL):Act→WL→Prop:=fun a w=>∃ (n:Nat) (u2 u3 u5 u6 u7 u8 u9 u10 u11 u12 u13 u14 u15 u16 u17 u18 u19 u20 u21 u22 u23 u24 u25 u26 u27 u28 u29 u30 u31 u32 u33 u34 u35 u36 u37 u38 u39 u40 u41 u42 u43 u44 u45 u46 u47 u48:Value),a=⟨#[ptr X,.int .i64 ((n:Nat)),u2,u3,ptr b4,u5,u6,u7,u8,u9,u10,u11,u12,u13,u14,u15,u16,u17,u18,u19,u20,u21,u22,u23,u24,u25,u26,u27,u28,u29,u30,u31,u32,u33,u34,u35,u36,u37,u38,u39,u40,u41,u42,u43,u44,u45,u46,u47,u48],[]⟩∧Hid (RP E X b4 S0 N tag W true n w)
def jP (E:Env) (X b4:Nat) (S0:St) (N:Nat) (tag:NN) (W:WL):Act→WL→Prop:=fun a w=>∃ (n:Nat) (u2 u3 u5 u6 u7 u8 u9 u10 u11 u12 u13 u14 u15 u16 u17 u18 u19 u20 u21 u22 u23 u24 u25 u26 u27 u28 u29 u30 u31 u32 u33 u34 u35 u36 u37 u38 u39 u40 u41 u42 u43 u44 u45 u46 u47 u48:Value),a=⟨#[ptr X,.int .i64 ((n:Nat)),u2,u3,ptr b4,u5,u6,u7,u8,u9,u10,u11,u12,u13,u14,u15,u16,u17,u18,u19,u20,u21,u22,u23,u24,u25,u26,u27,u28,u29,u30,u31,u32,u33,u34,u35,u36,u37,u38,u39,u40,u41,u42,u43,u44,u45,u46,u47,u48],[]⟩∧Hid (RP E X b4 S0 N tag W false n w)
def muG (l:Nat) (a:Act) (_:WL):Nat:=if l=0 then 0 else if l=1 then 4*(intOf (a.tmps.getD 1 undef)).toNat+3 else 4*(intOf (a.tmps.getD 1 undef)).toNat+5
theorem RF.le {E:Env}{X b4:Nat}{S0:St}{N n:Nat}{tag:NN}{W w:WL} (h:RF E X b4 S0 N tag W n w):n≤N:=by
 obtain⟨S,g,low,fr,t,m,-,-,-,-,-,-,hn,-⟩:=h;omega
theorem aDd (W:WL):∃ W1,W.alloc (.cells #[.int .u8 0,iA 0,iA 0,iA 0,iA 0] 96)=W1∧Fr [] W W1∧W1.heap[W.heap.size]?=some (.cells #[.int .u8 0,iA 0,iA 0,iA 0,iA 0] 96):=
 ⟨_,rfl,(Fr.refl [] W).alloc _,wan W _⟩
section
variable {E:Env}{X:Nat}{g:Pl}{S0:St}{low:List Frm}{fr:Frm}{tag:NN}{W:WL}{N:Nat}
theorem aXq (hE:GoE E)(h:MM E X g (oV S0 low fr) W tag)(hG:Mach.Good E S0)(hN:N≤1000000)(hu:S0.used+N≤4611686018427387904)(h0:S0.st=0→S0.code=0∧Pr S0.frs∧S0.frs=low++[fr]∧hd S0.frs=some g.en)(hst9:S0.st≤9) :
  Calls prog 24 #[ptr X,iA (N:Nat)] W (GoQ E X S0 N tag W):=by
 obtain⟨W1,hW1,F1,k1⟩:=aDd W;obtain⟨t1,M1,K1,hb1⟩:=MM.box h F1;obtain⟨b4,hb⟩:=eXi (W.heap.size);rw[hb] at k1;have hb4:W.heap.size≤b4:=Nat.le_of_eq hb;have x12:=M1.xst;have x12':W1.cell? (Ad X 12)=some (iA (S0.st:Nat)):=x12;have HR:Hid (S0.st=0→RF E X b4 S0 N tag W N W1):=fun hst=>by
  obtain⟨q1,q2,q3,q4⟩:=h0 hst;exact⟨S0,g,low,fr,t1,0,_,_,_,_,_,rfl,by omega,hst,q1,hG,q2,hu,q3,q4,M1,K1,hb1 b4 hb4,by rw[← hb];exact h.six,k1⟩
 have HX:Hid (S0.st≠0→RE E X S0 N tag W (S0.st:Nat) W1):=fun hst=>⟨S0,g,_,t1,0,rfl,Nat.zero_le _,hst,rfl,hG,M1,K1,rfl,rfl,rfl⟩;generalize S0.st=st0 at *;clear h M1 K1 hb1 k1 h0 x12 hG F1;go_enter func24,ntmps24;go_wp2_with fail;refine aIi (jE E X b4 S0 N tag W) (jF E X b4 S0 N tag W) (jN E X b4 S0 N tag W) (jP E X b4 S0 N tag W) muG rfl rfl rfl rfl ?_ ?_ ?_ ?_ ?_
 ·rcases Decidable.em (st0=0) with c | c
  ·subst c;have J:Hid (RF E X b4 S0 N tag W N W1):=HR.out rfl;clear HR HX;rcases N with _ | k
   ·go_wp2_with fail
    go_step3
    go_wp2_with fail;simp only[ExJ];refine bodyPost_ret (results_none rfl _ _ _) rfl ?_;exact RF.stop J.out
   go_wp2_with fail
   go_step3
   obtain⟨u,g,s,hu,x15,z15,HC⟩:=RF.step hb4 J.out;have hkN:=RF.le J.out;have HC1:Hid _:=fun (_:Unit)=>HC;have hwu:IntKind.i64.wrap ((u:Int)+1)=((u+1:Nat):Int):=by rw[IntKind.wrap_i64];omega
   have hwn:IntKind.i64.wrap (((k+1:Nat):Int)-1)=(k:Int):=by rw[IntKind.wrap_i64];omega
   have hn0:(((k+1:Nat):Int)==0)=false:=by simp;omega
   have ec:((u+1:Nat):Int)=(u:Int)+1:=by omega
   rw[ec] at HC1 hwu;clear HC J ec;go_wp2_with fail;refine (HC1.out ()).mono ?_;rintro e w2 ⟨rfl,HN⟩;have HN1:Hid _:=fun (_:Unit)=>HN;clear HN HC1;go_wp2_with fail;refine (HN1.out ()).mono ?_;rintro e w3 ⟨op,pl,a,b,q,v0,v1,v2,v3,v4,rfl,hb,JP,c0⟩;obtain⟨⟨y0,y1,y2,y3,y4⟩,zz⟩:=dY hb;have z0:=zz 0;have z1:=zz 1;have z2:=zz 2;have z3:=zz 3;have z4:=zz 4;obtain⟨q1,q2,q3,q4⟩:=xP hb (.int .u8 op) (iA pl) (iA a) (iA b);unfold oQ at JP c0;obtain⟨w4,hw4⟩:=eXi (((((w3.setCell ⟨b4,0,none⟩ (.int .u8 op)).setCell ⟨b4,1,none⟩ (.int .i64 pl)).setCell ⟨b4,2,none⟩ (.int .i64 a)).setCell ⟨b4,3,none⟩ (.int .i64 b)).setCell ⟨b4,4,none⟩ (.int .i64 q));rw[hw4] at JP c0;clear zz hb HN1;by_cases c52:op=52
   ·subst c52;have JP:RP E X b4 S0 (k+1) tag W true k w4:=JP;have HJ:Hid _:=JP;clear JP;go_wp2_with fail
    go_step3
    exact⟨k,_,_,_,_,_,_,_,_,_,_,_,_,_,_,_,_,_,_,_,_,_,_,_,_,_,_,_,_,_,_,_,_,_,_,_,_,_,_,_,_,_,_,_,_,_,_,rfl,HJ⟩
   have e52:(op==52)=false:=by simp[c52]
   rw[show decide (op=52)=false from decide_eq_false c52] at JP;have HJ:Hid _:=JP;clear JP;go_wp2_with fail
   go_step3
   exact⟨k,_,_,_,_,_,_,_,_,_,_,_,_,_,_,_,_,_,_,_,_,_,_,_,_,_,_,_,_,_,_,_,_,_,_,_,_,_,_,_,_,_,_,_,_,_,_,rfl,HJ⟩
  have c1:((st0:Int)!=0)=true:=by simp;omega
  have HE:Hid _:=HX.out c;clear HR HX;go_wp2_with fail
  go_step3
  exact⟨N,(st0:Int),_,_,_,_,_,_,_,_,_,_,_,_,_,_,_,_,_,_,_,_,_,_,_,_,_,_,_,_,_,_,_,_,_,_,_,_,_,_,_,_,_,_,_,_,_,rfl,HE⟩
 ·rintro a w ⟨n,st,u2,u3,u6,u7,u8,u9,u10,u11,u12,u13,u14,u15,u16,u17,u18,u19,u20,u21,u22,u23,u24,u25,u26,u27,u28,u29,u30,u31,u32,u33,u34,u35,u36,u37,u38,u39,u40,u41,u42,u43,u44,u45,u46,u47,u48,rfl,J⟩;obtain⟨D,gg,s,t,m,hp,hm,hne,rfl,hGD,M,K,q1,q2,q3⟩:=J.out;obtain⟨z12,⟨u12,y12⟩,M2,K2⟩:=M.setSt D.st;obtain⟨w2,hw2⟩:=eXi (w.setCell ⟨X,12,none⟩ (.int .i64 (D.st:Nat)));rw[hw2] at M2 K2;have HF:Hid (GoQ E X S0 N tag W (.returned cR) w2):=by
   refine⟨rfl,D,gg,_,t,?_,hGD,M2,K.trans K2,q1,rfl,q2,q3,fun h0=>absurd h0 hne⟩;have:=hp.append (lP E (N-m) hne)
   rwa [show m+(N-m)=N by omega] at this
  clear M M2 K K2 J HR HX hp hGD q1 q2 q3;generalize (D.st:Int)=ds at *;go_wp2_with fail;refine bodyPost_end (results_none rfl _ _ _) rfl ?_;exact HF.out
 ·rintro a w ⟨n,u2,u3,u5,u6,u7,u8,u9,u10,u11,u12,u13,u14,u15,u16,u17,u18,u19,u20,u21,u22,u23,u24,u25,u26,u27,u28,u29,u30,u31,u32,u33,u34,u35,u36,u37,u38,u39,u40,u41,u42,u43,u44,u45,u46,u47,u48,rfl,J⟩;clear HR HX;rcases n with _ | k
  ·go_wp2_with fail;simp only[ExJ];refine bodyPost_ret (results_none rfl _ _ _) rfl ?_;exact RF.stop J.out
  skip;obtain⟨u,g,s,hu,x15,z15,HC⟩:=RF.step hb4 J.out;have hkN:=RF.le J.out;have HC1:Hid _:=fun (_:Unit)=>HC;have hwu:IntKind.i64.wrap ((u:Int)+1)=((u+1:Nat):Int):=by rw[IntKind.wrap_i64];omega
  have hwn:IntKind.i64.wrap (((k+1:Nat):Int)-1)=(k:Int):=by rw[IntKind.wrap_i64];omega
  have hn0:(((k+1:Nat):Int)==0)=false:=by simp;omega
  have ec:((u+1:Nat):Int)=(u:Int)+1:=by omega
  rw[ec] at HC1 hwu;clear HC J ec;go_wp2_with fail;refine (HC1.out ()).mono ?_;rintro e w2 ⟨rfl,HN⟩;have HN1:Hid _:=fun (_:Unit)=>HN;clear HN HC1;go_wp2_with fail;refine (HN1.out ()).mono ?_;rintro e w3 ⟨op,pl,a,b,q,v0,v1,v2,v3,v4,rfl,hb,JP,c0⟩;obtain⟨⟨y0,y1,y2,y3,y4⟩,zz⟩:=dY hb;have z0:=zz 0;have z1:=zz 1;have z2:=zz 2;have z3:=zz 3;have z4:=zz 4;obtain⟨q1,q2,q3,q4⟩:=xP hb (.int .u8 op) (iA pl) (iA a) (iA b);unfold oQ at JP c0;obtain⟨w4,hw4⟩:=eXi (((((w3.setCell ⟨b4,0,none⟩ (.int .u8 op)).setCell ⟨b4,1,none⟩ (.int .i64 pl)).setCell ⟨b4,2,none⟩ (.int .i64 a)).setCell ⟨b4,3,none⟩ (.int .i64 b)).setCell ⟨b4,4,none⟩ (.int .i64 q));rw[hw4] at JP c0;clear zz hb HN1;by_cases c52:op=52
  ·subst c52;have JP:RP E X b4 S0 N tag W true k w4:=JP;have HJ:Hid _:=JP;clear JP;go_wp2_with fail
   go_step3
   exact⟨⟨k,_,_,_,_,_,_,_,_,_,_,_,_,_,_,_,_,_,_,_,_,_,_,_,_,_,_,_,_,_,_,_,_,_,_,_,_,_,_,_,_,_,_,_,_,_,_,rfl,HJ⟩,by simp[muG,intOf];omega⟩
  have e52:(op==52)=false:=by simp[c52]
  rw[show decide (op=52)=false from decide_eq_false c52] at JP;have HJ:Hid _:=JP;clear JP;go_wp2_with fail
  go_step3
  exact⟨⟨k,_,_,_,_,_,_,_,_,_,_,_,_,_,_,_,_,_,_,_,_,_,_,_,_,_,_,_,_,_,_,_,_,_,_,_,_,_,_,_,_,_,_,_,_,_,_,rfl,HJ⟩,by simp[muG,intOf];omega⟩
 ·rintro a w ⟨n,u2,u3,u5,u6,u7,u8,u9,u10,u11,u12,u13,u14,u15,u16,u17,u18,u19,u20,u21,u22,u23,u24,u25,u26,u27,u28,u29,u30,u31,u32,u33,u34,u35,u36,u37,u38,u39,u40,u41,u42,u43,u44,u45,u46,u47,u48,rfl,J⟩;obtain⟨en,hen,x10,H2,H3⟩:=RP.ends hE J.out;clear HR HX J;by_cases c:en=2
  ·subst c;have HJ:Hid _:=H2 rfl;clear H2 H3;go_wp2_with fail
   go_step3
   exact⟨⟨n,1,_,_,_,_,_,_,_,_,_,_,_,_,_,_,_,_,_,_,_,_,_,_,_,_,_,_,_,_,_,_,_,_,_,_,_,_,_,_,_,_,_,_,_,_,_,rfl,HJ⟩,by simp[muG]⟩
  have c1:((en:Int)==2)=false:=by simp;omega
  have HC:Hid _:=fun (_:Unit)=>H3 c;clear H2 H3;go_wp2_with fail;refine (HC.out ()).mono ?_;rintro e w2 ⟨rfl,J2⟩;have HJ:Hid _:=J2;clear J2 HC;go_wp2_with fail
  go_step3
  exact⟨⟨n,_,_,_,_,_,_,_,_,_,_,_,_,_,_,_,_,_,_,_,_,_,_,_,_,_,_,_,_,_,_,_,_,_,_,_,_,_,_,_,_,_,_,_,_,_,_,rfl,HJ⟩,by simp[muG,intOf]⟩
 rintro a w ⟨n,u2,u3,u5,u6,u7,u8,u9,u10,u11,u12,u13,u14,u15,u16,u17,u18,u19,u20,u21,u22,u23,u24,u25,u26,u27,u28,u29,u30,u31,u32,u33,u34,u35,u36,u37,u38,u39,u40,u41,u42,u43,u44,u45,u46,u47,u48,rfl,J⟩;obtain⟨op,pl,a,b,q,⟨y0,y1,y2,y3,y4⟩,HC⟩:=RP.play hE J.out;have HC1:Hid _:=fun (_:Unit)=>HC;clear HR HX J HC;go_wp2_with fail;refine (HC1.out ()).mono ?_;rintro e w2 ⟨st,rfl,J1,J2⟩;clear HC1;by_cases c:st=0
 ·subst c;have HJ:Hid _:=J1 rfl;clear J1 J2;go_wp2_with fail
  go_step3
  exact⟨⟨n,_,_,_,_,_,_,_,_,_,_,_,_,_,_,_,_,_,_,_,_,_,_,_,_,_,_,_,_,_,_,_,_,_,_,_,_,_,_,_,_,_,_,_,_,_,_,rfl,HJ⟩,by simp[muG,intOf]⟩
 have c1:(st != 0)=true:=by simp[c]
 have HJ:Hid _:=J2 c;clear J1 J2;go_wp2_with fail
 go_step3
 exact⟨⟨n,st,_,_,_,_,_,_,_,_,_,_,_,_,_,_,_,_,_,_,_,_,_,_,_,_,_,_,_,_,_,_,_,_,_,_,_,_,_,_,_,_,_,_,_,_,_,rfl,HJ⟩,by simp[muG]⟩
end
def stV (st:Nat) (code:Int) (out:BA) (used:Nat):Value:=.agg #[.int .i64 (st:Nat),.int .i64 code,.string out,.int .i64 (used:Nat)]
def GM (Y X:Nat) (W:WL):Prop:=W.cell? ⟨Y,0,none⟩=some (ptr X)
theorem GM.fr {Y X:Nat}{W W':WL} (h:GM Y X W) (F:Fr [] W W'):GM Y X W':=by
 have hlt:Y<W.heap.size:=aB h;show W'.cell? _=_;rw[F.cell hlt (by simp)];exact h
theorem xQ {w:WL}{b:Nat}{u0 u1 u2 u3:Value}{t:TypeId} (h:w.heap[b]?=some (.cells #[u0,u1,u2,u3] t)) (v0 v1 v2 v3:Value):((((w.setCell ⟨b,0,none⟩ v0).setCell ⟨b,1,none⟩ v1).setCell ⟨b,2,none⟩ v2).setCell ⟨b,3,none⟩ v3).heap[b]?=some (.cells #[v0,v1,v2,v3] t):=by
 have hl:=(Age.1 h).1;have hg:=(Age.1 h).2;unfold World.setCell;simp[hl,Array.getElem_modify,hg]
theorem dT {w:WL}{b:Nat}{v0 v1 v2 v3:Value}{t:TypeId} (h:w.heap[b]?=some (.cells #[v0,v1,v2,v3] t)):(w.cell? (Ad b 0)=some v0∧w.cell? (Ad b 1)=some v1∧w.cell? (Ad b 2)=some v2∧w.cell? (Ad b 3)=some v3)∧∀ j,w.frozen? (Ad b j)=false:=by
 refine⟨⟨?_,?_,?_,?_⟩,fun j=>?_⟩ <;> first | (unfold World.cell?;rw[h];rfl) | (unfold World.frozen?;rw[h];simp)
section
variable {E:Env}{X Y:Nat}{g:Pl}{s:Ms}{W W':WL}{tag:NN}
theorem aWh (h:MM E X g s W tag) :
  Calls prog 21 #[ptr X] W fun e w=>e=.returned (stV s.st s.code s.w.out s.used)∧Fr [] W w:=by
 have F1:Fr [] W (W.alloc (.cells #[iA 0,iA 0,.string ⟨#[]⟩,iA 0] 40)):=(Fr.refl [] W).alloc _;obtain⟨t1,M1,-⟩:=h.fr F1;have x12:=M1.xst;have x13:=M1.xcode;have x14:=M1.xout;have x15:=M1.xused;have HF:Hid _:=F1;clear h M1 F1;unfold stV;generalize s.st=a at *;generalize s.code=b at *;generalize s.w.out=c at *;generalize s.used=d at *;go_enter func21,ntmps21;go_wp2_with fail;refine bodyPost_ret (results_cell_row rfl _ _ W.heap.size 40 #[iA (a:Nat),iA b,.string c,iA (d:Nat)] (0,0) _ rfl (wan W _) underlying40 rfl (by kernel_rfl)) rfl ?_;exact⟨rfl,(Fr.refl [] W).alloc _⟩
theorem aWi (h:MM E X g s W tag)(hY:GM Y X W) :
  Calls prog 11 #[ptr Y] W fun e w=>e=.returned (stV s.st s.code s.w.out s.used)∧Fr [] W w:=by
 have F1:Fr [] W (W.alloc (.cells #[iA 0,iA 0,.string ⟨#[]⟩,iA 0] 40)):=(Fr.refl [] W).alloc _;obtain⟨t1,M1,-⟩:=h.fr F1;have y0:_=_:=hY.fr F1;have HC:Hid _:=fun (_:Unit)=>aWh M1;have HF:Hid _:=F1;have hk:=wan W (.cells #[iA 0,iA 0,.string ⟨#[]⟩,iA 0] 40);have hsz:W.heap.size<(W.alloc (.cells #[iA 0,iA 0,.string ⟨#[]⟩,iA 0] 40)).heap.size:=by simp
 generalize hW1:W.alloc (.cells #[iA 0,iA 0,.string ⟨#[]⟩,iA 0] 40)=W1 at *;obtain⟨B,hB⟩:=eXi (W.heap.size);rw[hB] at hk hsz;clear h M1 F1 hY;unfold stV at *;generalize s.st=a at *;generalize s.code=b at *;generalize s.w.out=c at *;generalize s.used=d at *;go_enter func11,ntmps11;go_wp2_with fail;refine (HC.out ()).mono ?_;rintro e W2 ⟨rfl,F2⟩;have k2:=(F2.block B hsz (by simp)).trans hk;obtain⟨⟨c0,c1,c2,c3⟩,fz⟩:=dT k2;have f0:=fz 0;have f1:=fz 1;have f2:=fz 2;have f3:=fz 3;have HB:Hid _:=xQ k2;have HF2:Hid _:=HF.out.trans F2;clear F2 hk k2 fz HC y0 hsz;go_wp2_with fail;refine bodyPost_ret (results_cell_row rfl _ _ B 40 #[iA (a:Nat),iA b,.string c,iA (d:Nat)] (0,0) _ rfl (HB.out _ _ _ _) underlying40 rfl (by kernel_rfl)) rfl ?_;have hB':W.heap.size≤B:=Nat.le_of_eq hB;exact⟨rfl,(((HF2.out.setCell (.inr hB') _).setCell (.inr hB') _).setCell (.inr hB') _).setCell (.inr hB') _⟩
theorem aPp (n:Int)(hn:n<0∨100000<n)(W:WL) :
  Calls prog 14 #[ptr Y,iA n] W fun e w=>e=.returned (stI 3)∧Fr [] W w:=by
 rcases hn with c | c
 ·go_enter func14,ntmps14;go_wp2_with fail;go_ret;exact⟨rfl,Fr.refl [] _⟩
 have c0:¬ n<0:=by omega
 go_enter func14,ntmps14;go_wp2_with fail;go_ret;exact⟨rfl,Fr.refl [] _⟩
end
section
variable {E:Env}{X Y:Nat}{g:Pl}{S0:St}{low:List Frm}{fr:Frm}{tag:NN}{W:WL}{N:Nat}
theorem aPq (hE:GoE E)(h:MM E X g (oV S0 low fr) W tag)(hY:GM Y X W)(hG:Mach.Good E S0)(hN:N≤100000)(hu:S0.used+N≤4611686018427387904)(h0:S0.st=0→S0.code=0∧Pr S0.frs∧S0.frs=low++[fr]∧hd S0.frs=some g.en)(hst9:S0.st≤9) :
  Calls prog 14 #[ptr Y,iA (N:Nat)] W fun e w=>e=.returned (stI 0)∧GoQ E X S0 N tag W (.returned cR) w:=by
 have HC:Hid _:=fun (_:Unit)=>aXq hE h hG (by omega) hu h0 hst9;have y0:_=_:=hY;have c0:¬ (N:Int)<0:=by omega
 have c1:¬ 100000<(N:Int):=by omega
 clear h hG hu h0 hY;go_enter func14,ntmps14;go_wp2_with fail;refine (HC.out ()).mono ?_;rintro e W2 ⟨rfl,hP⟩;have HP:Hid _:=hP;clear hP HC;go_wp2_with fail;go_ret;exact⟨rfl,rfl,HP.out⟩
end
section
variable {E:Env}{X Y:Nat}{g:Pl}{s:Ms}{W W':WL}{tag:NN}
def noKeys (W:WL) (e:Ending) (w:WL):Prop:=e=.returned (.tuple #[.slice none 0 0,.bool false])∧Fr [] W w
def aPa (W:WL) (L:LY) (x:Value) (e:Ending) (w:WL):Prop:=∃ v',e=.returned (.tuple #[v',x])∧Fr [] W w∧w.ownsRow W.heap.size 9 1 v' L.length (L.map .string)
theorem aFe (n:Int)(hn:n<0)(W:WL):Calls prog 40 #[ptr X,iA n] W (noKeys W):=by
 go_enter func40,ntmps40;go_wp2_with fail;refine bodyPost_ret (results_tmp2 rfl _ _ _) rfl ?_;exact⟨rfl,Fr.refl [] _⟩
theorem MM.avL (h:MM E X g s W tag):∃ o c,g.av=.slice o s.w.arrs.length c:=by
 obtain⟨h6,lv,R,mp,x,hx,h⟩:=h;have o:=(h.S.rows 13 h.lA).1;rw[h.rA] at o;simp only at o;rw[hx.2] at o;obtain⟨vo,vc,e⟩:=bF o;exact⟨vo,vc,e⟩
theorem aBz (h:MM E X g s W tag)(hn:s.w.arrs.length≤1000){n:Nat}(hi:s.w.arrs.length≤n):Calls prog 40 #[ptr X,iA (n:Nat)] W (noKeys W):=by
 obtain⟨o,c,hg⟩:=h.avL;have x9:=h.avc;rw[hg] at x9;have c0:¬ (n:Int)<0:=by omega
 have c1:(s.w.arrs.length:Int)≤n:=by omega
 clear h hg;generalize s.w.arrs.length=l at *;go_enter func40,ntmps40;go_wp2_with fail;refine bodyPost_ret (results_tmp2 rfl _ _ _) rfl ?_;exact⟨rfl,Fr.refl [] _⟩
theorem aFf (h:MM E X g s W tag)(hn:s.w.arrs.length≤1000){n:Nat}(hi:n<s.w.arrs.length)(hn2:(s.w.arrs.getD n []).length≤100000):Calls prog 40 #[ptr X,iA (n:Nat)] W (aPa W (aM (s.w.arrs.getD n [])) (.bool true)):=by
 obtain⟨ga,c,hg⟩:=h.avS hi;have x9:=h.avc;rw[hg] at x9;have c0:¬ (n:Int)<0:=by omega
 have c1:(n:Int)<s.w.arrs.length:=by omega
 have hkl:(aM (s.w.arrs.getD n [])).length=(s.w.arrs.getD n []).length:=List.length_map _;have HP:Hid _:=fun (_:Unit)=>by
  obtain⟨b,ov,c0,c1,hm,ow⟩:=h.arrAt hg hi;rw[← hkl] at ow;exact aBy ga (n*2) W c1 ow (by omega)
 clear h hg hn2 hkl;generalize aM (s.w.arrs.getD n [])=L at *;generalize s.w.arrs.length=l at *;go_enter func40,ntmps40;go_wp2_with fail;refine (HP.out ()).mono ?_;rintro e W3 ⟨v',rfl,F3,ow⟩;have HF:Hid _:=AI F3 ow;clear F3 ow HP;go_wp2_with fail;refine bodyPost_ret (results_tmp2 rfl _ _ _) rfl ?_;exact⟨v',rfl,HF.out.1,HF.out.2⟩
theorem C0 {n:Int}(H:Calls prog 40 #[ptr X,iA n] W (noKeys W))(hY:GM Y X W):Calls prog 22 #[ptr Y,iA n] W fun e w=>e=.returned (.tuple #[.slice none 0 0,iA 3])∧Fr [] W w:=by
 have HP:Hid _:=H;have y0:_=_:=hY;clear H hY;go_enter func22,ntmps22;go_wp2_with fail;refine Calls.mono HP.out ?_;rintro e W3 ⟨rfl,F3⟩;have HF:Hid _:=F3;clear F3 HP;go_wp2_with fail;refine bodyPost_ret (results_tmp2 rfl _ _ _) rfl ?_;exact⟨rfl,HF.out⟩
theorem aFg {n:Int}{L:LY} (H:Calls prog 40 #[ptr X,iA n] W (aPa W L (.bool true))) (hY:GM Y X W):Calls prog 22 #[ptr Y,iA n] W (aPa W L (iA 0)):=by
 have HP:Hid _:=H;have y0:_=_:=hY;clear H hY;go_enter func22,ntmps22;go_wp2_with fail;refine Calls.mono HP.out ?_;rintro e W3 ⟨v',rfl,F3,ow⟩;have HF:Hid _:=AI F3 ow;clear F3 ow HP;go_wp2_with fail;refine bodyPost_ret (results_tmp2 rfl _ _ _) rfl ?_;exact⟨v',rfl,HF.out.1,HF.out.2⟩
end
section
variable {E:Env}{X:Nat}{g:Pl}{s:Ms}{W W':WL}{tag tag':NN}
theorem MM.other (h:MM E X g s W tag)(os:W'.os=W.os)(tape:W'.tape=W.tape)(output:W'.output=W.output)(size:W.heap.size≤W'.heap.size)(hb:∀ k,k<W.heap.size→(k<6∨9≤tag k)→W'.heap[k]?=W.heap[k]?):∃ t,MM E X g s W' t∧(∀ k,k<W.heap.size→t k=tag k)∧∀ k,W.heap.size≤k→t k=6:=by
 obtain⟨t,⟨h6,lv,R,mp,x,hx,h⟩,K,hn⟩:=MM.box h (Fr.refl [] W)
 have k:K9 t W W':=⟨size,fun k hk ht=>hb k hk (ht.imp id fun c=>by rw[← K.ret k hk];omega)⟩
 have hc:Chg t [0,1,2,3,4,5,6,7,8] W W':=⟨os,tape,output,size,fun k hk ht=>hb k hk (.inr (by rw[← K.ret k hk];simp at ht;omega))⟩
 have hS:=h.S.chg (tag':=t) hc (fun _ _=>rfl) (fun i hi=>by simp;omega)
 refine⟨t,⟨Nat.le_trans h6 k.size,lv,R,mp,x,hx,{ h with
  S:=hS
  sta:=h.sta.k9 k h6
  wlk:=fun a b c ha hb hc=>by
   obtain⟨h1,h2,h3,ga,ca,lf,h4,h5,h6⟩:=h.wlk a b c ha hb hc
   exact⟨h1,h2,h3,ga,ca,lf,h4,h5,h6.k9 k⟩
  rcs:=h.rcs.k9 k
  drw:=h.drw.k9 k
  fld:=h.fld.k9 k }⟩,K.ret,hn⟩
def Sep (t u:NN) (W:WL):Prop:=∀ k,k<W.heap.size→(10≤t k→6≤k∧u k<9)∧(10≤u k→6≤k∧t k<9)
theorem Sep.swap {t u:NN}(h:Sep t u W):Sep u t W:=fun k hk=>(h k hk).symm
theorem MM.beside {X2:Nat}{g2:Pl}{s2:Ms}{u:NN} (h:MM E X2 g2 s2 W u) (hs:Sep tag u W) (K:Kp tag tag' W W'):∃ u',MM E X2 g2 s2 W' u'∧Sep tag' u' W'∧(∀ k,k<W.heap.size→u' k=u k)∧∀ k,W.heap.size≤k→u' k=6:=by
 obtain⟨u',M,hr,hn⟩:=h.other K.os K.tape K.output K.size fun k hk ht=>K.blk k hk (by
  rcases Nat.lt_or_ge (tag k) 10 with c | c
  ·exact c
  have:=(hs k hk).1 c;omega)
 refine⟨u',M,fun k hk=>?_,hr,hn⟩;rcases Nat.lt_or_ge k W.heap.size with c | c
 ·rw[K.ret k c,hr k c];exact hs k c
 rw[hn k c];have:=h.six;omega
theorem GM.kp {Y X:Nat}(h:GM Y X W)(ht:tag Y<10)(K:Kp tag tag' W W'):GM Y X W'∧tag' Y<10:=by
 have hl:Y<W.heap.size:=aB h;exact⟨(K.cell (p:=Ad Y 0) hl ht).trans h,by rw[K.ret Y hl];exact ht⟩
end
def Beg (a b:BA):Prop:=∃ x,bl b=bl a++x
theorem Beg.refl (a:BA):Beg a a:=⟨[],by simp⟩
theorem Beg.trans {a b c:BA}(h:Beg a b)(k:Beg b c):Beg a c:=by
 obtain⟨x,hx⟩:=h;obtain⟨y,hy⟩:=k;exact⟨x++y,by rw[hy,hx,List.append_assoc]⟩
theorem A0 (w:Wd):(nextR w).1.out=w.out:=by
 unfold Mach.nextR;split <;> rfl
theorem I8 (w:Wd)(n:Int)(s:BA):(bO w n s).1.out=w.out∧(bO w n s).2≤9∧(bO w n s).2≠2:=by
 unfold bO;split
 ·exact⟨rfl,by simp,by simp⟩
 split
 ·exact⟨rfl,by simp,by simp⟩
 split <;> exact⟨rfl,by simp,by simp⟩
theorem aLe (w:Wd)(n:Int):(dL w n).2≤9∧(dL w n).2≠2:=by
 unfold dL;split
 ·exact⟨by simp,by simp⟩
 split
 ·exact⟨by simp,by simp⟩
 split <;> exact⟨by simp,by simp⟩
theorem aMl (E:Env)(op:Nat)(x y:Int):(iR E op x y).2≤9∧(iR E op x y).2≠2:=by
 unfold iR;dsimp only
 repeat' split
 all_goals simp
theorem xV (w:Wd)(l:LY):Beg w.out (fN w l).1.out∧(fN w l).2≤9∧(fN w l).2≠2:=by
 unfold fN;split
 ·exact⟨Beg.refl _,by simp,by simp⟩
 refine⟨⟨joinF l++[10],?_⟩,by simp,by simp⟩;simp[bl]
theorem aQg (E:Env)(w:Wd)(locs:List Val)(op a b:Nat)(top:List aJ):Beg w.out (eff E w locs op a b top).w.out∧(eff E w locs op a b top).st≤9∧((eff E w locs op a b top).st≠2→(eff E w locs op a b top).code=0):=by
 have B:=Beg.refl w.out;unfold eff;split
 case h_8=>exact⟨B,(aLe _ _).1,fun _=>rfl⟩
 case h_9=>
  obtain⟨h1,h2,-⟩:=I8 w (top.getD 0 c0).v.n (aD E (top.getD 1 c0).v);exact⟨by simp only[Eff.off];rw[h1];exact B,h2,fun _=>rfl⟩
 all_goals first
  | exact⟨B,(aMl _ _ _ _).1,fun _=>rfl⟩
  | exact⟨B,by simp[Eff.put,Eff.bad,Eff.off],fun _=>rfl⟩
  | exact⟨by rw[show (Eff.put (nextR w).1 locs (whole (eZ (nextR w).2))).w.out=w.out from A0 w];exact B,by simp[Eff.put],fun _=>rfl⟩
  | exact⟨(xV w _).1,(xV w _).2.1,fun _=>rfl⟩
  | exact⟨B,by simp,fun h=>absurd rfl h⟩
  | (repeat' split) <;> exact⟨B,by simp[Eff.put,Eff.bad,Eff.off],fun _=>rfl⟩
section
variable {E:Env}{S D:St}{low:List Frm}{fr:Frm}{i:Stp}{rest top:List aJ}
def aDx (S:St):Prop:=S.st≤9∧(S.st≠2→S.code=0)
theorem aLk (hG:Mach.Good E S)(hst:S.st=0)(hT:aDx S)(hR:Ready E S low fr i rest top):aDx (does E S low fr i rest top)∧(does E S low fr i rest top).used=S.used+1∧Beg S.w.out (does E S low fr i rest top).w.out:=by
 obtain⟨hI,-,-⟩:=hG.inv hst;obtain⟨low',fr',i',rest',top',hR',hh,hfar,hgo,hm⟩:=hI.ready (E:=E) (s:=S);obtain⟨rfl,rfl,rfl,rfl,rfl⟩:=hR.unique hR';rw[hR.frs] at hI;have hc:S.code=0:=hT.2 (by omega);obtain⟨e1,e2,e3⟩:=aQg E S.w fr.locs i.op i.a i.b top;unfold Mach.does;split
 ·split
  ·exact⟨⟨by simp,fun _=>hc⟩,rfl,Beg.refl _⟩
  exact⟨⟨hT.1,fun _=>hc⟩,rfl,Beg.refl _⟩
 split
 ·rename_i h51
  rcases List.eq_nil_or_concat low with h0 | ⟨low2,g,h0⟩
  ·subst h0;have:=(hI.kinds 0 fr (by simp)).1 rfl;unfold fT at hm;rw[h51] at hm;simp[this] at hm
  have h0':low=low2++[g]:=by simpa using h0
  subst h0';simp only[List.getLast?_append,List.getLast?_singleton,Option.some_or,List.dropLast_concat];exact⟨⟨hT.1,fun _=>hc⟩,trivial,Beg.refl _⟩
 split
 ·unfold over;split
  ·exact⟨⟨by simp,fun _=>hc⟩,rfl,Beg.refl _⟩
  split
  ·refine⟨⟨hT.1,fun _=>hc⟩,rfl,?_⟩;show Beg S.w.out (nextR S.w).1.out;rw[A0];exact Beg.refl _
  exact⟨⟨hT.1,fun _=>hc⟩,rfl,Beg.refl _⟩
 split
 ·exact⟨⟨e2,e3⟩,rfl,e1⟩
 exact⟨⟨hT.1,fun _=>hc⟩,rfl,e1⟩
theorem Plays.told (hE:SmE E)(hM:ModOk E.mo){n:Nat}(hG:Mach.Good E S)(hT:aDx S)(h:Plays E n S D):aDx D∧S.used≤D.used∧D.used≤S.used+n∧(D.st=0→D.used=S.used+n)∧Beg S.w.out D.w.out:=by
 induction n generalizing S with
 | zero=>
  have e:S=D:=h;subst e;exact⟨hT,Nat.le_refl _,Nat.le_refl _,fun _=>rfl,Beg.refl _⟩
 | succ n ih=>
  rcases h with ⟨h1,h2⟩ | ⟨h1,low,fr,i,rest,top,h2,h3⟩
  ·subst h2;exact⟨hT,Nat.le_refl _,by omega,fun h=>absurd h h1,Beg.refl _⟩
  obtain⟨t1,t2,t3⟩:=aLk hG h1 hT h2;obtain⟨a1,a2,a3,a4,a5⟩:=ih (hG.does hE hM h1 h2) t1 h3;exact⟨a1,by omega,by omega,fun h=>by rw[a4 h];omega,t3.trans a5⟩
end
def Rst (E:Env) (X Y:Nat) (S:St) (W:WL) (tag:NN):Prop:=∃ g low fr,MM E X g (oV S low fr) W tag∧GM Y X W∧tag Y<10∧Mach.Good E S∧aDx S∧(S.st=0→Pr S.frs∧S.frs=low++[fr]∧hd S.frs=some g.en)
section
variable {E:Env}{X Y:Nat}{S:St}{W W':WL}{tag tag':NN}{N:Nat}
theorem Rst.fr (h:Rst E X Y S W tag)(F:Fr [] W W'):∃ t,Rst E X Y S W' t∧Kp tag t W W':=by
 obtain⟨g,low,fr,M,hY,hT,hG,r⟩:=h;obtain⟨t,M',K⟩:=M.fr F;obtain⟨y1,y2⟩:=hY.kp hT K;exact⟨t,⟨g,low,fr,M',y1,y2,hG,r⟩,K⟩
theorem Rst.box (h:Rst E X Y S W tag)(F:Fr [] W W'):∃ t,Rst E X Y S W' t∧Kp tag t W W'∧∀ b,W.heap.size≤b→t b=6:=by
 obtain⟨g,low,fr,M,hY,hT,hG,r⟩:=h;obtain⟨t,M',K,h6⟩:=M.box F;obtain⟨y1,y2⟩:=hY.kp hT K;exact⟨t,⟨g,low,fr,M',y1,y2,hG,r⟩,K,h6⟩
theorem Rst.good (h:Rst E X Y S W tag):Mach.Good E S∧aDx S:=by
 obtain⟨g,low,fr,M,hY,hT,hG,r,-⟩:=h;exact⟨hG,r⟩
theorem Rst.tell (h:Rst E X Y S W tag):Calls prog 11 #[ptr Y] W fun e w=>e=.returned (stV S.st S.code S.w.out S.used)∧Fr [] W w:=by
 obtain⟨g,low,fr,M,hY,hT,hG,r⟩:=h;exact aWi M hY
theorem Rst.go (hE:GoE E)(h:Rst E X Y S W tag)(hN:N≤100000)(hu:S.used+N≤4611686018427387904):Calls prog 14 #[ptr Y,iA (N:Nat)] W fun e w=>e=.returned (stI 0)∧∃ D t,Plays E N S D∧Rst E X Y D w t∧Kp tag t W w:=by
 obtain⟨g,low,fr,M,hY,hT,hG,r,q⟩:=h;refine (aPq hE M hY hG hN hu (fun h0=>⟨r.2 (by omega),q h0⟩) r.1).mono ?_;rintro e w ⟨he,-,D,g',s',t,hP,hD,M',K,e1,e2,e3,e4,e5⟩;obtain⟨y1,y2⟩:=hY.kp hT K;refine⟨he,D,t,hP,⟨g',s'.low,s'.fr,?_,y1,y2,hD,(Plays.told hE.sm hE.mod hG r hP).1,fun h0=>?_⟩,K⟩
 ·rw[show oV D s'.low s'.fr=s' by cases s';simp only at e1 e2 e3 e4;subst e1 e2 e3 e4;rfl];exact M'
 obtain⟨a,b,c,d⟩:=e5 h0;exact⟨c,a.symm,b⟩
theorem Rst.goAt (hE:GoE E)(h:Rst E X Y S W tag)(hN:N≤100000)(hu:S.used+N≤4611686018427387904){W1:WL}(F:Fr [] W W1){k:Nat}(hk:W.heap.size≤k)(hk1:k<W1.heap.size):Calls prog 14 #[ptr Y,iA (N:Nat)] W1 fun e w=>e=.returned (stI 0)∧(w.heap[k]?=W1.heap[k]?∧k<w.heap.size)∧∃ D t,Plays E N S D∧Rst E X Y D w t∧Kp tag t W w:=by
 obtain⟨t,R,K,h6⟩:=h.box F;refine (R.go hE hN hu).mono ?_;rintro e w ⟨he,D,t2,hP,R2,K2⟩;exact⟨he,⟨K2.blk k hk1 (by rw[h6 k hk];decide),Nll hk1 K2.size⟩,D,t2,hP,R2,K.trans K2⟩
theorem aLt {a b:BA}(h:Beg a b):a.size≤b.size∧b.extract 0 a.size=a:=by
 obtain⟨x,hx⟩:=h;have e:b=⟨a.data++x.toArray⟩:=by
  cases b;cases a;simp[bl] at hx ⊢;rw[← Array.toList_inj];simpa using hx
 subst e;constructor
 ·show a.data.size≤(a.data++x.toArray).size;simp
 apply ByteArray.ext;rw[ByteArray.data_extract];show (a.data++x.toArray).extract 0 a.data.size=a.data;simp
theorem j5 {a b:BA}(h:Beg a b)(ha:b.size≤1000)(W:WL):Calls prog 20 #[.string a,.string b] W fun e w=>e=.returned (.bool true)∧w=W:=by
 obtain⟨h1,h2⟩:=aLt h;have h1':(a.size:Int)≤b.size:=by omega
 clear h;go_enter func20,ntmps20;go_wp2_with fail;go_ret;exact⟨rfl,rfl⟩
end
section
variable {E:Env}{X Y:Nat}{S:St}{W W':WL}{tag tag':NN}{N:Nat}
theorem r7 (h:Rst E X Y S W tag){n:Int}(hn:n<0∨100000<n):Calls prog 10 #[ptr Y,iA n] W fun e w=>e=.returned (.bool true)∧Fr [] W w:=by
 have HC:Hid _:=fun (W1:WL) (F:Fr [] W W1)=>by
  obtain⟨t,R,-⟩:=h.fr F;exact R.tell
 have HG:Hid _:=fun (W1:WL)=>aPp (Y:=Y) n hn W1;have HF:Hid _:=Fr.refl [] W;unfold stV at HC;clear h;generalize S.st=a at *;generalize S.code=b at *;generalize S.w.out=c at *;generalize S.used=d at *;rcases hn with hn | hn
 all_goals
  try have hn0:¬ n<0:=by omega
  go_enter func10,ntmps10;go_wp2_with fail;refine (HC.out W HF.out).mono ?_;rintro e W1 ⟨rfl,F1⟩;have HF1:Hid _:=F1;clear F1;go_wp2_with fail;have FW2:Fr [] W1 (W1.alloc (.cells #[iA (a:Nat),iA b,.string c,iA (d:Nat)] 40)):=(Fr.refl [] W1).alloc _;have kW2:=wan W1 (.cells #[iA (a:Nat),iA b,.string c,iA (d:Nat)] 40);have lW2:W1.heap.size<(W1.alloc (.cells #[iA (a:Nat),iA b,.string c,iA (d:Nat)] 40)).heap.size:=by simp
  generalize W1.alloc (.cells #[iA (a:Nat),iA b,.string c,iA (d:Nat)] 40)=W2 at *;generalize W1.heap.size=B1 at *;have HF2:Hid _:=AI (HF1.out.trans FW2) (AI kW2 lW2);clear FW2 kW2 lW2 HF1;refine (HG.out W2).mono ?_;rintro e W3 ⟨rfl,F3⟩;have HF3:Hid _:=AI (HF2.out.1.trans F3) (AI ((F3.block B1 HF2.out.2.2 (by simp)).trans HF2.out.2.1) (Nll HF2.out.2.2 F3.size));clear F3 HF2 HG;go_wp2_with fail;refine (HC.out W3 HF3.out.1).mono ?_;rintro e W4 ⟨rfl,F4⟩;have HF4:Hid _:=AI (HF3.out.1.trans F4) (AI ((F4.block B1 HF3.out.2.2 (by simp)).trans HF3.out.2.1) (Nll HF3.out.2.2 F4.size));clear F4 HF3 HC;obtain⟨W5,hW5⟩:=eXi (W4.alloc (.cells #[iA (a:Nat),iA b,.string c,iA (d:Nat)] 40));have F5:=frA hW5
  have k5:W5.heap[W4.heap.size]?=some (.cells #[iA (a:Nat),iA b,.string c,iA (d:Nat)] 40):=by rw[← hW5];exact wan W4 _
  have k5':=(F5.block B1 HF4.out.2.2 (by simp)).trans HF4.out.2.1;obtain⟨⟨c0,c1,c2,c3⟩,-⟩:=dT k5';obtain⟨⟨d0,d1,d2,d3⟩,-⟩:=dT k5;have HF5:Hid _:=HF4.out.1.trans F5;clear F5 k5 k5' HF4;go_wp2_with fail;go_ret;exact⟨rfl,HF5.out⟩
theorem aAp (hE:GoE E)(h:Rst E X Y S W tag)(hN:N≤100000)(hu:S.used+N≤4611686018427387904)(hst:S.st≠0):Calls prog 10 #[ptr Y,iA (N:Nat)] W (fun e w=>e=.returned (.bool true)∧∃ D t,Plays E N S D∧Rst E X Y D w t∧Kp tag t W w):=by
 have HC:Hid _:=h.tell;have HG:Hid (∀ (W1:WL) (k:Nat),Fr [] W W1→W.heap.size≤k→k<W1.heap.size→Calls prog 14 #[ptr Y,iA (N:Nat)] W1 fun e w=>e=.returned (stI 0)∧(w.heap[k]?=W1.heap[k]?∧k<w.heap.size)∧∃ D t,Plays E N S D∧Rst E X Y D w t∧Kp tag t W w):=fun W1 k F hk hk1=>h.goAt hE hN hu F hk hk1;clear h;have hn0:¬ (N:Int)<0:=by omega
 have hn1:¬ 100000<(N:Int):=by omega
 unfold stV at HC;generalize hs1:S.st=a1 at *;generalize hs2:S.code=a2 at *;generalize hs3:S.w.out=a3 at *;generalize hs4:S.used=a4 at *;have HS:Hid _:=AI hs1 (AI hs2 (AI hs3 hs4));clear hs1 hs2 hs3 hs4;go_enter func10,ntmps10;go_wp2_with fail;refine Calls.mono HC.out ?_;rintro e W1 ⟨rfl,F1⟩;have HF1:Hid _:=F1;clear F1 HC;go_wp2_with fail;have FW2:Fr [] W1 (W1.alloc (.cells #[iA (a1:Nat),iA a2,.string a3,iA (a4:Nat)] 40)):=(Fr.refl [] W1).alloc _;have kW2:=wan W1 (.cells #[iA (a1:Nat),iA a2,.string a3,iA (a4:Nat)] 40);have lW2:W1.heap.size<(W1.alloc (.cells #[iA (a1:Nat),iA a2,.string a3,iA (a4:Nat)] 40)).heap.size:=by simp
 generalize W1.alloc (.cells #[iA (a1:Nat),iA a2,.string a3,iA (a4:Nat)] 40)=W2 at *;have hB1:W.heap.size≤W1.heap.size:=HF1.out.size;generalize W1.heap.size=B1 at *;have HF2:Hid _:=kW2;refine (HG.out W2 B1 (HF1.out.trans FW2) hB1 lW2).mono ?_;clear FW2 kW2 HF1 HG hB1 lW2;rintro e W3 ⟨rfl,⟨k3,l3⟩,D,t3,hP,R3,K3⟩;have HF3:Hid _:=AI (k3.trans HF2.out) l3;have HR:=R3.tell;unfold stV at HR;have hD:D=S:=Plays.ended hP (by rw[HS.out.1];exact hst);rw[hD,HS.out.1,HS.out.2.1,HS.out.2.2.1,HS.out.2.2.2] at HR;clear hD;replace HR:Hid _:=HR;have HB:Hid _:=fun (W5:WL) (F:Fr [] W3 W5)=>R3.fr F;have HK:Hid _:=AI hP K3;clear k3 l3 hP R3 K3 HF2;have hst':¬ (a1:Int)=0:=by omega
 go_wp2_with fail;refine Calls.mono HR.out ?_;rintro e W4 ⟨rfl,F4⟩;obtain⟨W5,hW5⟩:=eXi (W4.alloc (.cells #[iA (a1:Nat),iA a2,.string a3,iA (a4:Nat)] 40));have F5:=frA hW5
 have k5:W5.heap[W4.heap.size]?=some (.cells #[iA (a1:Nat),iA a2,.string a3,iA (a4:Nat)] 40):=by rw[← hW5];exact wan W4 _
 have F6:Fr [] W3 W5:=F4.trans F5;have k5':=(F6.block B1 HF3.out.2 (by simp)).trans HF3.out.1;obtain⟨⟨c0,c1,c2,c3⟩,-⟩:=dT k5';obtain⟨⟨d0,d1,d2,d3⟩,-⟩:=dT k5;have HF5:Hid _:=F6;clear F5 k5 k5' HF3 F4 F6 HR;go_wp2_with fail;go_ret;obtain⟨t5,R5,K5⟩:=HB.out W5 HF5.out;exact⟨rfl,D,t5,HK.out.1,R5,HK.out.2.trans K5⟩
theorem aAo (hE:GoE E)(h:Rst E X Y S W tag)(hN:N≤100000)(hu:S.used+N≤4611686018427387904)(hst:S.st=0):Calls prog 10 #[ptr Y,iA (N:Nat)] W (fun e w=>e=.returned (.bool true)∧∃ D t,Plays E N S D∧Rst E X Y D w t∧Kp tag t W w):=by
 have HC:Hid _:=h.tell;have HG:Hid (∀ (W1:WL) (k:Nat),Fr [] W W1→W.heap.size≤k→k<W1.heap.size→Calls prog 14 #[ptr Y,iA (N:Nat)] W1 fun e w=>e=.returned (stI 0)∧(w.heap[k]?=W1.heap[k]?∧k<w.heap.size)∧∃ D t,Plays E N S D∧Rst E X Y D w t∧Kp tag t W w):=fun W1 k F hk hk1=>h.goAt hE hN hu F hk hk1;replace hst:Hid _:=hst;obtain⟨hgood,htold⟩:=h.good;have HT:Hid (∀ D,Plays E N S D→_):=fun (D:St) (hP:Plays E N S D)=>Plays.told hE.sm hE.mod hgood htold hP;clear htold hgood;clear h;have hn0:¬ (N:Int)<0:=by omega
 have hn1:¬ 100000<(N:Int):=by omega
 unfold stV at HC;generalize hs1:S.st=a1 at *;generalize hs2:S.code=a2 at *;generalize hs3:S.w.out=a3 at *;generalize hs4:S.used=a4 at *;have HS:Hid _:=AI hs1 (AI hs2 (AI hs3 hs4));clear hs1 hs2 hs3 hs4;go_enter func10,ntmps10;go_wp2_with fail;refine Calls.mono HC.out ?_;rintro e W1 ⟨rfl,F1⟩;have HF1:Hid _:=F1;clear F1 HC;go_wp2_with fail;have FW2:Fr [] W1 (W1.alloc (.cells #[iA (a1:Nat),iA a2,.string a3,iA (a4:Nat)] 40)):=(Fr.refl [] W1).alloc _;have kW2:=wan W1 (.cells #[iA (a1:Nat),iA a2,.string a3,iA (a4:Nat)] 40);have lW2:W1.heap.size<(W1.alloc (.cells #[iA (a1:Nat),iA a2,.string a3,iA (a4:Nat)] 40)).heap.size:=by simp
 generalize W1.alloc (.cells #[iA (a1:Nat),iA a2,.string a3,iA (a4:Nat)] 40)=W2 at *;have hB1:W.heap.size≤W1.heap.size:=HF1.out.size;generalize W1.heap.size=B1 at *;have HF2:Hid _:=kW2;refine (HG.out W2 B1 (HF1.out.trans FW2) hB1 lW2).mono ?_;clear FW2 kW2 HF1 HG hB1 lW2;rintro e W3 ⟨rfl,⟨k3,l3⟩,D,t3,hP,R3,K3⟩;have HF3:Hid _:=AI (k3.trans HF2.out) l3;have HR:=R3.tell;unfold stV at HR;obtain⟨⟨t1,t2⟩,t3',t4,t5,t6⟩:=HT.out D hP;have t7:=R3.good.1.w.out;generalize D.st=b1 at *;generalize D.code=b2 at *;generalize D.w.out=b3 at *;generalize D.used=b4 at *;have HT6:Hid (∀ W:WL,Calls prog 20 #[.string a3,.string b3] W fun e w=>e=.returned (.bool true)∧w=W):=j5 t6 t7;clear t6 HT;replace HR:Hid _:=HR;have HB:Hid _:=fun (W5:WL) (F:Fr [] W3 W5)=>R3.fr F;have HK:Hid _:=AI hP K3;clear k3 l3 hP R3 K3 HF2;have hst':((a1:Int)!=0)=false:=by have:=hst.out;simp[this]
 have g1:¬ (b4:Int)<a4:=by omega
 have g2:¬ ((a4:Int)+N)<b4:=by omega
 have g3:IntKind.i64.wrap ((a4:Int)+N)=(a4:Int)+N:=by rw[IntKind.wrap_i64];omega
 have g5:¬ 1000<(b3.size:Int):=by omega
 rcases Decidable.em (b1=0) with c | c
 ·subst c;have t8:((b4:Int)!=(a4:Int)+N)=false:=by have:=t5 rfl;simp;omega
  have hb2:b2=0:=t2 (by decide);subst hb2;clear t5 t2 t1 t3' t4;go_wp2_with fail;refine Calls.mono HR.out ?_;rintro e W4 ⟨rfl,F4⟩;obtain⟨W5,hW5⟩:=eXi (W4.alloc (.cells #[iA 0,iA 0,.string b3,iA (b4:Nat)] 40));have F5:=frA hW5
  have k5:W5.heap[W4.heap.size]?=some (.cells #[iA 0,iA 0,.string b3,iA (b4:Nat)] 40):=by rw[← hW5];exact wan W4 _
  have F6:Fr [] W3 W5:=F4.trans F5;have k5':=(F6.block B1 HF3.out.2 (by simp)).trans HF3.out.1;obtain⟨⟨c0,c1,c2,c3⟩,-⟩:=dT k5';obtain⟨⟨d0,d1,d2,d3⟩,-⟩:=dT k5;have HF5:Hid _:=F6;clear F5 k5 k5' HF3 F4 F6 HR;go_wp2_with fail;refine (HT6.out W5).mono ?_;rintro e W6 ⟨rfl,hW6⟩;subst hW6;clear HT6;go_wp2_with fail;go_ret;obtain⟨t5,R5,K5⟩:=HB.out W6 HF5.out;exact⟨rfl,D,t5,HK.out.1,R5,HK.out.2.trans K5⟩
 rcases Decidable.em (b1=2) with c2 | c2
 ·subst c2;clear t5 t2 t1 t3' t4 c;go_wp2_with fail;refine Calls.mono HR.out ?_;rintro e W4 ⟨rfl,F4⟩;obtain⟨W5,hW5⟩:=eXi (W4.alloc (.cells #[iA 2,iA b2,.string b3,iA (b4:Nat)] 40));have F5:=frA hW5
  have k5:W5.heap[W4.heap.size]?=some (.cells #[iA 2,iA b2,.string b3,iA (b4:Nat)] 40):=by rw[← hW5];exact wan W4 _
  have F6:Fr [] W3 W5:=F4.trans F5;have k5':=(F6.block B1 HF3.out.2 (by simp)).trans HF3.out.1;obtain⟨⟨c0,c1,c2,c3⟩,-⟩:=dT k5';obtain⟨⟨d0,d1,d2,d3⟩,-⟩:=dT k5;have HF5:Hid _:=F6;clear F5 k5 k5' HF3 F4 F6 HR;go_wp2_with fail;refine (HT6.out W5).mono ?_;rintro e W6 ⟨rfl,hW6⟩;subst hW6;clear HT6;go_wp2_with fail;go_ret;obtain⟨t5,R5,K5⟩:=HB.out W6 HF5.out;exact⟨rfl,D,t5,HK.out.1,R5,HK.out.2.trans K5⟩
 have hb2:b2=0:=t2 c2;subst hb2;have g6:((b1:Int)==0)=false:=by simp;omega
 have g7:((b1:Int)==2)=false:=by simp;omega
 have g8:¬ 9<(b1:Int):=by omega
 have g9:¬ (b1:Int)<0:=by omega
 clear t5 t2 t1 t3' t4 c c2;go_wp2_with fail;refine Calls.mono HR.out ?_;rintro e W4 ⟨rfl,F4⟩;obtain⟨W5,hW5⟩:=eXi (W4.alloc (.cells #[iA (b1:Nat),iA 0,.string b3,iA (b4:Nat)] 40));have F5:=frA hW5
 have k5:W5.heap[W4.heap.size]?=some (.cells #[iA (b1:Nat),iA 0,.string b3,iA (b4:Nat)] 40):=by rw[← hW5];exact wan W4 _
 have F6:Fr [] W3 W5:=F4.trans F5;have k5':=(F6.block B1 HF3.out.2 (by simp)).trans HF3.out.1;obtain⟨⟨c0,c1,c2,c3⟩,-⟩:=dT k5';obtain⟨⟨d0,d1,d2,d3⟩,-⟩:=dT k5;have HF5:Hid _:=F6;clear F5 k5 k5' HF3 F4 F6 HR;go_wp2_with fail;refine (HT6.out W5).mono ?_;rintro e W6 ⟨rfl,hW6⟩;subst hW6;clear HT6;go_wp2_with fail;go_ret;obtain⟨t5,R5,K5⟩:=HB.out W6 HF5.out;exact⟨rfl,D,t5,HK.out.1,R5,HK.out.2.trans K5⟩
end
def oC (W:WL) (v:Value) (L:LY):Prop:=
 (L=[]∧v=.slice none 0 0)∨∃ g cap,v=.slice (some ⟨g,0,none⟩) L.length cap∧L.length≤cap∧g<W.heap.size∧∀ (i:Nat) (x:BA),L[i]?=some x→W.cell? ⟨g,i,none⟩=some (.string x)
theorem oC.of_own {W:WL}{b:Nat}{v:Value}{L:LY} (ow:W.ownsRow b 9 1 v L.length (L.map .string)):oC W v L:=by
 rcases ow.2 with ⟨hv,h0⟩ | ⟨g,cap,cur,hv,hb,hg,hn,hcm,hcs,hx⟩
 ·exact .inl ⟨by simpa using h0,hv⟩
 subst hv;exact .inr ⟨g,cap,rfl,by simpa using hn,(Age.1 hg).1,fun i x hi=>aF ow (by rw[List.getElem?_map,hi];rfl)⟩
theorem oC.fr {W W':WL}{v:Value}{L:LY} (h:oC W v L) (F:Fr [] W W'):oC W' v L:=by
 rcases h with h | ⟨g,cap,h1,h2,h3,h4⟩
 ·exact .inl h
 exact .inr ⟨g,cap,h1,h2,Nll h3 F.size,fun i x hi=>(F.cell (p:=Ad g i) h3 (by simp)).trans (h4 i x hi)⟩
theorem aEj (ao bo:OA)(c d:Nat)(w:WL):Calls prog 23 #[.slice ao 0 c,.slice bo 0 d] w fun e w'=>e=.returned (.bool true)∧w'=w:=by
 go_enter func23,ntmps23;go_wp2
 go_loop [5] (fun i=>i=iA 0) (fun _=>0)
 case atStart=>exact rfl
 case round=>
  subst hrel;go_wp2;go_ret;exact⟨rfl,rfl⟩
theorem aAa (L:LY)(g h c d:Nat)(w:WL)(hn:L.length≤1000)(hc:L.length≤c)(hd:L.length≤d)
  (h1:∀ (i:Nat) (x:BA),L[i]?=some x→w.cell? (Ad g i)=some (.string x)) (h2:∀ (i:Nat) (x:BA),L[i]?=some x→w.cell? (Ad h i)=some (.string x)) :
  Calls prog 23 #[.slice (some (Ad g 0)) L.length c,.slice (some (Ad h 0)) L.length d] w fun e w'=>e=.returned (.bool true)∧Fr [] w w':=by
 have H1:Hid _:=h1;have H2:Hid _:=h2;clear h1 h2;go_enter func23,ntmps23;go_wp2
 go_loopw [5] (fun i wr=>∃ k:Nat,k≤L.length∧i=iA k∧Fr [] w wr∧wr.heap=w.heap) (fun i _=>L.length-(intOf i).toNat)
 case atStart=>exact⟨0,by omega,rfl,Fr.refl _ _,rfl⟩
 case round=>
  obtain⟨k,hk,rfl,f1,hh⟩:=hrel;by_cases hlt:k<L.length
  ·have g1:(k:Int)<L.length:=by omega
   obtain⟨x,hx⟩:∃ x,L[k]?=some x:=⟨_,Lge hlt⟩;have c1:wr.cell? (Ad g k)=some (.string x):=by rw[← H1.out k x hx];unfold World.cell?;rw[hh]
   have c2:wr.cell? (Ad h k)=some (.string x):=by rw[← H2.out k x hx];unfold World.cell?;rw[hh]
   clear hx;go_wp2;go_region;go_wp2;exact⟨⟨k+1,by omega,by go_num,f1.drew,hh⟩,by simp[intOf];omega⟩
  have g1:¬ ((k:Int)<L.length):=by omega
  go_wp2;go_ret;exact⟨rfl,f1⟩
theorem aWn (L:LY)(v v':Value)(w:WL)(hn:L.length≤1000)(h1:oC w v L)(h2:oC w v' L):Calls prog 23 #[v,v'] w fun e w'=>e=.returned (.bool true)∧Fr [] w w':=by
 by_cases h0:L=[]
 ·subst h0;obtain⟨a,c,rfl⟩:∃ a c,v=.slice a 0 c:=by
   rcases h1 with ⟨_,h⟩ | ⟨g,cap,h,_⟩
   ·exact⟨_,_,h⟩
   exact⟨_,_,h⟩
  obtain⟨b,d,rfl⟩:∃ a c,v'=.slice a 0 c:=by
   rcases h2 with ⟨_,h⟩ | ⟨g,cap,h,_⟩
   ·exact⟨_,_,h⟩
   exact⟨_,_,h⟩
  refine (aEj a b c d w).mono ?_;rintro e w' ⟨rfl,rfl⟩;exact⟨rfl,Fr.refl _ _⟩
 rcases h1 with ⟨h,_⟩ | ⟨g,c,rfl,hc,_,h1⟩
 ·exact absurd h h0
 rcases h2 with ⟨h,_⟩ | ⟨h,d,rfl,hd,_,h2⟩
 ·exact absurd h h0
 exact aAa L g h c d w hn hc hd h1 h2
def aVj (E:Env) (X Y:Nat) (S:St) (tag:NN) (W:WL) (n:Nat) (w:WL):Prop:=∃ D t,Plays E n S D∧Rst E X Y D w t∧Kp tag t W w
section
variable {E:Env}{X Y:Nat}{S:St}{W:WL}{tag tag':NN}
theorem aJk (hE:GoE E)(h:Rst E X Y S W tag)(n:Int)(hu:S.used+100000≤4611686018427387904):Calls prog 10 #[ptr Y,iA n] W fun e w=>e=.returned (.bool true)∧aVj E X Y S tag W (if 0<n∧n≤100000 then n.toNat else 0) w:=by
 have hno:∀ w,Fr [] W w→aVj E X Y S tag W 0 w:=fun w F=>by
  obtain⟨t,R,K⟩:=h.fr F;exact⟨S,t,rfl,R,K⟩
 rcases Int.lt_or_le n 0 with c | c
 ·rw[if_neg (by omega)];exact (r7 h (.inl c)).mono fun e w hw=>⟨hw.1,hno w hw.2⟩
 rcases Int.lt_or_le 100000 n with c2 | c2
 ·rw[if_neg (by omega)];exact (r7 h (.inr c2)).mono fun e w hw=>⟨hw.1,hno w hw.2⟩
 obtain⟨N,rfl⟩:=Int.eq_ofNat_of_zero_le c;have e:(if 0<(N:Int)∧(N:Int)≤100000 then (N:Int).toNat else 0)=N:=by
  split <;> omega
 rw[e];by_cases hst:S.st=0
 ·exact (aAo hE h (by omega) (by omega) hst).mono fun e w hw=>⟨hw.1,hw.2⟩
 exact (aAp hE h (by omega) (by omega) hst).mono fun e w hw=>⟨hw.1,hw.2⟩
def AtI (E:Env) (X Y:Nat) (S:St) (tag:NN) (W:WL) (T k:Nat) (w:WL):Prop:=∃ m,m+k=T∧aVj E X Y S tag W m w
theorem AtI.step (hE:GoE E)(hG:Mach.Good E S)(hT:aDx S){T:Nat}(hu:S.used+T≤4611686018427387904){k j:Nat}(hj:j≤100000)(hjk:j≤k){w:WL}(h:AtI E X Y S tag W T k w):Calls prog 14 #[ptr Y,iA (j:Nat)] w fun e w'=>e=.returned (stI 0)∧AtI E X Y S tag W T (k-j) w':=by
 obtain⟨m,hm,D,t,hP,R,K⟩:=h;obtain⟨-,a2,a3,-⟩:=Plays.told hE.sm hE.mod hG hT hP;refine (R.go hE hj (by omega)).mono ?_;rintro e w' ⟨he,D2,t2,hP2,R2,K2⟩;exact⟨he,m+j,by omega,D2,t2,hP.append hP2,R2,K.trans K2⟩
theorem aGt (hE:GoE E)(h:Rst E X Y S W tag)(T:Nat)(hu:S.used+T≤4611686018427387904):Calls prog 12 #[ptr Y,iA (T:Nat)] W fun e w=>e=.returned (.bool true)∧aVj E X Y S tag W T w:=by
 have J0:Hid (AtI E X Y S tag W T T W):=⟨0,by omega,S,tag,rfl,h,Kp.refl _ _⟩;have HS:Hid (∀ (k j:Nat) (w:WL),j≤100000→j≤k→AtI E X Y S tag W T k w→Calls prog 14 #[ptr Y,iA (j:Nat)] w fun e w'=>e=.returned (stI 0)∧AtI E X Y S tag W T (k-j) w'):=fun k j w h1 h2 h3=>h3.step hE h.good.1 h.good.2 hu h1 h2;clear h;go_enter func12,ntmps12;go_wp2_with fail
 go_loopw [1] (fun q wr=>∃ k:Nat,k≤T∧q=iA k∧Hid (AtI E X Y S tag W T k wr)) (fun q _=>(intOf q).toNat)
 case atStart=>exact⟨T,by omega,rfl,J0⟩
 case round=>
  clear J0;obtain⟨k,hk,rfl,J⟩:=hrel;by_cases hlt:0<k
  ·have g1:0<(k:Int):=by omega
   by_cases hb:100000<k
   ·have g2:100000<(k:Int):=by omega
    have HC:Hid _:=HS.out k 100000 wr (by omega) (by omega) J.out;clear HS J;have g3:IntKind.i64.wrap ((k:Int)-100000)=((k-100000:Nat):Int):=by rw[IntKind.wrap_i64];omega
    go_wp2_with fail;refine Calls.mono HC.out ?_;rintro e W2 ⟨rfl,J⟩;have J2:Hid _:=J;clear J HC;go_wp2_with fail;exact⟨⟨k-100000,by omega,rfl,J2⟩,by simp[intOf];omega⟩
   have g2:¬ 100000<(k:Int):=by omega
   have HC:Hid _:=HS.out k k wr (by omega) (by omega) J.out;clear HS J;have g3:IntKind.i64.wrap ((k:Int)-k)=((k-k:Nat):Int):=by rw[IntKind.wrap_i64];omega
   go_wp2_with fail;refine Calls.mono HC.out ?_;rintro e W2 ⟨rfl,J⟩;have J2:Hid _:=J;clear J HC;go_wp2_with fail;exact⟨⟨k-k,by omega,by go_num,J2⟩,by simp[intOf];omega⟩
  have e0:k=0:=by omega
  subst e0;go_wp2_with fail;go_ret;obtain⟨m,hm,r⟩:=J.out;have:m=T:=by omega
  subst this;exact⟨rfl,r⟩
end
theorem aZb (w:WL):Sem.run prog (binOp BinOp.eql 22 (.slice none 0 0) (.slice none 0 0)) w=.ok (.bool true) w:=by
 kernel_rfl
section
variable {E:Env}{X Y X2 Y2:Nat}{S D:St}{W:WL}{tag u:NN}
theorem Rst.keys (h:Rst E X Y S W tag)(hl:E.mo.arrs.toNat≤1000){W1:WL}(F:Fr [] W W1){n:Nat}(hn:n<E.mo.arrs.toNat):(aM (S.w.arrs.getD n [])).length≤30∧Calls prog 22 #[ptr Y,iA (n:Nat)] W1 (fun e w=>∃ v',e=.returned (.tuple #[v',iA 0])∧Fr [] W1 w∧oC w v' (aM (S.w.arrs.getD n []))):=by
 obtain⟨t,⟨g,low,fr,M,hY,hT,hG,r⟩,-⟩:=h.fr F;have ha:=hG.arrs;have hA:=kU hG.w.arrs n;have hk:(S.w.arrs.getD n []).length≤30:=hA.len;refine⟨by show (List.map _ _).length≤30;rw[List.length_map];exact hk,?_⟩;refine (aFg (aFf (s:=oV S low fr) M (by show S.w.arrs.length≤1000;omega) (by show n<S.w.arrs.length;omega) (by show (S.w.arrs.getD n []).length≤_;omega)) hY).mono ?_;rintro e w ⟨v',he,F1,ow⟩;exact⟨v',he,F1,oC.of_own ow⟩
theorem Rst.noKeys (h:Rst E X Y S W tag)(hl:E.mo.arrs.toNat≤1000){W1:WL}(F:Fr [] W W1):Calls prog 22 #[ptr Y,iA (E.mo.arrs.toNat:Nat)] W1 (fun e w=>e=.returned (.tuple #[.slice none 0 0,iA 3])∧Fr [] W1 w):=by
 obtain⟨t,⟨g,low,fr,M,hY,hT,hG,r⟩,-⟩:=h.fr F;have ha:=hG.arrs;exact C0 (aBz (s:=oV S low fr) M (by show S.w.arrs.length≤1000;omega) (by show S.w.arrs.length≤_;omega)) hY
theorem Rst.lowKeys (h:Rst E X Y S W tag){W1:WL}(F:Fr [] W W1):Calls prog 22 #[ptr Y,iA (-1)] W1 (fun e w=>e=.returned (.tuple #[.slice none 0 0,iA 3])∧Fr [] W1 w):=by
 obtain⟨t,⟨g,low,fr,M,hY,hT,hG,r⟩,-⟩:=h.fr F;exact C0 (aFe (-1) (by decide) W1) hY
theorem L5 (h:Rst E X Y S W tag)(k:Rst E X2 Y2 S W u)(hl:E.mo.arrs.toNat≤1000):Calls prog 13 #[ptr Y,ptr Y2,iA (E.mo.arrs.toNat:Nat)] W fun e w=>e=.returned (.bool true)∧Fr [] W w:=by
 have HL:Hid (∀ (W1:WL) (n:Nat),Fr [] W W1→n<E.mo.arrs.toNat→(aM (S.w.arrs.getD n [])).length≤30∧Calls prog 22 #[ptr Y,iA (n:Nat)] W1 (fun e w=>∃ v',e=.returned (.tuple #[v',iA 0])∧Fr [] W1 w∧oC w v' (aM (S.w.arrs.getD n [])))):=fun W1 n F hn=>h.keys hl F hn;have HK:Hid (∀ (W1:WL) (n:Nat),Fr [] W W1→n<E.mo.arrs.toNat→(aM (S.w.arrs.getD n [])).length≤30∧Calls prog 22 #[ptr Y2,iA (n:Nat)] W1 (fun e w=>∃ v',e=.returned (.tuple #[v',iA 0])∧Fr [] W1 w∧oC w v' (aM (S.w.arrs.getD n [])))):=fun W1 n F hn=>k.keys hl F hn;have HN:Hid (∀ (W1:WL),Fr [] W W1→Calls prog 22 #[ptr Y,iA (E.mo.arrs.toNat:Nat)] W1 (fun e w=>e=.returned (.tuple #[.slice none 0 0,iA 3])∧Fr [] W1 w)):=fun W1 F=>h.noKeys hl F;have HM:Hid (∀ (W1:WL),Fr [] W W1→Calls prog 22 #[ptr Y,iA (-1)] W1 (fun e w=>e=.returned (.tuple #[.slice none 0 0,iA 3])∧Fr [] W1 w)):=fun W1 F=>h.lowKeys F;clear h k;generalize E.mo.arrs.toNat=N at *;have J0:Hid (Fr [] W W):=Fr.refl [] W;go_enter func13,ntmps13;go_wp2_with fail
 go_loopw [7] (fun q wr=>∃ k:Nat,k≤N∧q=iA k∧Hid (Fr [] W wr)) (fun q _=>N-(intOf q).toNat)
 case atStart=>exact⟨0,by omega,rfl,J0⟩
 case round=>
  clear J0;obtain⟨k,hk,rfl,J⟩:=hrel;by_cases hlt:k<N
  ·have g1:(k:Int)<N:=by omega
   have g2:IntKind.i64.wrap ((k:Int)+1)=((k+1:Nat):Int):=by rw[IntKind.wrap_i64];omega
   obtain⟨hk30,HC⟩:=HL.out wr k J.out hlt;have HC1:Hid _:=HC;have HK1:Hid (∀ (W1:WL),Fr [] W W1→Calls prog 22 #[ptr Y2,iA (k:Nat)] W1 (fun e w=>∃ v',e=.returned (.tuple #[v',iA 0])∧Fr [] W1 w∧oC w v' (aM (S.w.arrs.getD k [])))):=fun W1 F=>(HK.out W1 k F hlt).2;clear HC HL HK HN HM;generalize aM (S.w.arrs.getD k [])=L at *;go_wp2_with fail;refine Calls.mono HC1.out ?_;rintro e W1 ⟨v1,rfl,F1,s1⟩;have HF1:Hid _:=AI (J.out.trans F1) s1;clear F1 s1 HC1;go_wp2_with fail;refine Calls.mono (HK1.out W1 HF1.out.1) ?_;rintro e W2 ⟨v2,rfl,F2,s2⟩;have HF2:Hid _:=AI (HF1.out.1.trans F2) (AI (HF1.out.2.fr F2) s2);clear F2 s2 HF1 HK1;have HS:Hid _:=aWn L v1 v2 W2 (by omega) HF2.out.2.1 HF2.out.2.2;obtain⟨o1,q1,rfl⟩:∃ o c,v1=.slice o L.length c:=by
    rcases HF2.out.2.1 with ⟨rfl,h⟩ | ⟨g,cap,h,-⟩
    ·exact⟨_,_,h⟩
    exact⟨_,_,h⟩
   have g3:¬ 30<(L.length:Int):=by omega
   have HF3:Hid _:=HF2.out.1;clear HF2;go_wp2_with fail;refine Calls.mono HS.out ?_;rintro e W3 ⟨rfl,F3⟩;have HF4:Hid _:=HF3.out.trans F3;clear F3 HF3 HS;go_wp2_with fail;exact⟨⟨k+1,by omega,by go_num,HF4⟩,by simp[intOf];omega⟩
  have e0:k=N:=by omega
  subst e0;clear HL HK hlt hk;go_wp2_with fail;refine Calls.mono (HN.out wr J.out) ?_;rintro e W1 ⟨rfl,F1⟩;have HF1:Hid _:=J.out.trans F1;clear F1 HN;go_wp2_with fail;refine Calls.mono (HM.out W1 HF1.out) ?_;rintro e W2 ⟨rfl,F2⟩;have HF2:Hid _:=HF1.out.trans F2;clear F2 HM;have hnil:=aZb W2;go_wp2_with fail;go_ret;exact⟨rfl,HF2.out⟩
end
end Go.Proofs.YtlokkgajpjafmaaGreatDoor
