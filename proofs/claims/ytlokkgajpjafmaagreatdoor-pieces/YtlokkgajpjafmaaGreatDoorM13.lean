import Derived.Test.YtlokkgajpjafmaaGreatDoorM12
set_option linter.unusedSimpArgs false
set_option linter.unusedVariables false
set_option maxRecDepth 100000
set_option maxHeartbeats 40000000
open _root_.Go.Proofs.Tryz
namespace Go.Proofs.YtlokkgajpjafmaaGreatDoor
open Go.RowKit
open Wire Flow Mach
section
variable {E:Env}{X:Nat}{g:Pl}{s:Ms}{W W':WL}{tag:NN}
theorem MM.compare (hE:aU E)(h:MM E X g s W tag){op:Nat}(hop:op=29∨op=30∨op=31∨op=32∨op=33∨op=34){l:List aJ}{u v:Val} (hs:s.fr.stk=l++[cv u,cv v]) (hl:s.fr.stk.length≤1024) (hu:SmV u) (hv:SmV v) :
  Calls prog 69 #[fp g s,.int .u8 (op:Nat)] W (MP E X g (aC s (l++[cv (whole (eZ (aDa op (aQm E u v))))])) tag W cR):=by
 have hm:=hmX
 obtain⟨e1,e2,hl2,hl3⟩:=h.pop2 hs hl;have HP1:Hid _:=fun (_:Unit)=>h.popV e1 hl;have HP2:Hid _:=fun (W1:WL) (t1:NN) (h1:MM E X g (aC s (l++[cv u])) W1 t1)=>MM.popV h1 e2 hl2;have HC:Hid _:=fun (W1:WL) (hp:eL W1)=>aLo hE.itoa hu hv W1 hp;have HB:Hid _:=fun (W1:WL) (t1:NN) (h1:MM E X g (aC s l) W1 t1) (b:Bool)=>MM.pushTruth h1 (show l.length<1024 from hl3) b;clear h;unfold vV at HC;generalize ek:(v.kind:Int)=k at HP1 HC;generalize em:vN v=m at HP1 HC;generalize et:vS v=t at HP1 HC;generalize ek':(u.kind:Int)=k' at HP2 HC;generalize em':vN u=m' at HP2 HC;generalize et':vS u=t' at HP2 HC;generalize aQm E u v=o at HC ⊢;clear ek em et ek' em' et';have hcase:∃ c:Bool,aDa op o=c∧((op=29∧decide (o<0)=c)∨(op=30∧decide (o≤0)=c)∨(op=31∧(o==0)=c)∨(op=32∧(o != 0)=c)∨(op=33∧decide (o>0)=c)∨(op=34∧decide (o ≥ 0)=c)):=by
  refine⟨_,rfl,?_⟩;rcases hop with rfl | rfl | rfl | rfl | rfl | rfl
  ·exact .inl ⟨rfl,rfl⟩
  ·exact .inr (.inl ⟨rfl,rfl⟩)
  ·exact .inr (.inr (.inl ⟨rfl,by simp[aDa];rfl⟩))
  ·exact .inr (.inr (.inr (.inl ⟨rfl,by simp[aDa];by_cases h:o=0 <;> simp[h]⟩)))
  ·exact .inr (.inr (.inr (.inr (.inl ⟨rfl,rfl⟩))))
  exact .inr (.inr (.inr (.inr (.inr ⟨rfl,rfl⟩))))
 obtain⟨c,hc,hcase⟩:=hcase;rw[hc];clear hc hop;replace HB:Hid _:=fun (W1:WL) (t1:NN) (h1:MM E X g (aC s l) W1 t1)=>HB.out W1 t1 h1 c;rcases hcase with ⟨rfl,hc⟩ | ⟨rfl,hc⟩ | ⟨rfl,hc⟩ | ⟨rfl,hc⟩ | ⟨rfl,hc⟩ | ⟨rfl,hc⟩
 all_goals
  have HCC:Hid _:=hc;clear hc;go_enter func69,ntmps69;go_wp2_with fail;refine (HP1.out ()).mono ?_;rintro e W1 ⟨rfl,t1,h1,k1⟩;have HM1:Hid _:=AI h1 (k1);have HK1:Hid _:=k1;clear h1 k1 HP1;obtain⟨W2,hW2,F2,c0,c1,c2,l2⟩:=bD W1 k m t;obtain⟨t2,h2,k2,hb2⟩:=MM.box HM1.out.1 F2;have HX2:Hid _:=lY.mk l2 (hb2 _ (Nat.le_refl _)) c0 c1 c2;have HM2:Hid _:=AI h2 (HM1.out.2.trans k2);have HK2:Hid _:=k2;clear h2 k2 F2 hb2 l2;go_wp2_with fail;refine aI (fun w=>w.cell? (Ad W1.heap.size 0)=some (.int .u8 k)∧w.cell? (Ad W1.heap.size 1)=some (iA m)∧w.cell? (Ad W1.heap.size 2)=some (.string t)) hm ?_;have hS:W2.drew.cell? (Ad W1.heap.size 0)=some (.int .u8 k)∧W2.drew.cell? (Ad W1.heap.size 1)=some (iA m)∧W2.drew.cell? (Ad W1.heap.size 2)=some (.string t):=⟨c0,c1,c2⟩;obtain⟨WD,hWD⟩:=eXi (W2.drew);rw[hWD] at hS ⊢;have F3:Fr [] W2 WD:=by rw[← hWD];exact (Fr.refl [] W2).drew
  obtain⟨t3,h3,k3⟩:=MM.fr HM2.out.1 F3;have HM3:Hid _:=AI h3 (HM2.out.2.trans k3);have HX3:Hid _:=lY.kp HX2.out k3;clear h3 k3 F3 c0 c1 c2;refine aK (fun _ _ _ _ _ h=>h) hS [0,2] (by kernel_rfl) ?_
  iterate 2
   refine Yls.cons (v:=?_) rfl (.inl ⟨rfl,fun w1 hS1=>?_⟩) ?_;rotate_left
   ·obtain⟨s0,s1,s2⟩:=hS1;go_simp
    first | rfl | (refine (if_neg (by omega)).trans ?_;rfl)
   simp only[Act.put,Zp,Zq]
  refine Yls.nil ?_;refine rd1 (r:=1) (by kernel_rfl) rfl fun K hK=>?_;go_simp;refine (HP2.out WD t3 HM3.out.1).mono ?_;rintro e W4 ⟨rfl,t4,h4,k4⟩;have HX4:Hid _:=lY.kp HX3.out k4;have HM4:Hid _:=AI h4 (HM3.out.2.trans k4);clear h4 k4;refine hK _ _ ⟨HX4.out.c0,HX4.out.c1,HX4.out.c2⟩ ?_;clear hK K;intro _
  try simp only[Act.put,Zp,Zq]
  refine rd1 (r:=3) (by kernel_rfl) rfl fun K hK=>?_;go_simp;refine (HC.out W4 (MM.pow HM4.out.1)).mono ?_;rintro e W5 ⟨rfl,F5⟩;obtain⟨t5,h5,k5⟩:=MM.fr HM4.out.1 F5;have HX5:Hid _:=lY.kp HX4.out k5;have HM5:Hid _:=AI h5 (HM4.out.2.trans k5);clear h5 k5 F5;refine hK _ _ ⟨HX5.out.c0,HX5.out.c1,HX5.out.c2⟩ ?_;clear hK K;intro _
  try simp only[Act.put,Zp,Zq]
  refine rd1 (r:=4) (by kernel_rfl) rfl fun K hK=>?_;go_simp;refine hK _ _ ⟨HX5.out.c0,HX5.out.c1,HX5.out.c2⟩ ?_;clear hK K;intro _
  try simp only[Act.put,Zp,Zq]
  refine wpAnyH_done (by kernel_rfl) ?_ _;have hc:=HCC.out;go_wp2_with fail;refine (HB.out W5 t5 HM5.out.1).mono ?_;rintro e W6 ⟨rfl,t6,h6,k6⟩;have HM6:Hid _:=AI h6 (HM5.out.2.trans k6);clear h6 k6;go_wp2_with fail;refine bodyPost_ret (results_none rfl _ _ _) rfl ?_;exact⟨rfl,t6,HM6.out.1,HM6.out.2⟩
end
theorem aNu (m e:Int)(i:Nat)(l:LB):partL m e i l=(l.take (e-1-i).toNat).drop (m-1-i).toNat:=by
 induction l generalizing i with
 | nil=>simp[partL]
 | cons c l ih=>
  unfold partL;by_cases h2:(i:Int)+1<e
  ·obtain⟨n,hn⟩:∃ n,(e-1-i).toNat=n+1:=⟨(e-1-i).toNat-1,by omega⟩;have hn':(e-1-((i+1:Nat):Int)).toNat=n:=by omega
   by_cases h1:m≤(i:Int)+1
   ·have h0:(m-1-i).toNat=0:=by omega
    have h0':(m-1-((i+1:Nat):Int)).toNat=0:=by omega
    rw[if_pos ⟨h1,h2⟩,ih,hn,hn',h0,h0'];simp
   obtain⟨q,hq⟩:∃ q,(m-1-i).toNat=q+1:=⟨(m-1-i).toNat-1,by omega⟩;have hq':(m-1-((i+1:Nat):Int)).toNat=q:=by omega
   rw[if_neg (fun h=>h1 h.1),ih,hn,hn',hq,hq'];simp
  have h0:(e-1-i).toNat=0:=by omega
  have h0':(e-1-((i+1:Nat):Int)).toNat=0:=by omega
  rw[if_neg (fun h=>h2 h.2),ih,h0,h0'];simp
theorem aKq (t:LB)(i:Nat)(l:LB):(kK t i l:Int)=if Lib.index l t = -1 then 0 else Lib.index l t+1+i:=by
 induction l generalizing i with
 | nil=>
  unfold kK Lib.index;cases t with
  | nil=>simp;omega
  | cons a t=>simp[List.isPrefixOf]
 | cons c l ih=>
  unfold kK Lib.index;by_cases h:t.isPrefixOf (c :: l)=true
  ·rw[if_pos h,if_pos h];simp;omega
  rw[if_neg h,if_neg h];have:=ih (i+1);have hg:=Lib.index_ge l t;simp only;rw[this];by_cases h1:Lib.index l t = -1
  ·simp[h1]
  have h2:(Lib.index l t == -1)=false:=by simpa using h1
  rw[if_neg h1,h2];simp only[Bool.false_eq_true,if_false];rw[if_neg (by omega)]
  push_cast
  omega
theorem R9 (x:BA)(a b:Nat):x.extract a b=⟨((bl x).take b |>.drop a).toArray⟩:=by
 rw[← A7 (x.extract a b)];congr 2;unfold bl;rw[ByteArray.data_extract,Array.toList_extract];rw[List.extract_eq_take_drop,List.drop_take]
theorem aNt (x:BA)(f n:Int)(hx:x.size≤1048576)(h1:-1000000000≤f)(h2:f≤1000000000)(h3:-1000000000≤n)(h4:n≤1000000000)(W:WL) :
  Calls prog 132 #[.string x,iA f,iA n] W fun e W'=>e=.returned (.string ⟨(partL f (f+n) 0 (bl x)).toArray⟩)∧W'=W:=by
 have w1:IntKind.i64.wrap (f-1)=f-1:=by rw[IntKind.wrap_i64];omega
 have w2:IntKind.i64.wrap (f+n)=f+n:=by rw[IntKind.wrap_i64];omega
 have w3:IntKind.i64.wrap (f+n-1)=f+n-1:=by rw[IntKind.wrap_i64];omega
 obtain⟨b,hb⟩:∃ b:Nat,max (f-1) 0=(b:Int):=⟨(max (f-1) 0).toNat,by omega⟩;have hp:=aNu f (f+n) 0 (bl x);have hbl:=aO x;by_cases hc:(b:Int) ≥ min (f+n-1) (x.size:Int)
 ·have he:partL f (f+n) 0 (bl x)=[]:=by
   rw[hp];apply List.drop_eq_nil_of_le;rw[List.length_take,hbl];omega
  rw[he];clear hp he;go_enter func132,ntmps132;go_wp2_with fail;go_ret;exact⟨rfl,rfl⟩
 obtain⟨d,hd⟩:∃ d:Nat,min (f+n-1) (x.size:Int)=(d:Int):=⟨(min (f+n-1) (x.size:Int)).toNat,by omega⟩;have hbd:(b:Int)≤d:=by omega
 have hdx:(d:Int)≤x.size:=by omega
 have hcc:¬ (b:Int) ≥ d:=by omega
 have he:(⟨(partL f (f+n) 0 (bl x)).toArray⟩:BA)=x.extract b d:=by
  rw[hp,R9];congr 2;have e1:(f-1-((0:Nat):Int)).toNat=b:=by omega
  rw[e1];congr 1;by_cases q:f+n-1≤x.size
  ·congr 1;omega
  rw[List.take_of_length_le (by rw[hbl];omega),List.take_of_length_le (by rw[hbl];omega)]
 rw[he];clear hp he hbl hc;go_enter func132,ntmps132;go_wp2_with fail;go_ret;exact⟨rfl,rfl⟩
section
variable {E:Env}{X:Nat}{g:Pl}{s:Ms}{W W':WL}{tag:NN}
theorem MM.len (hE:aU E)(h:MM E X g s W tag){l:List aJ}{v:Val} (hs:s.fr.stk=l++[cv v]) (hl:s.fr.stk.length≤1024) (hv:SmV v) :
  Calls prog 71 #[fp g s,.int .u8 39] W (MP E X g (aC s (l++[cv (whole ((aD E v).size:Nat))])) tag W cR):=by
 have hl3:l.length<1024:=by rw[hs] at hl;simp at hl;omega
 have HP1:Hid _:=fun (_:Unit)=>h.popText hE hs hl hv;have HN:Hid _:=fun (W1:WL) (t1:NN) (h1:MM E X g (aC s l) W1 t1) (n:Int)=>MM.pushNumber h1 (show l.length<1024 from hl3) n;generalize aD E v=a at HP1 ⊢;clear h;go_enter func71,ntmps71;go_wp2_with fail;refine (HP1.out ()).mono ?_;rintro e W1 ⟨rfl,t1,h1,k1⟩;have HM1:Hid _:=AI h1 (k1);have HK1:Hid _:=k1;clear h1 k1 HP1;go_wp2_with fail;refine (HN.out W1 t1 HM1.out.1 (a.size:Nat)).mono ?_;rintro e W2 ⟨rfl,t2,h2,k2⟩;have HM2:Hid _:=AI h2 (HM1.out.2.trans k2);have HK2:Hid _:=k2;clear h2 k2 HN;go_wp2_with fail;refine bodyPost_ret (results_none rfl _ _ _) rfl ?_;exact⟨rfl,t2,HM2.out.1,HM2.out.2⟩
theorem MM.pop3 (h:MM E X g s W tag){l:List aJ}{t u v:Val} (hs:s.fr.stk=l++[cv t,cv u,cv v]) (hl:s.fr.stk.length≤1024):s.fr.stk=(l++[cv t]++[cv u])++[cv v]∧(aC s (l++[cv t]++[cv u])).fr.stk=(l++[cv t])++[cv u]∧(aC s (l++[cv t])).fr.stk=l++[cv t]∧(aC s (l++[cv t]++[cv u])).fr.stk.length≤1024∧(aC s (l++[cv t])).fr.stk.length≤1024∧l.length<1024:=by
 have e:s.fr.stk=(l++[cv t]++[cv u])++[cv v]:=by rw[hs];simp
 rw[e] at hl;simp only[Lla,List.length_cons,List.length_nil] at hl;refine⟨e,rfl,rfl,?_,?_,by omega⟩
 ·show (l++[cv t]++[cv u]).length≤1024;simp;omega
 show (l++[cv t]).length≤1024;simp;omega
theorem MM.part (hE:aU E)(h:MM E X g s W tag){l:List aJ}{t u v:Val} (hs:s.fr.stk=l++[cv t,cv u,cv v]) (hl:s.fr.stk.length≤1024) (ht:SmV t) (hu:SmV u) (hv:SmV v) (st:(aD E t).size≤100) :
  Calls prog 71 #[fp g s,.int .u8 40] W (MP E X g (aC s (l++[cv (dZ ⟨(partL (numV u) (numV u+numV v) 0 (bl (aD E t))).toArray⟩)])) tag W cR):=by
 obtain⟨e1,e2,e3,hl1,hl2,hl3⟩:=h.pop3 hs hl;have HP1:Hid _:=fun (_:Unit)=>h.popNumber e1 hl hv;have HP2:Hid _:=fun (W1:WL) (t1:NN) (h1:MM E X g (aC s (l++[cv t]++[cv u])) W1 t1)=>MM.popNumber h1 e2 hl1 hu;have HP3:Hid _:=fun (W1:WL) (t1:NN) (h1:MM E X g (aC s (l++[cv t])) W1 t1)=>MM.popText hE h1 e3 hl2 ht;have HN:Hid _:=fun (W1:WL) (t1:NN) (h1:MM E X g (aC s l) W1 t1) (n:BA)=>MM.pushText h1 (show l.length<1024 from hl3) n;have bu:=nL hu;have bv:=nL hv;generalize aD E t=a at HP3 st ⊢;generalize numV u=f at HP2 bu ⊢;generalize numV v=n at HP1 bv ⊢;have HR:Hid _:=fun (W:WL)=>aNt a f n (by omega) bu.1 bu.2 bv.1 bv.2 W;generalize (⟨(partL f (f+n) 0 (bl a)).toArray⟩:BA)=r at HR ⊢;clear h bu bv;go_enter func71,ntmps71;go_wp2_with fail;refine (HP1.out ()).mono ?_;rintro e W1 ⟨rfl,t1,h1,k1⟩;have HM1:Hid _:=AI h1 (k1);have HK1:Hid _:=k1;clear h1 k1 HP1;go_wp2_with fail;refine (HP2.out W1 t1 HM1.out.1).mono ?_;rintro e W2 ⟨rfl,t2,h2,k2⟩;have HM2:Hid _:=AI h2 (HM1.out.2.trans k2);have HK2:Hid _:=k2;clear h2 k2 HP2;go_wp2_with fail;refine (HP3.out W2 t2 HM2.out.1).mono ?_;rintro e W3 ⟨rfl,t3,h3,k3⟩;have HM3:Hid _:=AI h3 (HM2.out.2.trans k3);have HK3:Hid _:=k3;clear h3 k3 HP3;go_wp2_with fail;refine (HR.out W3).mono ?_;rintro e W4 ⟨rfl,hw4⟩;replace hw4:=hw4.symm;subst hw4;go_wp2_with fail;refine (HN.out W3 t3 HM3.out.1 r).mono ?_;rintro e W5 ⟨rfl,t5,h5,k5⟩;have HM5:Hid _:=AI h5 (HM3.out.2.trans k5);have HK5:Hid _:=k5;clear h5 k5 HN HR;go_wp2_with fail;refine bodyPost_ret (results_none rfl _ _ _) rfl ?_;exact⟨rfl,t5,HM5.out.1,HM5.out.2⟩
theorem MM.index (hE:aU E)(h:MM E X g s W tag){l:List aJ}{u v:Val} (hs:s.fr.stk=l++[cv u,cv v]) (hl:s.fr.stk.length≤1024) (hu:SmV u) (hv:SmV v) (su:(aD E u).size≤100) :
  Calls prog 71 #[fp g s,.int .u8 41] W (MP E X g (aC s (l++[cv (whole (kK (bl (aD E v)) 0 (bl (aD E u)):Nat))])) tag W cR):=by
 obtain⟨e1,e2,hl2,hl3⟩:=h.pop2 hs hl;have HP1:Hid _:=fun (_:Unit)=>h.popText hE e1 hl hv;have HP2:Hid _:=fun (W1:WL) (t1:NN) (h1:MM E X g (aC s (l++[cv u])) W1 t1)=>MM.popText hE h1 e2 hl2 hu;have HN:Hid _:=fun (W1:WL) (t1:NN) (h1:MM E X g (aC s l) W1 t1) (n:Int)=>MM.pushNumber h1 (show l.length<1024 from hl3) n;generalize aD E u=a at HP2 su ⊢;generalize aD E v=b at HP1 ⊢;have HI:Hid _:=fun (W:WL) (m:Int) (hm:W.cell? (Ad 0 0)=some (iA m))=>strings_Index a b m W (by omega) hm;have hx:(kK (bl b) 0 (bl a):Int)=Lib.index a.data.toList b.data.toList+1:=by
  rw[aKq];have:=Lib.index_ge (bl a) (bl b);show _=Lib.index (bl a) (bl b)+1;split <;> omega
 have hle:=aCh (bl b) 0 (bl a);rw[aO] at hle;generalize kK (bl b) 0 (bl a)=r at hx hle ⊢;generalize Lib.index a.data.toList b.data.toList=i at HI hx;have hw:IntKind.i64.wrap (i+1)=i+1:=by rw[IntKind.wrap_i64];omega
 rw[hx];clear h hx hle;go_enter func71,ntmps71;go_wp2_with fail;refine (HP1.out ()).mono ?_;rintro e W1 ⟨rfl,t1,h1,k1⟩;have HM1:Hid _:=AI h1 (k1);have HK1:Hid _:=k1;clear h1 k1 HP1;go_wp2_with fail;refine (HP2.out W1 t1 HM1.out.1).mono ?_;rintro e W2 ⟨rfl,t2,h2,k2⟩;have HM2:Hid _:=AI h2 (HM1.out.2.trans k2);have HK2:Hid _:=k2;clear h2 k2 HP2;obtain⟨m,hm⟩:=MM.mxl HM2.out.1;have Hm:Hid _:=hm;clear hm;go_wp2_with fail;refine (HI.out W2 m Hm.out).mono ?_;rintro e W3 ⟨rfl,hw3⟩;replace hw3:=hw3.symm;subst hw3;go_wp2_with fail;refine (HN.out W2 t2 HM2.out.1 (i+1)).mono ?_;rintro e W4 ⟨rfl,t4,h4,k4⟩;have HM4:Hid _:=AI h4 (HM2.out.2.trans k4);have HK4:Hid _:=k4;clear h4 k4 HN HI;go_wp2_with fail;refine bodyPost_ret (results_none rfl _ _ _) rfl ?_;exact⟨rfl,t4,HM4.out.1,HM4.out.2⟩
end
theorem gG (W:WL)(op pl a b q:Int):∃ W1,W.alloc (.cells #[.int .u8 op,iA pl,iA a,iA b,iA q] 96)=W1∧Fr [] W W1∧(W1.cell? (Ad W.heap.size 0)=some (.int .u8 op)∧W1.cell? (Ad W.heap.size 1)=some (iA pl)∧W1.cell? (Ad W.heap.size 2)=some (iA a)∧W1.cell? (Ad W.heap.size 3)=some (iA b)∧W1.cell? (Ad W.heap.size 4)=some (iA q))∧W.heap.size<W1.heap.size:=by
 have k1:=wan W (.cells #[.int .u8 op,iA pl,iA a,iA b,iA q] 96);exact⟨_,rfl,(Fr.refl [] W).alloc _,(aGi k1).1,by simp⟩
theorem aEg (a:Nat)(ha:a≤2000000000)(W:WL):Calls prog 105 #[iA (a:Nat)] W fun e W'=>e=.returned (iA (eH a))∧W'=W:=by
 have hm:Int.tmod (a:Int) 2=((a % 2:Nat):Int):=by rw[Int.tmod_eq_emod_of_nonneg (by omega)];omega
 by_cases h:a % 2=0
 ·have hs:eH a=Int.tdiv (a:Int) 2:=by unfold eH;rw[if_pos h,Int.tdiv_eq_ediv_of_nonneg (by omega)];omega
  have hw:IntKind.i64.wrap (Int.tdiv (a:Int) 2)=Int.tdiv (a:Int) 2:=by rw[IntKind.wrap_i64,← hs];unfold eH;rw[if_pos h];omega
  have hw2:IntKind.i64.wrap (Int.tmod (a:Int) 2)=0:=by rw[hm,h];decide
  have hm0:Int.tmod (a:Int) 2=0:=by rw[hm,h];rfl
  rw[hs];clear hs hm;go_enter func105,ntmps105;go_wp2_with fail;go_ret;exact⟨rfl,rfl⟩
 have h1:a % 2=1:=by omega
 have hs:eH a=Int.tdiv (-((a:Int)+1)) 2:=by unfold eH;rw[if_neg h,Int.neg_tdiv,Int.tdiv_eq_ediv_of_nonneg (by omega)];omega
 have hm1:Int.tmod (a:Int) 2=1:=by rw[hm,h1];rfl
 have hw1:IntKind.i64.wrap ((a:Int)+1)=(a:Int)+1:=by rw[IntKind.wrap_i64];omega
 have hw2:IntKind.i64.wrap (-((a:Int)+1)) = -((a:Int)+1):=by rw[IntKind.wrap_i64];omega
 have hw:IntKind.i64.wrap (Int.tdiv (-((a:Int)+1)) 2)=Int.tdiv (-((a:Int)+1)) 2:=by rw[IntKind.wrap_i64,← hs];unfold eH;rw[if_neg h];omega
 have hsW:Hid (wrap64 (-((a:Int)+1).tdiv 2)=eH a):=by
  show wrap64 (-((a:Int)+1).tdiv 2)=eH a;unfold wrap64;rw[← Int.neg_tdiv,← IntKind.wrap_i64,hw,hs]
 clear hs hm;go_enter func105,ntmps105;go_wp2_with fail;go_ret;refine⟨?_,rfl⟩;show Ending.returned (iA (wrap64 (-((a:Int)+1).tdiv 2)))=_;rw[hsW.out]
section
variable {E:Env}{X:Nat}{g:Pl}{s:Ms}{W W':WL}{tag:NN}
theorem MR.xc {lv:Nat→Bool}{R:Nat→Rw}{mp:Nat→Option (Nat × List (Value × Value))}{x:Mx} (h:MR E X g.g s W tag lv R mp x) {j:Nat}{v:Value} (hj:(xC x s)[j]?=some v):W.cell? (Ad X j)=some v:=by
 have:=(h.S.rows 10 h.lX).1;rw[h.rX] at this;exact aF this hj
theorem MM.text (h:MM E X g s W tag){i:Nat}{t:BA} (hi:E.mo.texts[i]?=some t):∃ gt off n c,W.cell? (Ad X 0)=some (.slice (some (Ad gt off)) n c)∧i<n∧W.cell? (Ad gt (off+i))=some (.string t):=by
 obtain⟨h6,lv,R,mp,x,hx,h⟩:=h;obtain⟨o,c,e1,e2,e2',e3⟩:=h.sta.txt;have hl:=(Lgs.1 hi).1;obtain⟨gt,off,rfl,-,-,e4⟩:=e3 (by simp;omega);exact⟨gt,off,_,c,h.xc (by rw[← e1];rfl),by simpa using hl,e4 i _ (by rw[List.getElem?_map,hi];rfl)⟩
theorem MM.glob (h:MM E X g s W tag){i:Nat}(hi:i<s.w.globs.length):∃ gg n c,W.cell? (Ad X 8)=some (.slice (some (Ad gg 0)) n c)∧i<n∧W.cell? (Ad gg (i*3))=some (.int .u8 (s.w.globs.getD i nothing).kind)∧W.cell? (Ad gg (i*3+1))=some (iA (vN (s.w.globs.getD i nothing)))∧W.cell? (Ad gg (i*3+2))=some (.string (vS (s.w.globs.getD i nothing))):=by
 obtain⟨h6,lv,R,mp,x,hx,h⟩:=h;have o:=(h.S.rows 12 h.lG).1;rw[h.rG] at o;obtain⟨gg,c,hv,-,-⟩:=fR o (by show 0<s.w.globs.length;omega);simp only at hv;simp only at o;rw[hv] at o;have e:=fun t (ht:t<3)=>dC (n:=s.w.globs.length) (z:=3) (f:=fun i=>vC (s.w.globs.getD i nothing)) (fun _ _=>xD _) hi ht;exact⟨gg,_,c,h.xc (by rw[← hv];rfl),hi,aF o ((e 0 (by decide)).trans rfl),aF o ((e 1 (by decide)).trans rfl),aF o ((e 2 (by decide)).trans rfl)⟩
theorem MM.loc (h:MM E X g s W tag){i:Nat}(hi:i<16):W.cell? (Ad g.g (s.low.length*51+2+i*3))=some (.int .u8 (s.fr.locs.getD i nothing).kind)∧W.cell? (Ad g.g (s.low.length*51+2+i*3+1))=some (iA (vN (s.fr.locs.getD i nothing)))∧W.cell? (Ad g.g (s.low.length*51+2+i*3+2))=some (.string (vS (s.fr.locs.getD i nothing))):=by
 obtain⟨h6,lv,R,mp,x,hx,h⟩:=h;obtain⟨⟨cap,r11,hv⟩,-⟩:=h.top;have o:=(h.S.rows 11 h.lF).1;rw[r11] at o;have e:∀ t,t<3→(rng (s.low.length+1) fun k=>frC (x.F k) (fAt s k))[s.low.length*51+2+i*3+t]?=(vC (s.fr.locs.getD i nothing))[t]?:=fun t ht=>by
  have:=dC (n:=s.low.length+1) (z:=51) (f:=fun k=>frC (x.F k) (fAt s k)) (fun _ _=>fZ _ _) (j:=s.low.length) (t:=2+(i*3+t)) (by omega) (by omega);rw[show s.low.length*51+2+i*3+t=s.low.length*51+(2+(i*3+t)) by omega,this,cQ];exact aUn _ _ hi ht
 exact⟨aF o ((e 0 (by decide)).trans rfl),aF o ((e 1 (by decide)).trans rfl),aF o ((e 2 (by decide)).trans rfl)⟩
end
section
variable {E:Env}{X:Nat}{g:Pl}{s:Ms}{W W':WL}{tag:NN}
theorem MM.vnum (h:MM E X g s W tag)(hl:s.fr.stk.length<1024)(a:Nat)(ha:a≤2000000000)(pl b q:Int) :
  Calls prog 62 #[ptr X,fp g s,inV 0 pl (a:Nat) b q] W (MP E X g (aC s (s.fr.stk++[cv (whole (eH a))])) tag W cR):=by
 obtain⟨W1,hW1,F1,⟨b0,b1,b2,b3,b4⟩,l1⟩:=gG W 0 pl (a:Nat) b q;obtain⟨t1,h1,k1,-⟩:=MM.box h F1;have HM1:Hid _:=AI h1 k1;have HS:Hid _:=fun (W:WL)=>aEg a ha W;have HQ:Hid _:=fun (W1:WL) (t1:NN) (h1:MM E X g s W1 t1)=>MM.pushNumber h1 hl (eH a);clear h h1 k1 F1 l1;go_enter func62,ntmps62;go_wp2_with fail;refine (HS.out W1).mono ?_;rintro e W2 ⟨rfl,hw2⟩;replace hw2:=hw2.symm;subst hw2;go_wp2_with fail;refine (HQ.out W1 t1 HM1.out.1).mono ?_;rintro e W2 ⟨rfl,t2,h2,k2⟩;have HM2:Hid _:=AI h2 (HM1.out.2.trans k2);have HK2:Hid _:=k2;clear h2 k2;go_wp2_with fail;refine bodyPost_ret (results_none rfl _ _ _) rfl ?_;exact⟨rfl,t2,HM2.out.1,HM2.out.2⟩
theorem MM.vstr (h:MM E X g s W tag)(hl:s.fr.stk.length<1024){a:Nat}{t:BA} (ha:E.mo.texts[a]?=some t) (pl b q:Int) :
  Calls prog 62 #[ptr X,fp g s,inV 1 pl (a:Nat) b q] W (MP E X g (aC s (s.fr.stk++[cv (dZ t)])) tag W cR):=by
 obtain⟨W1,hW1,F1,⟨b0,b1,b2,b3,b4⟩,l1⟩:=gG W 1 pl (a:Nat) b q;obtain⟨t1,h1,k1,-⟩:=MM.box h F1;have HM1:Hid _:=AI h1 k1;obtain⟨gt,off,n,c,x0,hi,x1⟩:=h1.text ha;have hi':(a:Int)<n:=by omega
 have HQ:Hid _:=fun (W1:WL) (t1:NN) (h1:MM E X g s W1 t1)=>MM.pushText h1 hl t;clear h h1 k1 F1 l1;go_enter func62,ntmps62;go_wp2_with fail;refine (HQ.out W1 t1 HM1.out.1).mono ?_;rintro e W2 ⟨rfl,t2,h2,k2⟩;have HM2:Hid _:=AI h2 (HM1.out.2.trans k2);have HK2:Hid _:=k2;clear h2 k2;go_wp2_with fail;refine bodyPost_ret (results_none rfl _ _ _) rfl ?_;exact⟨rfl,t2,HM2.out.1,HM2.out.2⟩
theorem MM.vnil (h:MM E X g s W tag)(hl:s.fr.stk.length<1024)(a:Int)(pl b q:Int) :
  Calls prog 62 #[ptr X,fp g s,inV 2 pl a b q] W (MP E X g (aC s (s.fr.stk++[cv nothing])) tag W cR):=by
 obtain⟨W1,hW1,F1,⟨b0,b1,b2,b3,b4⟩,l1⟩:=gG W 2 pl a b q;obtain⟨t1,h1,k1,-⟩:=MM.box h F1;have HM1:Hid _:=AI h1 k1;have hbd:∀ w:WL,(Instr.build 135 #[]).run prog w=.ok (vlV 0 0 ⟨#[]⟩) w:=fun w=>by kernel_rfl
 have HQ:Hid _:=fun (W1:WL) (t1:NN) (h1:MM E X g s W1 t1)=>MM.push h1 hl nothing;clear h h1 k1 F1 l1;go_enter func62,ntmps62;go_wp2_with fail;refine (HQ.out W1 t1 HM1.out.1).mono ?_;rintro e W2 ⟨rfl,t2,h2,k2⟩;have HM2:Hid _:=AI h2 (HM1.out.2.trans k2);have HK2:Hid _:=k2;clear h2 k2;go_wp2_with fail;refine bodyPost_ret (results_none rfl _ _ _) rfl ?_;exact⟨rfl,t2,HM2.out.1,HM2.out.2⟩
theorem MM.vload (h:MM E X g s W tag)(hl:s.fr.stk.length<1024){a:Nat}(ha:a<16)(pl b q:Int) :
  Calls prog 62 #[ptr X,fp g s,inV 3 pl (a:Nat) b q] W (MP E X g (aC s (s.fr.stk++[cv (s.fr.locs.getD a nothing)])) tag W cR):=by
 obtain⟨W1,hW1,F1,⟨b0,b1,b2,b3,b4⟩,l1⟩:=gG W 3 pl (a:Nat) b q;obtain⟨t1,h1,k1,-⟩:=MM.box h F1;have HM1:Hid _:=AI h1 k1;obtain⟨x0,x1,x2⟩:=h1.loc ha;have hi':(a:Int)<16:=by omega
 have HQ:Hid _:=fun (W1:WL) (t1:NN) (h1:MM E X g s W1 t1)=>MM.push h1 hl (s.fr.locs.getD a nothing);unfold vV at HQ;generalize ((s.fr.locs.getD a nothing).kind:Int)=kk at HQ x0;generalize vN (s.fr.locs.getD a nothing)=mm at HQ x1;generalize vS (s.fr.locs.getD a nothing)=tt at HQ x2;clear h h1 k1 F1 l1;go_enter func62,ntmps62;go_wp2_with fail;refine (HQ.out W1 t1 HM1.out.1).mono ?_;rintro e W2 ⟨rfl,t2,h2,k2⟩;have HM2:Hid _:=AI h2 (HM1.out.2.trans k2);have HK2:Hid _:=k2;clear h2 k2;go_wp2_with fail;refine bodyPost_ret (results_none rfl _ _ _) rfl ?_;exact⟨rfl,t2,HM2.out.1,HM2.out.2⟩
theorem MM.vgload (h:MM E X g s W tag)(hl:s.fr.stk.length<1024){a:Nat}(ha:a<s.w.globs.length)(pl b q:Int) :
  Calls prog 62 #[ptr X,fp g s,inV 5 pl (a:Nat) b q] W (MP E X g (aC s (s.fr.stk++[cv (s.w.globs.getD a nothing)])) tag W cR):=by
 obtain⟨W1,hW1,F1,⟨b0,b1,b2,b3,b4⟩,l1⟩:=gG W 5 pl (a:Nat) b q;obtain⟨t1,h1,k1,-⟩:=MM.box h F1;have HM1:Hid _:=AI h1 k1;obtain⟨gg,n,c,y0,hi,x0,x1,x2⟩:=h1.glob ha;have hi':(a:Int)<n:=by omega
 have HQ:Hid _:=fun (W1:WL) (t1:NN) (h1:MM E X g s W1 t1)=>MM.push h1 hl (s.w.globs.getD a nothing);unfold vV at HQ;generalize ((s.w.globs.getD a nothing).kind:Int)=kk at HQ x0;generalize vN (s.w.globs.getD a nothing)=mm at HQ x1;generalize vS (s.w.globs.getD a nothing)=tt at HQ x2;clear h h1 k1 F1 l1;go_enter func62,ntmps62;go_wp2_with fail;refine (HQ.out W1 t1 HM1.out.1).mono ?_;rintro e W2 ⟨rfl,t2,h2,k2⟩;have HM2:Hid _:=AI h2 (HM1.out.2.trans k2);have HK2:Hid _:=k2;clear h2 k2;go_wp2_with fail;refine bodyPost_ret (results_none rfl _ _ _) rfl ?_;exact⟨rfl,t2,HM2.out.1,HM2.out.2⟩
end
def lO (xs:LV) (j:Nat) (a b c:Value):LV:=((xs.set j a).set (j+1) b).set (j+2) c
theorem aIz {xs ys:LV}{j:Nat} (h:j+3≤xs.length) (a b c:Value):lO (xs++ys) j a b c=lO xs j a b c++ys:=by
 unfold lO;rw[List.set_append_left _ _ (by omega),List.set_append_left _ _ (by simp;omega),List.set_append_left _ _ (by simp;omega)]
theorem aIy {xs ys:LV}{j:Nat} (a b c:Value):lO (xs++ys) (xs.length+j) a b c=xs++lO ys j a b c:=by
 unfold lO;rw[List.set_append_right _ _ (by omega),Nat.add_sub_cancel_left,List.set_append_right _ _ (by omega),show xs.length+j+1-xs.length=j+1 by omega,List.set_append_right _ _ (by omega),show xs.length+j+2-xs.length=j+2 by omega]
theorem o9 {n z:Nat}{f:Nat→LV} (hf:∀ j,j<n→(f j).length=z) {j t:Nat} (hj:j<n) (ht:t+2<z) (a b c:Value):lO (rng n f) (j*z+t) a b c=rng n (up f j (lO (f j) t a b c)):=by
 have hup:∀ (y:LV),y.length=z→∀ i,i<n→(up f j y i).length=z:=fun y hy i hi=>by
  by_cases e:i=j
  ·subst e;rw[aG];exact hy
  rw[aE _ _ e];exact hf i hi
 unfold lO;rw[jM hf hj (by omega),Nat.add_assoc (j*z) t 1,jM (hup _ (by rw[List.length_set];exact hf j hj)) hj (by omega),aG,xF,Nat.add_assoc (j*z) t 2,jM (hup _ (by rw[List.length_set,List.length_set];exact hf j hj)) hj (by omega),aG,xF]
theorem aMw (u v:Val):lO (vC u) 0 (.int .u8 v.kind) (iA (vN v)) (.string (vS v))=vC v:=rfl
theorem X9 {n:Nat}{l:List Val}{i:Nat} (hi:i<n) (hl:i<l.length) (v:Val):lO (rng n fun j=>vC (l.getD j nothing)) (i*3) (.int .u8 v.kind) (iA (vN v)) (.string (vS v))=rng n fun j=>vC ((l.set i v).getD j nothing):=by
 rw[show i*3=i*3+0 by omega,o9 (z:=3) (fun _ _=>xD _) hi (by omega),aMw];refine bK fun j hj=>?_;by_cases e:j=i
 ·subst e;rw[aG,List.getD_eq_getElem?_getD,List.getElem?_set_self hl];rfl
 rw[aE _ _ e,List.getD_eq_getElem?_getD,List.getD_eq_getElem?_getD,List.getElem?_set_ne (fun e'=>e e'.symm)]
theorem yN (x:FrX)(f:Frm){i:Nat}(hi:i<16)(hl:i<f.locs.length)(v:Val):lO (frC x f) (2+i*3) (.int .u8 v.kind) (iA (vN v)) (.string (vS v))=frC x { f with locs:=f.locs.set i v }:=by
 unfold frC;rw[List.append_assoc,show 2+i*3=[x.cv,iA x.ix].length+i*3 by rfl,aIy,aIz (by rw[iX];omega)];unfold vH;rw[X9 hi hl,List.append_assoc]
section
variable {E:Env}{X:Nat}{g:Pl}{s:Ms}{W W':WL}{tag:NN}{lv:Nat→Bool}{R:Nat→Rw}{mp:Nat→Option (Nat × List (Value × Value))}{x:Mx}
def lN (W:WL) (b j:Nat) (u v w:Value):WL:=((W.setCell ⟨b,j,none⟩ u).setCell ⟨b,j+1,none⟩ v).setCell ⟨b,j+2,none⟩ w
theorem Sto.put3 (h:Sto W tag lv R mp){i b n cap z:Nat}{e:TypeId}{xs:LV} (hl:lv i=true) (hR:R i=⟨.slice (some (Ad b 0)) n cap,e,z,n,xs⟩) {j:Nat} (hj:j+2<n*z) (u v w:Value) :
  Sto (lN W b j u v w) tag lv (up R i ⟨.slice (some (Ad b 0)) n cap,e,z,n,lO xs j u v w⟩) mp∧Kp tag tag W (lN W b j u v w):=by
 obtain⟨S1,K1⟩:=h.put hl hR (j:=j) (by omega) u;obtain⟨S2,K2⟩:=S1.put hl (aG _ _ _) (j:=j+1) (by omega) v;obtain⟨S3,K3⟩:=S2.put hl (aG _ _ _) (j:=j+2) (by omega) w;rw[xF,xF] at S3;exact⟨S3,(K1.trans K2).trans K3⟩
def mL (s:Ms) (l:List Val):Ms:={ s with fr:={ s.fr with locs:=l } }
theorem aLg (s:Ms)(l:List Val){k:Nat}(hk:k<s.low.length):fAt (mL s l) k=fAt s k:=by simp[fAt,mL,hk]
theorem mC (s:Ms)(l:List Val)(k:Nat):(fAt (mL s l) k).stk=(fAt s k).stk∧(fAt (mL s l) k).f=(fAt s k).f∧(fAt (mL s l) k).at_=(fAt s k).at_:=by
 unfold fAt;split
 ·rename_i h
  have h':k<s.low.length:=h;rw[if_pos h'];exact⟨rfl,rfl,rfl⟩
 ·rename_i h
  have h':¬ k<s.low.length:=h;rw[if_neg h'];exact⟨rfl,rfl,rfl⟩
theorem MR.reloc (h:MR E X g.g s W tag lv R mp x)(hs:6≤W.heap.size){l:List Val}{R':Nat→Rw}{tag':NN} (k:Kp tag tag' W W') (hS:Sto W' tag' lv R' mp)
  (h11:R' 11=⟨x.frv,139,51,s.low.length+1,rng (s.low.length+1) fun k=>frC (x.F k) (fAt (mL s l) k)⟩) (hR:∀ i,i≠11→R' i=R i):MR E X g.g (mL s l) W' tag' lv R' mp x:=by
 refine⟨hS,h.sta.kp k hs,h.lX,?_,h.lF,h11,h.vF,h.nF,h.lG,?_,h.lA,?_,h.nA,fun i hi=>?_,fun i hi=>?_,fun i j c hi hj hc=>?_,fun i hi=>?_,h.rcs.kp k,h.drw.kp k,h.fld.kp k⟩
 ·rw[hR 10 (by decide)];exact h.rX
 ·rw[hR 12 (by decide)];exact h.rG
 ·rw[hR 13 (by decide)];exact h.rA
 ·obtain⟨a,b,c⟩:=h.arr i hi;exact⟨a,b,by rw[hR _ (by omega)];exact c⟩
 ·obtain⟨a,b⟩:=h.stk i hi;rw[(mC s l i).1,hR _ (by omega)];exact⟨a,b⟩
 ·rw[(mC s l i).1] at hj;obtain⟨h1,h2,h3,ga,ca,lf,h4,h5,h6⟩:=h.wlk i j c hi hj hc;exact⟨h1,h2,h3,ga,ca,lf,h4,by rw[hR _ (by omega)];exact h5,h6.kp k⟩
 obtain⟨-,e1,e2⟩:=mC s l i;rw[e1,e2];exact h.fn i hi
theorem MM.setLoc (h:MM E X g s W tag){i:Nat}(hi:i<16)(hl:i<s.fr.locs.length)(v:Val) :
  (∀ t,W.frozen? (Ad g.g t)=false)∧MM E X g (mL s (s.fr.locs.set i v)) (lN W g.g (s.low.length*51+2+i*3) (.int .u8 v.kind) (iA (vN v)) (.string (vS v))) tag∧Kp tag tag W (lN W g.g (s.low.length*51+2+i*3) (.int .u8 v.kind) (iA (vN v)) (.string (vS v))):=by
 obtain⟨h6,lv,R,mp,x,hx,h⟩:=h;obtain⟨⟨cap,r11,hv⟩,-⟩:=h.top;have o:=(h.S.rows 11 h.lF).1;rw[r11] at o;obtain⟨S1,K1⟩:=h.S.put3 h.lF r11 (j:=s.low.length*51+2+i*3) (by omega) (.int .u8 v.kind) (iA (vN v)) (.string (vS v));refine⟨fun t=>bB o t,⟨Nat.le_trans h6 K1.size,lv,_,mp,x,hx,h.reloc h6 K1 S1 ?_ (fun i hi=>aE _ _ hi)⟩,K1⟩;rw[aG,hv,show s.low.length*51+2+i*3=s.low.length*51+(2+i*3) by omega,o9 (fun _ _=>fZ _ _) (by omega) (by omega)];congr 1;refine bK fun j hj=>?_;by_cases e:j=s.low.length
 ·subst e;rw[aG,cQ,yN _ _ hi hl,show fAt (mL s (s.fr.locs.set i v)) s.low.length=(mL s (s.fr.locs.set i v)).fr from cQ (mL s (s.fr.locs.set i v))];rfl
 rw[aE _ _ e,aLg _ _ (by omega)]
theorem MM.gvc (h:MM E X g s W tag):W.cell? (Ad X 8)=some g.gv:=by
 obtain⟨h6,lv,R,mp,x,hx,h⟩:=h;exact h.xc (by rw[← hx.1.1];rfl)
theorem MM.avc (h:MM E X g s W tag):W.cell? (Ad X 9)=some g.av:=by
 obtain⟨h6,lv,R,mp,x,hx,h⟩:=h;exact h.xc (by rw[← hx.2];rfl)
def yA (s:Ms) (l:List Val):Ms:={ s with w:={ s.w with globs:=l } }
theorem MM.setGlob (h:MM E X g s W tag){i:Nat}(hi:i<s.w.globs.length)(v:Val):∃ gg n c,g.gv=.slice (some (Ad gg 0)) n c∧i<n∧(∀ t,W.frozen? (Ad gg t)=false) ∧
  MM E X g (yA s (s.w.globs.set i v)) (lN W gg (i*3) (.int .u8 v.kind) (iA (vN v)) (.string (vS v))) tag∧Kp tag tag W (lN W gg (i*3) (.int .u8 v.kind) (iA (vN v)) (.string (vS v))) ∧
  ∃ a b c:Value,W.cell? (Ad gg (i*3))=some a∧W.cell? (Ad gg (i*3+1))=some b∧W.cell? (Ad gg (i*3+2))=some c:=by
 obtain⟨h6,lv,R,mp,x,hx,h⟩:=h;have r12:=h.rG;have o:=(h.S.rows 12 h.lG).1;rw[r12] at o;obtain⟨gg,c,hv,hc,-⟩:=fR o (by show 0<s.w.globs.length;omega);simp only at hv o;rw[hv] at r12 o;obtain⟨S1,K1⟩:=h.S.put3 h.lG r12 (j:=i*3) (by omega) (.int .u8 v.kind) (iA (vN v)) (.string (vS v));have e:=fun t (ht:t<3)=>dC (n:=s.w.globs.length) (z:=3) (f:=fun i=>vC (s.w.globs.getD i nothing)) (fun _ _=>xD _) hi ht;rw[X9 hi hi] at S1;have hR:∀ q,q≠12→up R 12 ⟨.slice (some (Ad gg 0)) s.w.globs.length c,135,3,s.w.globs.length,rng s.w.globs.length fun j=>vC ((s.w.globs.set i v).getD j nothing)⟩ q=R q:=fun q hq=>aE _ _ hq;have M:MR E X g.g (yA s (s.w.globs.set i v)) (lN W gg (i*3) (.int .u8 v.kind) (iA (vN v)) (.string (vS v))) tag lv (up R 12 ⟨.slice (some (Ad gg 0)) s.w.globs.length c,135,3,s.w.globs.length,rng s.w.globs.length fun j=>vC ((s.w.globs.set i v).getD j nothing)⟩) mp x:=by
  refine⟨S1,h.sta.kp K1 h6,h.lX,?_,h.lF,?_,h.vF,h.nF,h.lG,?_,h.lA,?_,h.nA,fun q hq=>?_,fun q hq=>?_,fun q j c hq hj hc=>?_,h.fn,h.rcs.kp K1,h.drw.kp K1,h.fld.kp K1⟩
  ·rw[hR 10 (by decide)];exact h.rX
  ·rw[hR 11 (by decide)];exact h.rF
  ·rw[aG,hv];show _=Rw.mk _ 135 3 (s.w.globs.set i v).length (rng (s.w.globs.set i v).length _);rw[List.length_set];rfl
  ·rw[hR 13 (by decide)];exact h.rA
  ·obtain⟨a,b,c⟩:=h.arr q hq;exact⟨a,b,by rw[hR _ (by omega)];exact c⟩
  ·obtain⟨a,b⟩:=h.stk q hq;rw[hR _ (by omega)];exact⟨a,b⟩
  obtain⟨h1,h2,h3,ga,ca,lf,h4,h5,h6⟩:=h.wlk q j c hq hj hc;exact⟨h1,h2,h3,ga,ca,lf,h4,by rw[hR _ (by omega)];exact h5,h6.kp K1⟩
 exact⟨gg,_,c,hx.1.1.symm.trans hv,hi,fun t=>bB o t,⟨Nat.le_trans h6 K1.size,lv,_,mp,x,hx,M⟩,K1,_,_,_,aF o ((e 0 (by decide)).trans rfl),aF o ((e 1 (by decide)).trans rfl),aF o ((e 2 (by decide)).trans rfl)⟩
end
section
variable {E:Env}{X:Nat}{g:Pl}{s:Ms}{W W':WL}{tag:NN}
theorem MM.vstore (h:MM E X g s W tag){l:List aJ}{v:Val} (hs:s.fr.stk=l++[cv v]) (hl:s.fr.stk.length≤1024) {a:Nat} (ha:a<16) (hla:a<s.fr.locs.length) (pl b q:Int) :
  Calls prog 62 #[ptr X,fp g s,inV 4 pl (a:Nat) b q] W (MP E X g (mL (aC s l) (s.fr.locs.set a v)) tag W cR):=by
 have hm:=hmX
 obtain⟨W1,hW1,F1,⟨b0,b1,b2,b3,b4⟩,l1⟩:=gG W 4 pl (a:Nat) b q;obtain⟨t1,h1,k1,-⟩:=MM.box h F1;have HM1:Hid _:=AI h1 k1;have HP:Hid _:=fun (W1:WL) (t1:NN) (h1:MM E X g s W1 t1)=>MM.popV h1 hs hl;have HL:Hid _:=fun (W1:WL) (t1:NN) (h1:MM E X g (aC s l) W1 t1)=>AI (MM.setLoc h1 ha (show a<s.fr.locs.length from hla) v) (MM.loc h1 ha);have hi':(a:Int)<16:=by omega
 generalize (v.kind:Int)=kk at HP HL;generalize vN v=mm at HP HL;generalize vS v=tt at HP HL;clear h h1 k1 F1 l1;go_enter func62,ntmps62;go_wp2_with fail;refine aI (fun _=>True) hm ?_;obtain⟨WD,hWD⟩:=eXi (W1.drew);rw[hWD];have F2:Fr [] W1 WD:=by rw[← hWD];exact (Fr.refl [] W1).drew
 have hS:True:=trivial;obtain⟨t2,h2,k2⟩:=MM.fr HM1.out.1 F2;have HM2:Hid _:=AI h2 (HM1.out.2.trans k2);have HK2:Hid _:=k2;clear h2 k2 F2;refine aK (fun _ _ _ _ _ h=>h) hS [0,1,2,4,5] (by kernel_rfl) ?_
 iterate 5
  refine Yls.cons (v:=?_) rfl (.inl ⟨rfl,fun w1 hS1=>?_⟩) ?_;rotate_left
  ·go_simp
   first | rfl | (refine (if_neg (by omega)).trans ?_;rfl)
  simp only[Act.put,Zp,Zq]
 refine Yls.nil ?_;refine rd1 (r:=3) (by kernel_rfl) rfl fun K hK=>?_;go_simp;refine (HP.out WD t2 HM2.out.1).mono ?_;rintro e W3 ⟨rfl,t3,h3,k3⟩;have HM3:Hid _:=AI h3 (HM2.out.2.trans k3);clear h3 k3;refine hK _ _ trivial ?_;clear hK K;intro _
 try simp only[Act.put,Zp,Zq]
 refine aK (fun _ _ _ _ _ h=>h) hS [6] (by kernel_rfl) ?_
 iterate 1
  refine Yls.cons (v:=?_) rfl (.inl ⟨rfl,fun w1 hS1=>?_⟩) ?_;rotate_left
  ·go_simp
   first | rfl | (refine (if_neg (by omega)).trans ?_;rfl)
  simp only[Act.put,Zp,Zq]
 refine Yls.nil ?_;obtain⟨⟨hz,M4,K4⟩,x0',x1',x2'⟩:=HL.out W3 t3 HM3.out.1;have x0:W3.cell? (Ad g.g (s.low.length*51+2+a*3))=some _:=x0';have x1:W3.cell? (Ad g.g (s.low.length*51+2+a*3+1))=some _:=x1';have x2:W3.cell? (Ad g.g (s.low.length*51+2+a*3+2))=some _:=x2';clear x0' x1' x2';have z0:=hz (s.low.length*51+2+a*3);have z1:=hz (s.low.length*51+2+a*3+1);have z2:=hz (s.low.length*51+2+a*3+2);obtain⟨W4,hW4⟩:=eXi (lN W3 g.g (s.low.length*51+2+a*3) (.int .u8 kk) (iA mm) (.string tt));have M4':MM E X g (mL (aC s l) (s.fr.locs.set a v)) W4 t3:=by rw[← hW4];exact M4
 have K4':Kp t3 t3 W3 W4:=by rw[← hW4];exact K4
 unfold lN at hW4;have HM4:Hid _:=AI M4' (HM3.out.2.trans K4');clear M4 K4 M4' K4' hz HL;refine rd1 (r:=7) (by kernel_rfl) rfl fun K hK=>?_;go_simp;refine hK _ _ trivial ?_;clear hK K;intro _
 try simp only[Act.put,Zp,Zq]
 refine wpAnyH_done (by kernel_rfl) ?_ _;go_wp2_with fail;refine bodyPost_ret (results_none rfl _ _ _) rfl ?_;exact⟨rfl,t3,HM4.out.1,HM4.out.2⟩
theorem MM.vgstore (h:MM E X g s W tag){l:List aJ}{v:Val} (hs:s.fr.stk=l++[cv v]) (hl:s.fr.stk.length≤1024) {a:Nat} (ha:a<s.w.globs.length) (pl b q:Int) :
  Calls prog 62 #[ptr X,fp g s,inV 6 pl (a:Nat) b q] W (MP E X g (yA (aC s l) (s.w.globs.set a v)) tag W cR):=by
 have hm:=hmX
 obtain⟨W1,hW1,F1,⟨b0,b1,b2,b3,b4⟩,l1⟩:=gG W 6 pl (a:Nat) b q;obtain⟨t1,h1,k1,-⟩:=MM.box h F1;have HM1:Hid _:=AI h1 k1;have HP:Hid _:=fun (W1:WL) (t1:NN) (h1:MM E X g s W1 t1)=>MM.popV h1 hs hl;have HL:Hid _:=fun (W1:WL) (t1:NN) (h1:MM E X g (aC s l) W1 t1)=>MM.setGlob h1 (show a<s.w.globs.length from ha) v;have HG:Hid _:=fun (W1:WL) (t1:NN) (h1:MM E X g s W1 t1)=>MM.gvc h1;have HG2:Hid _:=fun (W1:WL) (t1:NN) (h1:MM E X g (aC s l) W1 t1)=>MM.gvc h1;obtain⟨gg,gn,gc,hgv,hgn,-⟩:=MM.setGlob h1 ha v;have HG3:Hid _:=fun (W1:WL) (t1:NN) (h1:MM E X g (yA (aC s l) (s.w.globs.set a v)) W1 t1)=>(MM.gvc h1).trans (congrArg some hgv);generalize (v.kind:Int)=kk at HP HL;generalize vN v=mm at HP HL;generalize vS v=tt at HP HL;have hi':(a:Int)<gn:=by omega
 clear h h1 k1 F1 l1;go_enter func62,ntmps62;go_wp2_with fail;have c8:=HG.out W1 t1 HM1.out.1;rw[hgv] at c8;refine aI (fun W=>W.cell? (Ad X 8)=some (.slice (some (Ad gg 0)) gn gc)) hm ?_;obtain⟨WD,hWD⟩:=eXi (W1.drew);rw[hWD];have F2:Fr [] W1 WD:=by rw[← hWD];exact (Fr.refl [] W1).drew
 have hS:WD.cell? (Ad X 8)=some (.slice (some (Ad gg 0)) gn gc):=by rw[← hWD];exact c8
 obtain⟨t2,h2,k2⟩:=MM.fr HM1.out.1 F2;have HM2:Hid _:=AI h2 (HM1.out.2.trans k2);have HK2:Hid _:=k2;clear h2 k2 F2;refine aK (fun _ _ _ _ _ h=>h) hS [0,1,2,3,4,5] (by kernel_rfl) ?_
 iterate 6
  refine Yls.cons (v:=?_) rfl (.inl ⟨rfl,fun w1 hS1=>?_⟩) ?_;rotate_left
  ·go_simp
   first | rfl | (refine (if_neg (by omega)).trans ?_;rfl)
  simp only[Act.put,Zp,Zq]
 refine Yls.nil ?_;refine rd1 (r:=6) (by kernel_rfl) rfl fun K hK=>?_;go_simp;refine (HP.out WD t2 HM2.out.1).mono ?_;rintro e W3 ⟨rfl,t3,h3,k3⟩;have HM3:Hid _:=AI h3 (HM2.out.2.trans k3);clear h3 k3;clear hS;have hS:=HG2.out W3 t3 HM3.out.1;rw[hgv] at hS;refine hK _ _ hS ?_;clear hK K;intro _
 try simp only[Act.put,Zp,Zq]
 refine aK (fun _ _ _ _ _ h=>h) hS [7] (by kernel_rfl) ?_
 iterate 1
  refine Yls.cons (v:=?_) rfl (.inl ⟨rfl,fun w1 hS1=>?_⟩) ?_;rotate_left
  ·go_simp
   first | rfl | (refine (if_neg (by omega)).trans ?_;rfl)
  simp only[Act.put,Zp,Zq]
 refine Yls.nil ?_;obtain⟨gg',gn',gc',hgv',-,hz,M4,K4,y0,y1,y2,x0,x1,x2⟩:=HL.out W3 t3 HM3.out.1;rw[hgv] at hgv';obtain⟨⟨rfl⟩,rfl,rfl⟩:=Value.slice.inj hgv';have z0:=hz (a*3);have z1:=hz (a*3+1);have z2:=hz (a*3+2);obtain⟨W4,hW4⟩:=eXi (lN W3 gg (a*3) (.int .u8 kk) (iA mm) (.string tt));have M4':MM E X g (yA (aC s l) (s.w.globs.set a v)) W4 t3:=by rw[← hW4];exact M4
 have K4':Kp t3 t3 W3 W4:=by rw[← hW4];exact K4
 unfold lN at hW4;have HM4:Hid _:=AI M4' (HM3.out.2.trans K4');clear M4 K4 M4' K4' hz HL;refine rd1 (r:=8) (by kernel_rfl) rfl fun K hK=>?_;go_simp;refine hK _ _ (HG3.out W4 t3 HM4.out.1) ?_;clear hK K;intro _
 try simp only[Act.put,Zp,Zq]
 refine wpAnyH_done (by kernel_rfl) ?_ _;go_wp2_with fail;refine bodyPost_ret (results_none rfl _ _ _) rfl ?_;exact⟨rfl,t3,HM4.out.1,HM4.out.2⟩
end
theorem aGh {m:Mo}{f locs:Nat}{c:LB}{i j k:Nat}{l:List Stp} (h:cF m f locs c i l j) {s:Stp} (hs:l[k]?=some s) (hk:k+1=l.length):s.nx=j:=by
 induction l generalizing i k with
 | nil=>simp at hs
 | cons a l ih=>
  cases k with
  | zero=>
   cases l with
   | nil=>
    have e:a=s:=by simpa using hs
    subst e;exact h.2.2
   | cons b l=>simp at hk
  | succ k=>exact ih h.2.2 (by simpa using hs) (by simpa using hk)
theorem aNo {m:Mo}{f:Nat}{L:List Stp} (h:eO m f (locsOf m f) (codeOf m f) L) {k:Nat}{i:Stp} (hi:L[k]?=some i):fJ m f L (k+1) i.nx:=by
 have hk:=(Lgs.1 hi).1;rcases Nat.lt_or_ge (k+1) L.length with c | c
 ·obtain⟨j,hj⟩:∃ j,L[k+1]?=some j:=⟨_,Lge c⟩;exact .inl ⟨j,hj,cF.behind h hi hj⟩
 exact .inr ⟨by omega,aGh h hi (by omega)⟩
section
variable {E:Env}{X:Nat}{g:Pl}{s:Ms}{W W':WL}{tag tag':NN}{lv:Nat→Bool}{R:Nat→Rw}{mp:Nat→Option (Nat × List (Value × Value))}{x:Mx}
def oH (s:Ms) (a:Nat):Ms:={ s with fr:={ s.fr with at_:=a } }
theorem aCt (s:Ms)(a:Nat){k:Nat}(hk:k<s.low.length):fAt (oH s a) k=fAt s k:=by simp[fAt,oH,hk]
theorem sT (s:Ms)(a:Nat):fAt (oH s a) s.low.length = { s.fr with at_:=a }:=cQ (oH s a)
theorem nQ (s:Ms)(a k:Nat):(fAt (oH s a) k).stk=(fAt s k).stk∧(fAt (oH s a) k).f=(fAt s k).f∧(fAt (oH s a) k).locs=(fAt s k).locs:=by
 unfold fAt;split
 ·rename_i h
  have h':k<s.low.length:=h;rw[if_pos h'];exact⟨rfl,rfl,rfl⟩
 ·rename_i h
  have h':¬ k<s.low.length:=h;rw[if_neg h'];exact⟨rfl,rfl,rfl⟩
def atF (x:Mx) (s:Ms) (t:Nat):Mx:=onF x s.low.length ⟨(x.F s.low.length).cv,t,(x.F s.low.length).sv,(x.F s.low.length).pw⟩
theorem vY (x:Mx)(s:Ms)(t k:Nat):((atF x s t).F k).cv=(x.F k).cv∧((atF x s t).F k).sv=(x.F k).sv∧((atF x s t).F k).pw=(x.F k).pw:=by
 by_cases e:k=s.low.length
 ·subst e;simp[atF,onF,aG]
 show (up x.F s.low.length _ k).cv=_∧(up x.F s.low.length _ k).sv=_∧(up x.F s.low.length _ k).pw=_;rw[aE _ _ e];exact⟨rfl,rfl,rfl⟩
theorem MR.setAt (h:MR E X g.g s W tag lv R mp x)(h6:6≤W.heap.size){t a:Nat}(ht:fJ E.mo s.fr.f (x.code s.fr.f).2 t a) :
  W.frozen? (Ad g.g (s.low.length*51+1))=false∧W.cell? (Ad g.g (s.low.length*51+1))=some (iA ((x.F s.low.length).ix:Nat)) ∧
  (∃ R',MR E X g.g (oH s a) (W.setCell ⟨g.g,s.low.length*51+1,none⟩ (.int .i64 (t:Nat))) tag lv R' mp (atF x s t))∧Kp tag tag W (W.setCell ⟨g.g,s.low.length*51+1,none⟩ (.int .i64 (t:Nat))):=by
 obtain⟨⟨cap,r11,hv⟩,-⟩:=h.top;have o:=(h.S.rows 11 h.lF).1;rw[r11] at o;obtain⟨S1,k⟩:=h.S.put h.lF r11 (j:=s.low.length*51+1) (by omega) (iA (t:Nat));have e1:(rng (s.low.length+1) fun k=>frC (x.F k) (fAt s k))[s.low.length*51+1]?=some (iA ((x.F s.low.length).ix:Nat)):=by
  rw[dC (fun _ _=>fZ _ _) (by omega) (by omega)];rfl
 refine⟨bB o _,aF o e1,⟨_,S1,h.sta.kp k h6,h.lX,?_,h.lF,?_,h.vF,h.nF,h.lG,?_,h.lA,?_,h.nA,fun i hi=>?_,fun i hi=>?_,fun i j c hi hj hc=>?_,fun i hi=>?_,h.rcs.kp k,h.drw.kp k,h.fld.kp k⟩,k⟩
 ·rw[aE _ _ (by decide)];exact h.rX
 ·rw[aG,← hv];show _=Rw.mk x.frv 139 51 (s.low.length+1) _;congr 1;rw[jM (fun _ _=>fZ _ _) (by omega) (by omega)];refine bK fun j hj=>?_;by_cases e:j=s.low.length
  ·subst e;show _=frC (up x.F s.low.length _ s.low.length) (fAt (oH s a) s.low.length);rw[aG,aG,cQ,sT];rfl
  show _=frC (up x.F s.low.length _ j) (fAt (oH s a) j);rw[aE _ _ e,aE _ _ e,aCt _ _ (by omega)]
 ·rw[aE _ _ (by decide)];exact h.rG
 ·rw[aE _ _ (by decide)];exact h.rA
 ·obtain⟨a,b,c⟩:=h.arr i hi;exact⟨a,b,by rw[aE _ _ (by omega)];exact c⟩
 ·obtain⟨a1,b⟩:=h.stk i hi;rw[(nQ s a i).1,aE _ _ (by omega),(vY x s t i).2.1,(vY x s t i).2.2];exact⟨a1,b⟩
 ·rw[(nQ s a i).1] at hj;obtain⟨h1,h2,h3,ga,ca,lf,h4,h5,h6⟩:=h.wlk i j c hi hj hc;exact⟨h1,h2,h3,ga,ca,lf,h4,by rw[aE _ _ (by omega),(vY x s t i).2.2];exact h5,h6.kp k⟩
 obtain⟨a1,a2,a3⟩:=h.fn i hi;rw[(vY x s t i).1,(nQ s a i).2.1];refine⟨a1,a2,?_⟩;by_cases e:i=s.low.length
 ·subst e;show fJ _ _ _ (up x.F s.low.length _ s.low.length).ix _;rw[aG,sT,cQ];exact ht
 have hi':i≤s.low.length:=hi;show fJ _ _ _ (up x.F s.low.length _ i).ix _;rw[aE _ _ e,aCt _ _ (by omega)];exact a3
theorem MM.setAt (h:MM E X g s W tag){t a:Nat}(ht:∀ L,eO E.mo s.fr.f (locsOf E.mo s.fr.f) (codeOf E.mo s.fr.f) L→fJ E.mo s.fr.f L t a) :
  W.frozen? (Ad g.g (s.low.length*51+1))=false∧(∃ v,W.cell? (Ad g.g (s.low.length*51+1))=some v) ∧
  MM E X g (oH s a) (W.setCell ⟨g.g,s.low.length*51+1,none⟩ (.int .i64 (t:Nat))) tag∧Kp tag tag W (W.setCell ⟨g.g,s.low.length*51+1,none⟩ (.int .i64 (t:Nat))):=by
 obtain⟨h6,lv,R,mp,x,hx,h⟩:=h;obtain⟨a1,-,-⟩:=h.fn _ (Nat.le_refl _);rw[cQ] at a1;obtain⟨e1,e2,⟨R',e3⟩,e4⟩:=h.setAt h6 (ht _ (h.sta.code _ a1).reads);exact⟨e1,⟨_,e2⟩,⟨Nat.le_trans h6 e4.size,lv,R',mp,atF x s t,hx,e3⟩,e4⟩
theorem MM.frame (h:MM E X g s W tag):Calls prog 41 #[ptr X] W (MP E X g s tag W (fp g s)):=by
 obtain⟨h6,lv,R,mp,x,hx,h⟩:=h;obtain⟨cap,hc⟩:=h.vF;have hn:=h.nF;refine (D0 X g.g s.low.length cap W (h.xc (by rw[← hc];rfl)) (by omega)).mono fun e W' ⟨he,hf⟩=>⟨he,?_⟩;exact MM.fr ⟨h6,lv,R,mp,x,hx,h⟩ hf
def bAb (E:Env) (X:Nat) (g:Pl) (s:Ms) (i:Stp) (tag:NN) (W:WL) (e:Ending) (W':WL):Prop:=
 ∃ t:Nat,e=.returned (inV (i.op:Nat) (i.pl:Nat) (min i.a 2000000000:Nat) (min i.b 2000000000:Nat) (t:Nat))∧(far i.op=true→∀ L,eO E.mo s.fr.f (locsOf E.mo s.fr.f) (codeOf E.mo s.fr.f) L→fJ E.mo s.fr.f L t i.a)∧∃ tag',MM E X g (oH s i.nx) W' tag'∧Kp tag tag' W W'
theorem MM.next (h:MM E X g s W tag)(hat:s.fr.at_<(codeOf E.mo s.fr.f).length){i:Stp}(hd:bH E.mo s.fr.f (locsOf E.mo s.fr.f) (codeOf E.mo s.fr.f) s.fr.at_=.inr i) :
  Calls prog 42 #[fp g s] W (bAb E X g s i tag W):=by
 obtain⟨h6,lv,R,mp,x,hx,h⟩:=h;obtain⟨a1,a2,a3⟩:=h.fn _ (Nat.le_refl _);rw[cQ] at a1 a2 a3;have C:=h.sta.code _ a1;obtain⟨gc,cc,T,v1,v2,v3,v4,v5,v6⟩:=C.at_;obtain⟨i',hi',hp⟩:∃ i,(x.code s.fr.f).2[(x.F s.low.length).ix]?=some i∧i.pl=s.fr.at_:=by
  rcases a3 with c | ⟨-,c⟩
  ·exact c
  omega
 have hdd:=(cF.decodes C.reads hi').2;rw[hp,hd] at hdd;have hii:i=i':=by simpa using hdd
 subst hii;have hlt:=(Lgs.1 hi').1;obtain⟨t,hT⟩:∃ t,T[(x.F s.low.length).ix]?=some t:=⟨_,Lge (by rw[v5.len];exact hlt)⟩;obtain⟨c0,c1,c2,c3,c4⟩:=v5.cell _ _ _ hi' hT;obtain⟨⟨cap,r11,hv⟩,-⟩:=h.top;have o:=(h.S.rows 11 h.lF).1;rw[r11] at o;have e0:(rng (s.low.length+1) fun k=>frC (x.F k) (fAt s k))[s.low.length*51]?=some (x.F s.low.length).cv:=by
  have:=dC (n:=s.low.length+1) (z:=51) (f:=fun k=>frC (x.F k) (fAt s k)) (fun _ _=>fZ _ _) (j:=s.low.length) (t:=0) (by omega) (by omega);exact this
 obtain⟨f1,f2,⟨R',f3⟩,f4⟩:=h.setAt h6 (aNo C.reads hi');have hlen:=C.len;refine (aOk g.g (s.low.length*51) gc (x.F s.low.length).ix _ cc _ _ _ _ _ W ((aF o e0).trans (by rw[a2,v1])) f2 f1 hlt (by omega) c0 c1 c2 c3 c4).mono fun e W' ⟨he,hset⟩=>⟨t,he,fun hf L hL=>?_,?_⟩
 ·obtain⟨t',q1,q2⟩:=v6 _ _ hlt hi' hf;rw[hT] at q1;have:t=t':=by simpa using q1
  subst this;rw[jT hL C.reads];exact .inl (jX q2)
 obtain⟨tg,M2,K2⟩:=MM.fr (g:=g) ⟨Nat.le_trans h6 f4.size,lv,R',mp,atF x s _,hx,f3⟩ hset;exact⟨tg,M2,f4.trans K2⟩
end
section
variable {E:Env}{X:Nat}{g:Pl}{s s':Ms}{W W':WL}{tag tag':NN}{lv:Nat→Bool}{R:Nat→Rw}{mp:Nat→Option (Nat × List (Value × Value))}{x:Mx}
def onL (x:Mx) (rv dv flv:Value):Mx:={ x with rv:=rv,dv:=dv,flv:=flv }
theorem sS (h1:s'.low=s.low)(h2:s'.fr=s.fr)(k:Nat):fAt s' k=fAt s k:=by
 unfold fAt;rw[h1,h2]
theorem MR.rex (h:MR E X g.g s W tag lv R mp x)(h6:6≤W.heap.size){R':Nat→Rw}(k:Kp tag tag' W W')(hS:Sto W' tag' lv R' mp){rv dv flv:Value}(h1:s'.low=s.low)(h2:s'.fr=s.fr)(h3:s'.w.globs=s.w.globs)(h4:s'.w.arrs=s.w.arrs)
  (h10:R' 10=⟨.slice (some (Ad X 0)) 1 1,79,16,1,xC (onL x rv dv flv) s'⟩) (hR:∀ i,i≠10→R' i=R i)
  (r1:RoL W' tag' rv ((s'.w.recs.drop s'.w.nr).map .string)) (r2:RoL W' tag' dv ((s'.w.draws.drop s'.w.drawn).map (.int .i64))) (r3:RoL W' tag' flv (s'.w.flds.map .string)):MR E X g.g s' W' tag' lv R' mp (onL x rv dv flv):=by
 refine⟨hS,h.sta.kp k h6,h.lX,h10,h.lF,?_,?_,?_,h.lG,?_,h.lA,?_,?_,fun i hi=>?_,fun i hi=>?_,fun i j c hi hj hc=>?_,fun i hi=>?_,r1,r2,r3⟩
 ·rw[hR 11 (by decide),h.rF,h1];congr 1;refine bK fun j hj=>?_;rw[sS h1 h2];rfl
 ·rw[h1];exact h.vF
 ·rw[h1];exact h.nF
 ·rw[hR 12 (by decide),h.rG,h3];rfl
 ·rw[hR 13 (by decide),h.rA,h4];rfl
 ·rw[h4];exact h.nA
 ·rw[h4] at hi ⊢;obtain⟨a,b,c⟩:=h.arr i hi;exact⟨a,b,by rw[hR _ (by omega)];exact c⟩
 ·rw[h1] at hi;obtain⟨a,b⟩:=h.stk i hi;rw[sS h1 h2,hR _ (by omega)];exact⟨a,b⟩
 ·rw[h1] at hi;rw[sS h1 h2] at hj;obtain⟨q1,q2,q3,ga,ca,lf,q4,q5,q6⟩:=h.wlk i j c hi hj hc;rw[h4,hR _ (by omega)];exact⟨q1,q2,q3,ga,ca,lf,q4,q5,q6.kp k⟩
 rw[h1] at hi;rw[sS h1 h2];exact h.fn i hi
theorem MM.putX (h:MM E X g s W tag){j:Nat}(hj:j<16){v:Value}(h1:s'.low=s.low)(h2:s'.fr=s.fr)(h3:s'.w.globs=s.w.globs)(h4:s'.w.arrs=s.w.arrs)(h5:s'.w.recs=s.w.recs)(h7:s'.w.nr=s.w.nr)(h8:s'.w.draws=s.w.draws)(h9:s'.w.drawn=s.w.drawn)(h11:s'.w.flds=s.w.flds)
  (hx:∀ x,xC x s'=(xC x s).set j v):W.frozen? (Ad X j)=false∧(∃ u,W.cell? (Ad X j)=some u)∧MM E X g s' (W.setCell ⟨X,j,none⟩ v) tag∧Kp tag tag W (W.setCell ⟨X,j,none⟩ v):=by
 obtain⟨h6,lv,R,mp,x,hxx,h⟩:=h;have o:=(h.S.rows 10 h.lX).1;rw[h.rX] at o;obtain⟨S1,k⟩:=h.S.put h.lX h.rX (j:=j) (by omega) v;obtain⟨u,hu⟩:∃ u,(xC x s)[j]?=some u:=⟨_,Lge (show j<(xC x s).length from hj)⟩;refine⟨bB o _,⟨u,aF o hu⟩,⟨Nat.le_trans h6 k.size,lv,_,mp,onL x x.rv x.dv x.flv,hxx,h.rex h6 k S1 h1 h2 h3 h4 ?_ (fun i hi=>aE _ _ hi) ?_ ?_ ?_⟩,k⟩
 ·rw[aG];show _=Rw.mk _ 79 16 1 (xC x s');rw[hx]
 ·rw[h5,h7];exact h.rcs.kp k
 ·rw[h8,h9];exact h.drw.kp k
 rw[h11];exact h.fld.kp k
theorem MM.setCode (h:MM E X g s W tag)(c:Int):W.frozen? (Ad X 13)=false∧(∃ u,W.cell? (Ad X 13)=some u)∧MM E X g { s with code:=c } (W.setCell ⟨X,13,none⟩ (.int .i64 c)) tag∧Kp tag tag W (W.setCell ⟨X,13,none⟩ (.int .i64 c)):=
 h.putX (by decide) rfl rfl rfl rfl rfl rfl rfl rfl rfl fun x=>rfl
theorem MM.setSt (h:MM E X g s W tag)(n:Nat):W.frozen? (Ad X 12)=false∧(∃ u,W.cell? (Ad X 12)=some u)∧MM E X g { s with st:=n } (W.setCell ⟨X,12,none⟩ (.int .i64 (n:Nat))) tag∧Kp tag tag W (W.setCell ⟨X,12,none⟩ (.int .i64 (n:Nat))):=
 h.putX (by decide) rfl rfl rfl rfl rfl rfl rfl rfl rfl fun x=>rfl
theorem MM.setUsed (h:MM E X g s W tag)(n:Nat):W.frozen? (Ad X 15)=false∧(∃ u,W.cell? (Ad X 15)=some u)∧MM E X g { s with used:=n } (W.setCell ⟨X,15,none⟩ (.int .i64 (n:Nat))) tag∧Kp tag tag W (W.setCell ⟨X,15,none⟩ (.int .i64 (n:Nat))):=
 h.putX (by decide) rfl rfl rfl rfl rfl rfl rfl rfl rfl fun x=>rfl
theorem MM.setOut (h:MM E X g s W tag)(t:BA):W.frozen? (Ad X 14)=false∧(∃ u,W.cell? (Ad X 14)=some u)∧MM E X g { s with w:={ s.w with out:=t } } (W.setCell ⟨X,14,none⟩ (.string t)) tag∧Kp tag tag W (W.setCell ⟨X,14,none⟩ (.string t)):=
 h.putX (by decide) rfl rfl rfl rfl rfl rfl rfl rfl rfl fun x=>rfl
theorem MM.xnr (h:MM E X g s W tag):W.cell? (Ad X 5)=some (iA (s.w.nr:Nat)):=by
 obtain⟨h6,lv,R,mp,x,hx,h⟩:=h;exact h.xc rfl
theorem MM.xrcd (h:MM E X g s W tag):W.cell? (Ad X 6)=some (.string s.w.rcd):=by
 obtain⟨h6,lv,R,mp,x,hx,h⟩:=h;exact h.xc rfl
theorem MM.xst (h:MM E X g s W tag):W.cell? (Ad X 12)=some (iA (s.st:Nat)):=by
 obtain⟨h6,lv,R,mp,x,hx,h⟩:=h;exact h.xc rfl
theorem MM.xcode (h:MM E X g s W tag):W.cell? (Ad X 13)=some (iA s.code):=by
 obtain⟨h6,lv,R,mp,x,hx,h⟩:=h;exact h.xc rfl
theorem MM.xout (h:MM E X g s W tag):W.cell? (Ad X 14)=some (.string s.w.out):=by
 obtain⟨h6,lv,R,mp,x,hx,h⟩:=h;exact h.xc rfl
theorem MM.xused (h:MM E X g s W tag):W.cell? (Ad X 15)=some (iA (s.used:Nat)):=by
 obtain⟨h6,lv,R,mp,x,hx,h⟩:=h;exact h.xc rfl
theorem MM.flds (h:MM E X g s W tag):∃ o c,W.cell? (Ad X 7)=some (.slice o s.w.flds.length c)∧s.w.flds.length≤c∧∀ i t,s.w.flds[i]?=some t→∃ gt off,o=some (Ad gt off)∧W.cell? (Ad gt (off+i))=some (.string t):=by
 obtain⟨h6,lv,R,mp,x,hx,h⟩:=h;obtain⟨o,c,e1,e2,e2',e3⟩:=h.fld;rw[List.length_map] at e1;refine⟨o,c,h.xc (by rw[← e1];rfl),by simpa using e2,fun i t hi=>?_⟩;have hl:=(Lgs.1 hi).1;obtain⟨gt,off,e,-,-,e4⟩:=e3 (by simp;omega);exact⟨gt,off,e,e4 i _ (by rw[List.getElem?_map,hi];rfl)⟩
end
section
variable {E:Env}{X:Nat}{g:Pl}{s:Ms}{W W':WL}{tag:NN}
abbrev stI (n:Int):Value:=.int .i64 n
theorem MM.rnf (h:MM E X g s W tag)(hl:s.fr.stk.length<1024)(hn:s.w.flds.length≤1000000) :
  Calls prog 63 #[ptr X,fp g s,.int .u8 9] W (MP E X g (aC s (s.fr.stk++[cv (whole s.w.flds.length)])) tag W (stI 0)):=by
 obtain⟨o,c,x7,hc,-⟩:=h.flds;have HQ:Hid _:=fun (_:Unit)=>h.pushNumber hl (s.w.flds.length:Nat);have hw64:IntKind.i64.wrap (s.w.flds.length:Int)=s.w.flds.length:=by rw[IntKind.wrap_i64];omega
 clear h;go_enter func63,ntmps63;go_wp2_with fail;refine (HQ.out ()).mono ?_;rintro e W1 ⟨rfl,t1,h1,k1⟩;have HM1:Hid _:=AI h1 (k1);have HK1:Hid _:=k1;clear h1 k1 HQ;go_wp2_with fail;go_ret;exact⟨rfl,t1,HM1.out.1,HM1.out.2⟩
theorem MM.rnr (h:MM E X g s W tag)(hl:s.fr.stk.length<1024) :
  Calls prog 63 #[ptr X,fp g s,.int .u8 10] W (MP E X g (aC s (s.fr.stk++[cv (whole s.w.nr)])) tag W (stI 0)):=by
 have x5:=h.xnr;have HQ:Hid _:=fun (_:Unit)=>h.pushNumber hl (s.w.nr:Nat);clear h;go_enter func63,ntmps63;go_wp2_with fail;refine (HQ.out ()).mono ?_;rintro e W1 ⟨rfl,t1,h1,k1⟩;have HM1:Hid _:=AI h1 (k1);have HK1:Hid _:=k1;clear h1 k1 HQ;go_wp2_with fail;go_ret;exact⟨rfl,t1,HM1.out.1,HM1.out.2⟩
theorem MM.jump (h:MM E X g s W tag){t a:Nat}(ht:∀ L,eO E.mo s.fr.f (locsOf E.mo s.fr.f) (codeOf E.mo s.fr.f) L→fJ E.mo s.fr.f L t a)(pl q b:Int) :
  Calls prog 74 #[ptr X,fp g s,inV 48 pl q b (t:Nat)] W (MP E X g (oH s a) tag W (stI 0)):=by
 obtain⟨W1,hW1,F1,⟨b0,b1,b2,b3,b4⟩,l1⟩:=gG W 48 pl q b (t:Nat);obtain⟨t1,h1,k1,-⟩:=MM.box h F1;obtain⟨z1,⟨u,x1⟩,M2,K2⟩:=h1.setAt ht;obtain⟨W2,hW2⟩:=eXi (W1.setCell ⟨g.g,s.low.length*51+1,none⟩ (.int .i64 (t:Nat)));rw[hW2] at M2 K2;have HM2:Hid _:=AI M2 (k1.trans K2);clear h h1 k1 F1 l1 M2 K2;go_enter func74,ntmps74;go_wp2_with fail;go_ret;exact⟨rfl,t1,HM2.out.1,HM2.out.2⟩
theorem MM.jz (h:MM E X g s W tag){l:List aJ}{v:Val} (hs:s.fr.stk=l++[cv v]) (hl:s.fr.stk.length≤1024) (hv:SmV v) {t a:Nat} (ht:∀ L,eO E.mo s.fr.f (locsOf E.mo s.fr.f) (codeOf E.mo s.fr.f) L→fJ E.mo s.fr.f L t a) (pl q b:Int) :
  Calls prog 74 #[ptr X,fp g s,inV 49 pl q b (t:Nat)] W (MP E X g (if numV v=0 then oH (aC s l) a else aC s l) tag W (stI 0)):=by
 obtain⟨W1,hW1,F1,⟨b0,b1,b2,b3,b4⟩,l1⟩:=gG W 49 pl q b (t:Nat);obtain⟨t1,h1,k1,hb1⟩:=MM.box h F1;have HM1:Hid _:=AI h1 k1;have HB:Hid _:=fun (W2:WL) (t2:NN) (k:Kp t1 t2 W1 W2)=>(k.cell (p:=Ad W.heap.size 4) l1 (by show t1 W.heap.size<10;rw[hb1 _ (Nat.le_refl _)];decide)).trans b4;have HP:Hid _:=fun (_:Unit)=>h1.popNumber hs hl hv;have HA:Hid _:=fun (W2:WL) (t2:NN) (h2:MM E X g (aC s l) W2 t2)=>MM.setAt h2 (t:=t) (a:=a) ht;clear h h1 k1 F1 l1 hb1 b4;rcases Decidable.em (numV v=0) with c | c
 ·rw[if_pos c];have e0:(numV v==0)=true:=by simp[c]
  have e0':decide (numV v=0)=true:=by simp[c]
  go_enter func74,ntmps74;go_wp2_with fail;refine (HP.out ()).mono ?_;rintro e W2 ⟨rfl,t2,h2,k2⟩;have HM2:Hid _:=AI h2 (HM1.out.2.trans k2);have HK2:Hid _:=k2;clear h2 k2 HP;have b4:=HB.out W2 t2 HK2.out;obtain⟨z1,⟨u,x1'⟩,M3,K3⟩:=HA.out W2 t2 HM2.out.1;have x1:W2.cell? (Ad g.g (s.low.length*51+1))=some u:=x1';have z1':W2.frozen? (Ad g.g (s.low.length*51+1))=false:=z1;obtain⟨W3,hW3⟩:=eXi (W2.setCell ⟨g.g,s.low.length*51+1,none⟩ (.int .i64 (t:Nat)));have M3':MM E X g (oH (aC s l) a) W3 t2:=by rw[← hW3];exact M3
  have K3':Kp t2 t2 W2 W3:=by rw[← hW3];exact K3
  have HM3:Hid _:=AI M3' (HM2.out.2.trans K3');clear M3 K3 M3' K3' HA x1' z1 HB b0 b1 b2 b3;go_wp2_with fail;go_ret;exact⟨rfl,t2,HM3.out.1,HM3.out.2⟩
 rw[if_neg c];have e0:(numV v==0)=false:=by simp[c]
 have e0':decide (numV v=0)=false:=by simp[c]
 go_enter func74,ntmps74;go_wp2_with fail;refine (HP.out ()).mono ?_;rintro e W2 ⟨rfl,t2,h2,k2⟩;have HM2:Hid _:=AI h2 (HM1.out.2.trans k2);have HK2:Hid _:=k2;clear h2 k2 HP;have b4:=HB.out W2 t2 HK2.out;obtain⟨z1,⟨u,x1'⟩,M3,K3⟩:=HA.out W2 t2 HM2.out.1;have x1:W2.cell? (Ad g.g (s.low.length*51+1))=some u:=x1';have z1':W2.frozen? (Ad g.g (s.low.length*51+1))=false:=z1;obtain⟨W3,hW3⟩:=eXi (W2.setCell ⟨g.g,s.low.length*51+1,none⟩ (.int .i64 (t:Nat)));have M3':MM E X g (oH (aC s l) a) W3 t2:=by rw[← hW3];exact M3
 have K3':Kp t2 t2 W2 W3:=by rw[← hW3];exact K3
 have HM3:Hid _:=AI M3' (HM2.out.2.trans K3');clear M3 K3 M3' K3' HA x1' z1 HB b0 b1 b2 b3;go_wp2_with fail;go_ret;exact⟨rfl,t2,HM2.out.1,HM2.out.2⟩
theorem MM.exit (h:MM E X g s W tag){l:List aJ}{v:Val} (hs:s.fr.stk=l++[cv v]) (hl:s.fr.stk.length≤1024) (hv:SmV v) (pl q b t:Int) :
  Calls prog 74 #[ptr X,fp g s,inV 53 pl q b t] W (MP E X g { aC s l with code:=numV v } tag W (stI 2)):=by
 obtain⟨W1,hW1,F1,⟨b0,b1,b2,b3,b4⟩,l1⟩:=gG W 53 pl q b t;obtain⟨t1,h1,k1,hb1⟩:=MM.box h F1;have HM1:Hid _:=AI h1 k1;have HP:Hid _:=fun (W2:WL) (t2:NN) (h2:MM E X g s W2 t2)=>h2.popNumber hs hl hv;have HA:Hid _:=fun (W2:WL) (t2:NN) (h2:MM E X g (aC s l) W2 t2)=>MM.setCode h2 (numV v);clear h h1 k1 F1 l1 hb1;go_enter func74,ntmps74;go_wp2_with fail;refine (HP.out W1 t1 HM1.out.1).mono ?_;rintro e W2 ⟨rfl,t2,h2,k2⟩;have HM2:Hid _:=AI h2 (HM1.out.2.trans k2);have HK2:Hid _:=k2;clear h2 k2 HP;obtain⟨z1,⟨u,x1⟩,M3,K3⟩:=HA.out W2 t2 HM2.out.1;obtain⟨W3,hW3⟩:=eXi (W2.setCell ⟨X,13,none⟩ (.int .i64 (numV v)));rw[hW3] at M3 K3;have HM3:Hid _:=AI M3 (HM2.out.2.trans K3);clear M3 K3 HA b0 b1 b2 b3 b4;go_wp2_with fail;go_ret;exact⟨rfl,t2,HM3.out.1,HM3.out.2⟩
end
end Go.Proofs.YtlokkgajpjafmaaGreatDoor
