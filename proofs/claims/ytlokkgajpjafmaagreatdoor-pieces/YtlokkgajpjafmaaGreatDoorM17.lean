import Derived.Test.YtlokkgajpjafmaaGreatDoorM16
set_option linter.unusedSimpArgs false
set_option linter.unusedVariables false
set_option maxRecDepth 100000
set_option maxHeartbeats 40000000
open _root_.Go.Proofs.Tryz
namespace Go.Proofs.YtlokkgajpjafmaaGreatDoor
open Go.RowKit
open Wire Flow Mach
theorem r9 {B:Nat}{e:TypeId}{z g n cap:Nat}:∀ (us:LV) (o:Nat) (w:WL) (xs:LV),w.ownsRow B e z (.slice (some (Ad g 0)) n cap) n xs→o+us.length≤n*z →
  (w.setCells g o us).ownsRow B e z (.slice (some (Ad g 0)) n cap) n (xs.take o++us++xs.drop (o+us.length))
 | [],o,w,xs,h,ho=>by
  rw[List.append_nil,List.length_nil,Nat.add_zero,List.take_append_drop]
  exact h
 | u :: us,o,w,xs,h,ho=>by
  have hx:=h.1
  simp only[List.length_cons] at ho
  have h1:=nH h (j:=o) (by omega) u
  have h2:=r9 us (o+1) _ _ h1 (by omega)
  have e1:(xs.set o u).take (o+1)=xs.take o++[u]:=by
   rw[List.take_set,List.take_succ_eq_append_getElem (by omega:o<xs.length),List.set_append_right _ _ (by simp;omega)]
   simp[Nat.min_eq_left (show o≤xs.length by omega)]
  have e2:(xs.set o u).drop (o+1+us.length)=xs.drop (o+(u :: us).length):=by
   rw[List.drop_set_of_lt (by omega)]
   congr 1
   simp only[List.length_cons]
   omega
  rw[e1,e2] at h2
  show ((w.setCell ⟨g,o,none⟩ u).setCells g (o+1) us).ownsRow _ _ _ _ _ _
  simpa using h2
theorem Fr.setCells {S:LN}{a:WL}{b:Nat} (hb:b ∈ S∨a.heap.size≤b):∀ (us:LV) (o:Nat) (w:WL),Fr S a w→Fr S a (w.setCells b o us)
 | [],o,w,h=>h
 | u :: us,o,w,h=>Fr.setCells hb us (o+1) _ (h.setCell (p:=⟨b,o,none⟩) hb u)
theorem pU (g o j:Nat):((Ad g o):Addr).add j=(Ad g (o+j)):=by cases j <;> simp[Addr.add]
theorem aNv (W:WL)(n:Nat)(hn:n≤100000){B:Nat}(hB:B≤W.heap.size):(W.alloc (.cells (madeCells #[.string ⟨#[]⟩] n) 9)).ownsRow B 9 1 (.slice (some (Ad W.heap.size 0)) n n) n (List.replicate n (.string ⟨#[]⟩)):=by
 refine⟨by simp,.inr ⟨W.heap.size,n,madeCells #[.string ⟨#[]⟩] n,rfl,hB,wan W _,Nat.le_refl _,by unfold maxLen;omega,?_,?_⟩⟩
 ·rw[← Array.length_toList,toList_madeCells_one];simp
 rw[toList_madeCells_one];simp
theorem aNf (L:LY)(n:Nat)(t:BA){m:Nat}(hm:m=max n L.length) :
  (((List.replicate m (Value.string ⟨#[]⟩)).take 0++L.map Value.string++(List.replicate m (Value.string ⟨#[]⟩)).drop (0+(L.map Value.string).length)).set (n-1) (.string t))=(jQ L n t).map .string:=by
 unfold jQ;rw[List.map_set,List.map_append,List.map_replicate,List.take_zero,List.nil_append,Nat.zero_add,List.length_map,List.drop_replicate,hm];congr 3;omega
theorem aNh (L:LY)(n:Nat)(t:BA):(jQ L n t).length=max n L.length:=by
 unfold jQ;simp;omega
theorem aIk (r t:BA)(fo:OA)(fn fc:Nat)(ht:t.size≤4294967296)(W:WL) :
  Calls prog 154 #[.agg #[.string r,.slice fo fn fc],iA 0,.string t] W fun e W'=>∃ v',e=.returned (.agg #[.string t,v'])∧Fr [] W W'∧W'.ownsRow W.heap.size 9 1 v' (cutF t).length ((cutF t).map .string):=by
 have HF:Hid _:=fun (W1:WL)=>yD t ht W1;generalize (cutF t).length=n at HF ⊢;generalize (cutF t).map Value.string=xs at HF ⊢;obtain⟨W0,hW0⟩:=eXi (W.alloc (.cells #[.string r,.slice fo fn fc] 76));have F0:=frA hW0
 have hs0:W.heap.size≤W0.heap.size:=F0.size;obtain⟨W1,hW1⟩:=eXi (W0.alloc (.cells #[.string ⟨#[]⟩,.slice none 0 0] 76));have F1:=frA hW1
 have k1:=kA hW1;have l1:=(Age.1 k1).1;have HF1:Hid _:=AI (F0.trans F1) (AI k1 (AI l1 hs0));clear ht F1 k1 l1 F0 hs0;go_enter func154,ntmps154;go_wp2_with fail;refine (HF.out W1).mono ?_;rintro e W2 ⟨v',rfl,F2,ow⟩;obtain⟨vo,vc,rfl⟩:=bF ow;obtain⟨F1,k1,l1,hs0⟩:=HF1.out;obtain⟨hy,z0,z1⟩:=nR ((F2.block _ l1 (by simp)).trans k1);obtain⟨W7,hW7,r0,r1,F7⟩:=set2 (x':=.string t) (y':=.slice vo n vc) hy;obtain⟨y0,y1⟩:=hy;have ow7:W7.ownsRow W.heap.size 9 1 (.slice vo n vc) n xs:=by
  have ow':W2.ownsRow W.heap.size 9 1 (.slice vo n vc) n xs:=by
   refine⟨ow.1,ow.2.imp id ?_⟩;rintro ⟨g,cap,cur,e1,e2,e3⟩;exact⟨g,cap,cur,e1,Nat.le_trans F1.size e2,e3⟩
  exact bP ow' fun g hg=>F7.block g (ow.lt g hg).2 (by
   simp;rintro rfl;have:=(ow.lt _ hg).1;omega)
 have HO:Hid _:=AI ((F1.trans F2).trans' F7 (by simp;omega)) ow7;clear ow ow7 F7 F2 F1 k1 l1 HF1 HF hs0;go_wp2_with fail;refine bodyPost_ret (v:=.agg #[.string t,.slice vo n vc]) (by simp[results,results154,go_sem,r0,r1]) rfl ?_;exact⟨_,rfl,HO.out.1,HO.out.2⟩
theorem aWb (r t:BA)(fo:OA)(fc n:Nat)(L:LY)(W:WL)(h1:1≤n)(h2:n≤1000)(hL:L.length≤1000)(ht:t.size≤1048576)(hLt:∀ x ∈ L,x.size≤1048576)(hc:∀ (i:Nat) (x:BA),L[i]?=some x→∃ gt off,fo=some (Ad gt off)∧W.cell? (Ad gt (off+i))=some (.string x)) :
  Calls prog 154 #[.agg #[.string r,.slice fo L.length fc],iA (n:Nat),.string t] W fun e W'=>∃ v',e=.returned (.agg #[.string ⟨(joinF (jQ L n t)).toArray⟩,v'])∧Fr [] W W'∧W'.ownsRow W.heap.size 9 1 v' (jQ L n t).length ((jQ L n t).map .string):=by
 obtain⟨m,hm⟩:=eXi (max n L.length);have hm1:m≤1000:=by omega
 have hpl:(jQ L n t).length=m:=(aNh L n t).trans hm;obtain⟨W0,hW0⟩:=eXi (W.alloc (.cells #[.string r,.slice fo L.length fc] 76));have F0:=frA hW0
 have k0:=kA hW0;have l0:=(Age.1 k0).1;obtain⟨W1,hW1⟩:=eXi (W0.alloc (.cells #[.string ⟨#[]⟩,.slice none 0 0] 76));have F1:=frA hW1
 have k1:=kA hW1;have l1:=(Age.1 k1).1;obtain⟨⟨y0,y1⟩,-,-⟩:=nR ((F1.block _ l0 (by simp)).trans k0);have hmk:=aOn m (by omega) W1;have hrow:=aNv W1 m (by omega) (B:=W.heap.size) (by omega);have F2:Fr [] W1 (W1.alloc (.cells (madeCells #[.string ⟨#[]⟩] m) 9)):=(Fr.refl [] W1).alloc _;obtain⟨W2,hW2⟩:=eXi (W1.alloc (.cells (madeCells #[.string ⟨#[]⟩] m) 9));rw[hW2] at hmk hrow F2;have F02:=(F0.trans F1).trans F2;have l2:W1.heap.size<W2.heap.size:=by rw[← hW2];simp
 have y1':W2.cell? (Ad W.heap.size 1)=some (.slice fo L.length fc):=(F2.cell (p:=Ad W.heap.size 1) (aB y1) (by simp)).trans y1;have hcp:(Builtin.copy_ #[22,22] 3 #[.slice (some (Ad W1.heap.size 0)) m m,.slice fo L.length fc]).run prog W2=.ok (goInt L.length) (W2.setCells W1.heap.size 0 (L.map .string)):=by
  rcases L with _ | ⟨a,L⟩
  ·exact run_copy_none W2 22 22 3 9 _ _ m m 0 fc underlying22 (by kernel_rfl) (by show Nat.min 0 m=0;simp)
  obtain⟨gt,off,rfl,-⟩:=hc 0 a rfl;have:=run_copy_cells (P:=prog) W2 22 22 3 9 W1.heap.size 0 m m (Ad gt off) (a :: L).length fc ((a :: L).map .string) underlying22 (by kernel_rfl) (by rw[List.length_map];simp only[List.length_cons] at hm ⊢;exact (Nat.min_eq_left (by omega)).symm) (fun j v hv=>by
   rw[pU];rw[List.getElem?_map] at hv;obtain⟨x,hx,rfl⟩:=Option.map_eq_some_iff.1 hv;obtain⟨gt',off',e,hcl⟩:=hc j x hx;obtain⟨rfl,rfl⟩:gt=gt'∧off=off':=by simpa using e
   exact (F02.cell (p:=Ad gt (off+j)) (aB hcl) (by simp)).trans hcl) (fun j hj=>by
   rw[Nat.zero_add,aF (j:=j) hrow (by rw[List.getElem?_replicate,if_pos (by rw[List.length_map] at hj;omega)])];rfl) (fun j hj=>bB hrow _) (by intro v hv;obtain⟨x,-,rfl⟩:=List.mem_map.1 hv;rfl)
  rw[List.length_map] at this;exact this
 have hrow3:=r9 (L.map .string) 0 _ _ hrow (by rw[List.length_map];omega);have F3:Fr [] W (W2.setCells W1.heap.size 0 (L.map .string)):=Fr.setCells (.inr (F0.trans F1).size) _ 0 _ F02;have hsz:∀ (us:LV) (o:Nat) (w:WL),(w.setCells W1.heap.size o us).heap.size=w.heap.size:=by
  intro us;induction us with
  | nil=>intro o w;rfl
  | cons u us ih=>intro o w;show ((w.setCell ⟨W1.heap.size,o,none⟩ u).setCells W1.heap.size (o+1) us).heap.size=_;rw[ih];simp[World.setCell]
 obtain⟨W3,hW3⟩:=eXi (W2.setCells W1.heap.size 0 (L.map .string));have l3:W3.heap.size=W2.heap.size:=by rw[← hW3];exact hsz _ _ _
 have hb6:∀ k,k<W1.heap.size→W3.heap[k]?=W1.heap[k]?:=fun k hk=>by
  rw[← hW3];have:Fr [] W1 (W2.setCells W1.heap.size 0 (L.map .string)):=Fr.setCells (.inr (Nat.le_refl _)) _ 0 _ F2;exact this.block k hk (by simp)
 rw[hW3] at hcp hrow3 F3;have hr3:=nH hrow3 (j:=n-1) (by omega) (.string t);rw[aNf L n t hm.symm] at hr3;have x3:∃ u,W3.cell? (Ad W1.heap.size (n-1))=some u:=by
  obtain⟨u,hu⟩:∃ u,((List.replicate m (Value.string ⟨#[]⟩)).take 0++L.map Value.string++(List.replicate m (Value.string ⟨#[]⟩)).drop (0+(L.map Value.string).length))[n-1]?=some u:=⟨_,Lge (by have:=hrow3.1;rw[this];omega)⟩;exact⟨u,aF hrow3 hu⟩
 obtain⟨u3,x3⟩:=x3;have z3:=bB hrow3 (n-1);have F4:Fr [] W (W3.setCell ⟨W1.heap.size,n-1,none⟩ (.string t)):=F3.setCell (.inr (F0.trans F1).size) _;have hb7:∀ k,k<W1.heap.size→(W3.setCell ⟨W1.heap.size,n-1,none⟩ (.string t)).heap[k]?=W1.heap[k]?:=fun k hk=>(Below.heap_setCell _ _ _ _ (by show k≠W1.heap.size;omega)).trans (hb6 k hk);have l4:(W3.setCell ⟨W1.heap.size,n-1,none⟩ (.string t)).heap.size=W2.heap.size:=by rw[← l3];simp[World.setCell]
 obtain⟨W4,hW4⟩:=eXi (W3.setCell ⟨W1.heap.size,n-1,none⟩ (.string t));rw[hW4] at hr3 F4 hb7 l4;have HJ:Hid _:=fun (_:Unit)=>aPf W1.heap.size (jQ L n t) W4 (by omega) (by rw[hpl];omega) (fun x hx=>by
  unfold jQ at hx;rcases List.mem_or_eq_of_mem_set hx with hx | rfl
  ·rcases List.mem_append.1 hx with hx | hx
   ·exact hLt x hx
   rw[List.eq_of_mem_replicate hx];decide
  ·exact ht) (fun j x hj=>by
  rw[Nat.zero_add];exact aF hr3 (by rw[List.getElem?_map,hj];rfl))
 rw[hpl] at HJ ⊢;have HF:Hid _:=AI F4 (AI hr3 (AI hb7 (AI k1 (AI l1 (AI F0.size l4)))));have hmx:max (n:Int) (L.length:Int)=(m:Int):=by omega
 have hw1:IntKind.i64.wrap ((n:Int)-1)=((n-1:Nat):Int):=by rw[IntKind.wrap_i64];omega
 have hlt:((n-1:Nat):Int)<(m:Int):=by omega
 have hn0:((n:Int)==0)=false:=by simp;omega
 have hwl:IntKind.i64.wrap (L.length:Int)=L.length:=by rw[IntKind.wrap_i64];omega
 generalize (jQ L n t).map Value.string=xs at HF ⊢;generalize (⟨(joinF (jQ L n t)).toArray⟩:BA)=jn at HJ ⊢;generalize L.length=ln at *;obtain⟨n1,hn1⟩:=eXi (n-1);rw[hn1] at hw1 hlt x3 z3 hW4;clear hn1 F0 F1 F2 F02 F3 F4 hrow hrow3 hr3 hb6 hb7 hsz hc hLt ht k0 k1 l0 l1 l2 l3 l4 hpl;go_enter func154,ntmps154;clear hW2 hW3;go_wp2_with fail;refine (HJ.out ()).mono ?_;rintro e W5 ⟨rfl,F5⟩;obtain⟨F4,hr4,hb7,k1,l1,hs0,l4⟩:=HF.out;have k5:W5.heap[W0.heap.size]?=some (.cells #[.string ⟨#[]⟩,.slice none 0 0] 76):=(F5.block _ (Nll l1 (by
  have:=(aB x3);have:W1.heap.size<W3.heap.size:=this;have e:W4.heap.size=W3.heap.size:=by rw[← hW4];simp[World.setCell]
  omega)) (by simp)).trans ((hb7 _ l1).trans k1)
 obtain⟨hy,z0,z1⟩:=nR k5;obtain⟨W7,hW7,r0,r1,F7⟩:=set2 (x':=.string jn) (y':=.slice (some (Ad W1.heap.size 0)) m m) hy;obtain⟨v0,v1⟩:=hy;have hbd:=aIa jn (some (Ad W1.heap.size 0)) m m;have ow7:W7.ownsRow W.heap.size 9 1 (.slice (some (Ad W1.heap.size 0)) m m) m xs:=by
  have ow5:=bP hr4 fun g hg=>F5.block g (hr4.lt g hg).2 (by simp);exact bP ow5 fun g hg=>F7.block g (ow5.lt g hg).2 (by
   have:W1.heap.size=g:=by simpa [Value.ownBlock] using hg
   simp;omega)
 have HO:Hid _:=AI ((F4.trans F5).trans' F7 (by simp;omega)) ow7;clear ow7 F7 F5 F4 hr4 hb7 k1 l1 HF HJ hs0 l4 k5;go_wp2_with fail;refine bodyPost_ret (v:=.agg #[.string jn,.slice (some (Ad W1.heap.size 0)) m m]) (by simp[results,results154,go_sem,r0,r1]) rfl ?_;exact⟨_,rfl,HO.out.1,HO.out.2⟩
section
variable {E:Env}{X:Nat}{g:Pl}{s:Ms}{W W':WL}{tag:NN}
theorem MM.setBad (h:MM E X g s W tag)(n:Int)(hn:n<0∨n>50)(t:BA):Calls prog 112 #[ptr X,iA n,.string t] W (MP E X g s tag W (stI 5)):=by
 have HM:Hid _:=h;clear h;rcases Decidable.em (n<0) with c | c
 ·go_enter func112,ntmps112;go_wp2_with fail;go_ret;exact⟨rfl,tag,HM.out,Kp.refl _ _⟩
 have c2:n>50:=by omega
 go_enter func112,ntmps112;go_wp2_with fail;go_ret;exact⟨rfl,tag,HM.out,Kp.refl _ _⟩
theorem MM.setGood (h:MM E X g s W tag){n:Nat}(hn:n≤50)(t:BA){jt:BA}{fl:LY}
  (H:∀ (fo:OA) (fc:Nat),W.cell? (Ad X 7)=some (.slice fo s.w.flds.length fc)→Calls prog 154 #[.agg #[.string s.w.rcd,.slice fo s.w.flds.length fc],iA (n:Nat),.string t] W fun e W'=>∃ v',e=.returned (.agg #[.string jt,v'])∧Fr [] W W'∧W'.ownsRow W.heap.size 9 1 v' fl.length (fl.map .string)) :
  Calls prog 112 #[ptr X,iA (n:Nat),.string t] W (MP E X g (if jt.size>100 then s else xZ s jt fl) tag W (stI (if jt.size>100 then 6 else 0))):=by
 have x6:=h.xrcd;obtain⟨fo,fc,x7,hfc,-⟩:=h.flds;have HC:Hid _:=fun (_:Unit)=>H fo fc x7;have HS:Hid _:=fun (W2:WL) (F:Fr [] W W2) (v':Value) (ow:W2.ownsRow W.heap.size 9 1 v' fl.length (fl.map .string))=>h.setRec F ow jt;have HL:Hid _:=fun (W:WL)=>qY jt W;have HM:Hid (MM E X g s W tag):=h;have g0:¬ (n:Int)<0:=by omega
 have g1:¬ (n:Int)>50:=by omega
 rcases Nat.lt_or_ge 100 jt.size with c | c
 ·rw[if_pos c,if_pos c];rw[show decide ((jt.size:Int)>100)=true from decide_eq_true (by omega)] at HL;clear h H HS hn c;go_enter func112,ntmps112;go_wp2_with fail;refine (HC.out ()).mono ?_;rintro e W2 ⟨v',rfl,F2,ow⟩;obtain⟨vo,vc,rfl⟩:=bF ow;obtain⟨W3,hW3⟩:=eXi (W2.alloc (.cells #[.string jt,.slice vo fl.length vc] 76));have F3:Fr [] W W3:=by rw[← hW3];exact F2.alloc _
  have k3:=kA hW3;obtain⟨⟨y0,y1⟩,-,-⟩:=nR k3;have HF:Hid _:=F3;clear ow F2 F3 k3 HC;generalize fl.length=n4 at *;go_wp2_with fail;refine (HL.out W3).mono ?_;rintro e W4 ⟨rfl,rfl⟩;clear HL;go_wp2_with fail;go_ret;obtain⟨t3,h3,k3⟩:=MM.fr HM.out HF.out;exact⟨rfl,t3,h3,k3⟩
 have c':¬ jt.size>100:=by omega
 rw[if_neg c',if_neg c'];rw[show decide ((jt.size:Int)>100)=false from decide_eq_false (by omega)] at HL;generalize xZ s jt fl=s2 at HS ⊢;clear h H hn c c';go_enter func112,ntmps112;go_wp2_with fail;refine (HC.out ()).mono ?_;rintro e W2 ⟨v',rfl,F2,ow⟩;obtain⟨W3,hW3⟩:=eXi (W2.alloc (.cells #[.string jt,v'] 76));have F23:=frA hW3
 have k3:=kA hW3;obtain⟨⟨y0,y1⟩,-,-⟩:=nR k3;have ow3:=bP ow fun q hq=>F23.block q (ow.lt q hq).2 (by simp);obtain⟨⟨z6,z7⟩,⟨u6,q6⟩,⟨u7,q7⟩,t3,h3,kk3⟩:=HS.out W3 (F2.trans F23) v' ow3;obtain⟨vo,vc,rfl⟩:=bF ow;have q7':(W3.setCell ⟨X,6,none⟩ (.string jt)).cell? (Ad X 7)=some u7:=by rw[aA (by decide)];exact q7
 obtain⟨W4,hW4⟩:=eXi ((W3.setCell ⟨X,6,none⟩ (.string jt)).setCell ⟨X,7,none⟩ (.slice vo fl.length vc));rw[hW4] at h3 kk3;have HM4:Hid _:=AI h3 kk3;clear ow ow3 F2 F23 k3 HC HS h3 kk3;generalize fl.length=n4 at *;go_wp2_with fail;refine (HL.out W3).mono ?_;rintro e W5 ⟨rfl,rfl⟩;clear HL;go_wp2_with fail;go_ret;exact⟨rfl,t3,HM4.out.1,HM4.out.2⟩
end
section
variable {E:Env}{X:Nat}{g:Pl}{s:Ms}{W W':WL}{tag:NN}
def xY (s:Ms) (n:Int) (t:BA):Ms:={ s with w:=(bO s.w n t).1 }
theorem MM.setF (h:MM E X g s W tag)(n:Int)(t:BA)(ht:t.size≤100)(hl:s.w.flds.length≤1000)(hf:∀ x ∈ s.w.flds,x.size≤1048576) :
  Calls prog 112 #[ptr X,iA n,.string t] W (MP E X g (xY s n t) tag W (stI (bO s.w n t).2)):=by
 unfold xY bO;by_cases c:n<0∨n>50
 ·simp only[if_pos c];exact h.setBad n c t
 simp only[if_neg c];obtain⟨k,rfl⟩:∃ k:Nat,n=(k:Int):=⟨n.toNat,by omega⟩;by_cases c0:(k:Int)=0
 ·simp only[if_pos c0];have:=h.setGood (n:=k) (by omega) t (jt:=t) (fl:=cutF t) (fun fo fc hx=>by
   rw[c0];exact aIk s.w.rcd t fo _ fc (by omega) W)
  rw[if_neg (by omega),if_neg (by omega)] at this;exact this
 simp only[if_neg c0,Int.toNat_natCast];have hsz:(⟨(joinF (jQ s.w.flds k t)).toArray⟩:BA).size=(joinF (jQ s.w.flds k t)).length:=by
  show Array.size _=_;simp
 have:=h.setGood (n:=k) (by omega) t (jt:=⟨(joinF (jQ s.w.flds k t)).toArray⟩) (fl:=jQ s.w.flds k t) (fun fo fc hx=>by
  obtain⟨fo',fc',hx',-,hc⟩:=h.flds;rw[hx] at hx';obtain⟨rfl,rfl⟩:fo=fo'∧fc=fc':=by simpa using hx'
  exact aWb s.w.rcd t fo fc k s.w.flds W (by omega) (by omega) hl (by omega) hf hc)
 rw[hsz] at this;by_cases c1:(joinF (jQ s.w.flds k t)).length>100
 ·rw[if_pos c1,if_pos c1] at this;simp only[if_pos c1];exact this
 rw[if_neg c1,if_neg c1] at this;simp only[if_neg c1];exact this
theorem MM.rsetfield (hE:aU E)(h:MM E X g s W tag){l:List aJ}{u v:Val} (hs:s.fr.stk=l++[cv u,cv v]) (hl:s.fr.stk.length≤1024) (hu:SmV u) (hv:SmV v) (ht:(aD E v).size≤100) (hfl:s.w.flds.length≤1000) (hf:∀ x ∈ s.w.flds,x.size≤1048576) :
  Calls prog 63 #[ptr X,fp g s,.int .u8 8] W (MP E X g (xY (aC s l) (numV u) (aD E v)) tag W (stI (bO s.w (numV u) (aD E v)).2)):=by
 have hs1:s.fr.stk=(l++[cv u])++[cv v]:=by rw[hs];simp
 have hlu:(l++[cv u]).length≤1024:=by rw[hs] at hl;simp at hl ⊢;omega
 have HP:Hid _:=fun (_:Unit)=>MM.popText hE h hs1 hl hv;have HN:Hid _:=fun (W1:WL) (t1:NN) (h1:MM E X g (aC s (l++[cv u])) W1 t1)=>MM.popNumber h1 (l:=l) (v:=u) rfl hlu hu;have HS:Hid _:=fun (W1:WL) (t1:NN) (h1:MM E X g (aC s l) W1 t1)=>MM.setF h1 (numV u) (aD E v) ht hfl hf;replace HN:Hid (∀ (W1:WL) (t1:NN),MM E X g (aC s (l++[cv u])) W1 t1→Calls prog 109 #[fp g s] W1 (MP E X g (aC s l) t1 W1 (iA (numV u)))):=HN;replace HS:Hid (∀ (W1:WL) (t1:NN),MM E X g (aC s l) W1 t1→Calls prog 112 #[ptr X,iA (numV u),.string (aD E v)] W1 (MP E X g (xY (aC s l) (numV u) (aD E v)) t1 W1 (stI (bO s.w (numV u) (aD E v)).2))):=HS;generalize xY (aC s l) (numV u) (aD E v)=s2 at HS ⊢;generalize (bO s.w (numV u) (aD E v)).2=st at HS ⊢;generalize aD E v=tx at HP HS;generalize numV u=nn at HN HS;clear h hs hs1 ht hfl hf;go_enter func63,ntmps63;go_wp2_with fail;refine (HP.out ()).mono ?_;rintro e W1 ⟨rfl,t1,h1,k1⟩;have HM1:Hid _:=AI h1 (k1);have HK1:Hid _:=k1;clear h1 k1 HP;go_wp2_with fail;refine (HN.out W1 t1 HM1.out.1).mono ?_;rintro e W2 ⟨rfl,t2,h2,k2⟩;have HM2:Hid _:=AI h2 (HM1.out.2.trans k2);have HK2:Hid _:=k2;clear h2 k2 HN;go_wp2_with fail;refine (HS.out W2 t2 HM2.out.1).mono ?_;rintro e W3 ⟨rfl,t3,h3,k3⟩;have HM3:Hid _:=AI h3 (HM2.out.2.trans k3);have HK3:Hid _:=k3;clear h3 k3 HS;go_wp2_with fail;go_ret;exact⟨rfl,t3,HM3.out.1,HM3.out.2⟩
end
section
variable {E:Env}{X:Nat}{g:Pl}{s:Ms}{W W':WL}{tag:NN}
theorem MM.patAt (h:MM E X g s W tag){i:Nat}{t:BA} (hi:E.mo.pats[i]?=some t) :
  ∃ gp n cap pb,g.pv=.slice (some (Ad gp 0)) n cap∧i<n∧n≤1000∧W.cell? (Ad X 1)=some (.slice (some (Ad gp 0)) n cap)∧W.cell? (Ad gp i)=some (ptr pb)∧pb<W.heap.size∧tag pb=9∧gp<W.heap.size∧tag gp=9∧oK E W pb t:=by
 obtain⟨h6,lv,R,mp,x,hx,h⟩:=h;obtain⟨o,cap,e1,e2,e3⟩:=h.sta.pat;obtain⟨gp,pb,q1,q2,q3,q4,q5,q6,q7⟩:=e3 i t hi;rw[q1] at e1;exact⟨gp,E.mo.pats.length,cap,pb,hx.1.2.2.1.symm.trans e1,(Lgs.1 hi).1,e2,h.xc (by rw[← e1];rfl),q4,q5,q6,q2,q3,q7⟩
theorem MM.pfind (hE:aU E)(h:MM E X g s W tag){l:List aJ}{v:Val} (hs:s.fr.stk=l++[cv v]) (hl:s.fr.stk.length≤1024) (hv:SmV v) (hx:(aD E v).size≤100) {a:Nat}{t:BA} (ha:E.mo.pats[a]?=some t) (hb:-1≤(E.fnd t (aD E v)).1∧(E.fnd t (aD E v)).1≤1000000) (pl b q:Int) :
  Calls prog 70 #[ptr X,fp g s,inV 35 pl (a:Nat) b q] W (MP E X g (aC s (l++[cv (whole ((E.fnd t (aD E v)).1+1))])) tag W (stI 0)):=by
 have hl1:l.length<1024:=by rw[hs] at hl;simp at hl;omega
 obtain⟨W1,hW1,F1,⟨b0,b1,b2,b3,b4⟩,l1⟩:=gG W 35 pl (a:Nat) b q;obtain⟨t1,h1,k1,hb1⟩:=MM.box h F1;have HM1:Hid _:=AI h1 k1;have hq:t1 W.heap.size<10:=by rw[hb1 _ (Nat.le_refl _)];decide
 have HB:Hid _:=fun (W2:WL) (t2:NN) (k:Kp t1 t2 W1 W2)=>AI ((k.cell (p:=Ad W.heap.size 0) l1 hq).trans b0) (AI ((k.cell (p:=Ad W.heap.size 2) l1 hq).trans b2) ((k.cell (p:=Ad W.heap.size 3) l1 hq).trans b3));have HP:Hid _:=fun (_:Unit)=>MM.popText hE h1 hs hl hv;have HA:Hid _:=fun (W2:WL) (t2:NN) (h2:MM E X g (aC s l) W2 t2)=>AI (h2.patAt ha) h2.tab;have HG:Hid _:=fun (W2:WL) (pb:Nat) (hp:oK E W2 pb t) (hT:Tab W2)=>(hp W2 rfl hT).1 (aD E v) hx;have HQ:Hid _:=fun (W2:WL) (t2:NN) (h2:MM E X g (aC s l) W2 t2)=>MM.pushNumber h2 (show l.length<1024 from hl1) ((E.fnd t (aD E v)).1+1);have hw:IntKind.i64.wrap ((E.fnd t (aD E v)).1+1)=(E.fnd t (aD E v)).1+1:=by rw[IntKind.wrap_i64];omega
 generalize (E.fnd t (aD E v)).1=p1 at *;generalize (E.fnd t (aD E v)).2=p2 at *;generalize aD E v=tx at *;clear h h1 k1 F1 l1 hb1 hx hb hq b0 b1 b2 b3 b4;go_enter func70,ntmps70;go_wp2_with fail;refine (HP.out ()).mono ?_;rintro e W2 ⟨rfl,t2,h2,k2⟩;have HM2:Hid _:=AI h2 (HM1.out.2.trans k2);have HK2:Hid _:=k2;clear h2 k2 HP;obtain⟨b0,b2,-⟩:=HB.out W2 t2 HK2.out;obtain⟨⟨gp,n,cap,pb,-,hin,hn,x1,xp,-,-,-,-,hg⟩,hT⟩:=HA.out W2 t2 HM2.out.1;have HC:Hid _:=fun (_:Unit)=>HG.out W2 pb hg hT;have hi':(a:Int)<n:=by omega
 clear hg hT HA HG HB HK2;go_wp2_with fail;refine (HC.out ()).mono ?_;rintro e W3 ⟨rfl,F3⟩;obtain⟨t3,h3,k3⟩:=MM.fr HM2.out.1 F3;have HM3:Hid _:=AI h3 (HM2.out.2.trans k3);have HK3:Hid _:=k3;clear h3 k3 F3;clear HC;go_wp2_with fail;refine (HQ.out W3 t3 HM3.out.1).mono ?_;rintro e W4 ⟨rfl,t4,h4,k4⟩;have HM4:Hid _:=AI h4 (HM3.out.2.trans k4);have HK4:Hid _:=k4;clear h4 k4 HQ;go_wp2_with fail;go_ret;exact⟨rfl,t4,HM4.out.1,HM4.out.2⟩
theorem MM.pspan (hE:aU E)(h:MM E X g s W tag){l:List aJ}{v:Val} (hs:s.fr.stk=l++[cv v]) (hl:s.fr.stk.length≤1024) (hv:SmV v) (hx:(aD E v).size≤100) {a:Nat}{t:BA} (ha:E.mo.pats[a]?=some t) (pl b q:Int) :
  Calls prog 70 #[ptr X,fp g s,inV 36 pl (a:Nat) b q] W (MP E X g (aC s (l++[cv (whole (if (E.fnd t (aD E v)).1<0 then -1 else (E.fnd t (aD E v)).2))])) tag W (stI 0)):=by
 have hl1:l.length<1024:=by rw[hs] at hl;simp at hl;omega
 obtain⟨W1,hW1,F1,⟨b0,b1,b2,b3,b4⟩,l1⟩:=gG W 36 pl (a:Nat) b q;obtain⟨t1,h1,k1,hb1⟩:=MM.box h F1;have HM1:Hid _:=AI h1 k1;have hq:t1 W.heap.size<10:=by rw[hb1 _ (Nat.le_refl _)];decide
 have HB:Hid _:=fun (W2:WL) (t2:NN) (k:Kp t1 t2 W1 W2)=>AI ((k.cell (p:=Ad W.heap.size 0) l1 hq).trans b0) (AI ((k.cell (p:=Ad W.heap.size 2) l1 hq).trans b2) ((k.cell (p:=Ad W.heap.size 3) l1 hq).trans b3));have HP:Hid _:=fun (_:Unit)=>MM.popText hE h1 hs hl hv;have HA:Hid _:=fun (W2:WL) (t2:NN) (h2:MM E X g (aC s l) W2 t2)=>AI (h2.patAt ha) h2.tab;have HG:Hid _:=fun (W2:WL) (pb:Nat) (hp:oK E W2 pb t) (hT:Tab W2)=>(hp W2 rfl hT).1 (aD E v) hx;have HQ:Hid _:=fun (W2:WL) (t2:NN) (h2:MM E X g (aC s l) W2 t2)=>MM.pushNumber h2 (show l.length<1024 from hl1) (if (E.fnd t (aD E v)).1<0 then -1 else (E.fnd t (aD E v)).2);generalize (E.fnd t (aD E v)).1=p1 at *;generalize (E.fnd t (aD E v)).2=p2 at *;generalize aD E v=tx at *;clear h h1 k1 F1 l1 hb1 hx hq b0 b1 b2 b3 b4;rcases Decidable.em (p1<0) with c | c
 ·rw[if_pos c] at HQ ⊢;go_enter func70,ntmps70;go_wp2_with fail;refine (HP.out ()).mono ?_;rintro e W2 ⟨rfl,t2,h2,k2⟩;have HM2:Hid _:=AI h2 (HM1.out.2.trans k2);have HK2:Hid _:=k2;clear h2 k2 HP;obtain⟨b0,b2,-⟩:=HB.out W2 t2 HK2.out;obtain⟨⟨gp,n,cap,pb,-,hin,hn,x1,xp,-,-,-,-,hg⟩,hT⟩:=HA.out W2 t2 HM2.out.1;have HC:Hid _:=fun (_:Unit)=>HG.out W2 pb hg hT;have hi':(a:Int)<n:=by omega
  clear hg hT HA HG HB HK2;go_wp2_with fail;refine (HC.out ()).mono ?_;rintro e W3 ⟨rfl,F3⟩;obtain⟨t3,h3,k3⟩:=MM.fr HM2.out.1 F3;have HM3:Hid _:=AI h3 (HM2.out.2.trans k3);have HK3:Hid _:=k3;clear h3 k3 F3;clear HC;go_wp2_with fail;refine (HQ.out W3 t3 HM3.out.1).mono ?_;rintro e W4 ⟨rfl,t4,h4,k4⟩;have HM4:Hid _:=AI h4 (HM3.out.2.trans k4);have HK4:Hid _:=k4;clear h4 k4 HQ;go_wp2_with fail;go_ret;exact⟨rfl,t4,HM4.out.1,HM4.out.2⟩
 rw[if_neg c] at HQ ⊢;go_enter func70,ntmps70;go_wp2_with fail;refine (HP.out ()).mono ?_;rintro e W2 ⟨rfl,t2,h2,k2⟩;have HM2:Hid _:=AI h2 (HM1.out.2.trans k2);have HK2:Hid _:=k2;clear h2 k2 HP;obtain⟨b0,b2,-⟩:=HB.out W2 t2 HK2.out;obtain⟨⟨gp,n,cap,pb,-,hin,hn,x1,xp,-,-,-,-,hg⟩,hT⟩:=HA.out W2 t2 HM2.out.1;have HC:Hid _:=fun (_:Unit)=>HG.out W2 pb hg hT;have hi':(a:Int)<n:=by omega
 clear hg hT HA HG HB HK2;go_wp2_with fail;refine (HC.out ()).mono ?_;rintro e W3 ⟨rfl,F3⟩;obtain⟨t3,h3,k3⟩:=MM.fr HM2.out.1 F3;have HM3:Hid _:=AI h3 (HM2.out.2.trans k3);have HK3:Hid _:=k3;clear h3 k3 F3;clear HC;go_wp2_with fail;refine (HQ.out W3 t3 HM3.out.1).mono ?_;rintro e W4 ⟨rfl,t4,h4,k4⟩;have HM4:Hid _:=AI h4 (HM3.out.2.trans k4);have HK4:Hid _:=k4;clear h4 k4 HQ;go_wp2_with fail;go_ret;exact⟨rfl,t4,HM4.out.1,HM4.out.2⟩
end
theorem aFo (E:Env)(l:LY)(x:BA):∀ i,cH E i (l++[x])=cH E i l++[(E.itoa ((i+l.length:Nat)+1:Int),dF x)]:=by
 induction l with
 | nil=>intro i;simp[cH]
 | cons a l ih=>
  intro i;rw[List.cons_append,cH,ih (i+1),cH,List.cons_append,show i+1+l.length=i+(a :: l).length by simp only[List.length_cons];omega]
section
variable {E:Env}{X:Nat}{g:Pl}{s:Ms}{W W':WL}{tag:NN}
theorem aAy (s:Ms)(i:Nat)(a b:List (BA × Val)):bG (bG s i a) i b=bG s i b:=by
 unfold bG;simp only[List.set_set]
def FlI (E:Env) (X:Nat) (g:Pl) (s:Ms) (i:Nat) (L:LY) (tag:NN) (W:WL) (k:Nat) (wr:WL):Prop:=∃ t,MM E X g (bG s i (cH E 0 (L.take k))) wr t∧Kp tag t W wr
theorem aPx {E:Env}(hS:SmE E){L:LY}{k:Nat} (hk:k<L.length) (hn:L.length≤30):bI (cH E 0 (L.take k)) (E.itoa ((k:Int)+1))=false:=by
 rcases hq:bI (cH E 0 (L.take k)) (E.itoa ((k:Int)+1)) with _ | _
 ·rfl
 obtain⟨j,g1,g2,g3⟩:=yO (kM.1 hq);rw[List.length_take] at g2;have:=hS.inj (k+1) j (by omega) (by omega) (by rw[← g3];congr 1);omega
theorem FlI.step (hS:SmE E){ga c:Nat}(hg:g.av=.slice (some (Ad ga 0)) s.w.arrs.length c){i:Nat}(hi:i<s.w.arrs.length){L:LY}(hn:L.length≤30)(hL:∀ x ∈ L,x.size≤100){k:Nat}(hk:k<L.length){wr:WL}{t:NN} (M:MM E X g (bG s i (cH E 0 (L.take k))) wr t) (K:Kp tag t W wr) {x:BA} (hx:L[k]?=some x) :
  Calls prog 117 #[.pointer (some (Ad ga (i*2))),.string (E.itoa ((k:Int)+1)),vV (dF x)] wr fun e W'=>e=.returned cR∧FlI E X g s i L tag W (k+1) W':=by
 have hlen:(bG s i (cH E 0 (L.take k))).w.arrs.length=s.w.arrs.length:=nT s i _;have hget:(bG s i (cH E 0 (L.take k))).w.arrs.getD i []=cH E 0 (L.take k):=zA s hi _;have hnew:=aPx hS hk hn;obtain⟨q1,q2⟩:=aCr (i:=0) hS (l:=L.take k) (fun t ht=>hL t (List.mem_of_mem_take ht)) (by rw[List.length_take];omega);have ho:dO (cH E 0 (L.take k)):=⟨q1,fun e he=>Nat.le_trans (q2 e he).1 (by decide)⟩;have hfl:(cH E 0 (L.take k)).length<100000:=by rw[sQ,List.length_take];omega
 have:=M.setNew (c:=c) (by rw[hlen];exact hg) (i:=i) (by rw[hlen];exact hi) (key:=E.itoa ((k:Int)+1)) (Nat.le_trans (hS.itoa _ (by omega) (by omega)) (by decide)) (by rw[hget];exact ho) (by rw[hget];exact hnew) (by rw[hget];exact hfl) (dF x);rw[hget,aAy,sB hnew] at this;refine this.mono fun e W' ⟨he,t',M',K'⟩=>⟨he,t',?_,K.trans K'⟩;have e1:L.take (k+1)=L.take k++[x]:=by
  rw[List.take_add_one,hx];rfl
 have e2:(L.take k).length=k:=by rw[List.length_take];omega
 rw[e1,aFo,Nat.zero_add,e2];exact M'
theorem MM.fill (hE:aU E)(hS:SmE E)(h:MM E X g s W tag){ga c:Nat}(hg:g.av=.slice (some (Ad ga 0)) s.w.arrs.length c){i:Nat}(hi:i<s.w.arrs.length){L:LY}(hn:L.length≤30)(hL:∀ x ∈ L,x.size≤100){o:OA}{lc:Nat} (hc:∀ (j:Nat) (x:BA),L[j]?=some x→∃ gl off,o=some (Ad gl off)∧tag gl<10∧W.cell? (Ad gl (off+j))=some (.string x)) :
  Calls prog 131 #[.pointer (some (Ad ga (i*2))),.slice o L.length lc] W (MP E X g (bG s i (cH E 0 L)) tag W cR):=by
 have HE0:Hid _:=fun (_:Unit)=>h.empty hg hi;have HST:Hid _:=fun (k:Nat) (hk:k<L.length) (wr:WL) (J:FlI E X g s i L tag W k wr)=>by
  obtain⟨t,M,K⟩:=J;obtain⟨x,hx⟩:∃ x,L[k]?=some x:=⟨_,Lge hk⟩;obtain⟨gl,off,e1,e2,e3⟩:=hc k x hx;have hgl:=aB e3;exact (⟨x,gl,off,t,M,K,e1,(K.cell (p:=Ad gl (off+k)) hgl e2).trans e3,M.pow,hL x (List.mem_of_getElem? hx),fun wr' t' M' K'=>FlI.step hS hg hi hn hL hk M' K' hx⟩:∃ x gl off t,MM E X g (bG s i (cH E 0 (L.take k))) wr t∧Kp tag t W wr∧o=some (Ad gl off)∧wr.cell? (Ad gl (off+k))=some (.string x)∧eL wr∧x.size≤100 ∧
   ∀ (wr':WL) (t':NN),MM E X g (bG s i (cH E 0 (L.take k))) wr' t'→Kp tag t' W wr'→Calls prog 117 #[.pointer (some (Ad ga (i*2))),.string (E.itoa ((k:Int)+1)),vV (dF x)] wr' fun e W'=>e=.returned cR∧FlI E X g s i L tag W (k+1) W')
 have HEND:Hid (∀ wr,FlI E X g s i L tag W L.length wr→∃ t,MM E X g (bG s i (cH E 0 L)) wr t∧Kp tag t W wr):=fun wr J=>by
  obtain⟨t,M,K⟩:=J;rw[List.take_length] at M;exact⟨t,M,K⟩
 have HBEG:Hid (∀ wr t,MM E X g (bG s i []) wr t→Kp tag t W wr→FlI E X g s i L tag W 0 wr):=fun wr t M K=>⟨t,M,K⟩;have hit:E.itoa=pA:=hE.itoa;generalize bG s i (cH E 0 L)=s2 at HEND ⊢;obtain⟨n,hn'⟩:∃ n,L.length=n:=⟨_,rfl⟩;rw[hn'] at hn HST HEND ⊢;have hw64:IntKind.i64.wrap (n:Int)=n:=by rw[IntKind.wrap_i64];omega
 clear h hc hL hn';go_enter func131,ntmps131;go_wp2_with fail;refine (HE0.out ()).mono ?_;rintro e W1 ⟨rfl,t1,M1,K1⟩;have J0:Hid _:=HBEG.out W1 t1 M1 K1;clear M1 K1 HE0 HBEG;go_wp2
 go_loopw [10] (fun q wr=>∃ k:Nat,k≤n∧q=iA k∧Hid (FlI E X g s i L tag W k wr)) (fun q _=>n-(intOf q).toNat)
 case atStart=>exact⟨0,by omega,rfl,J0⟩
 case round=>
  clear J0;obtain⟨k,hk,rfl,J⟩:=hrel;by_cases hlt:k<n
  ·have g1:(k:Int)<n:=by omega
   obtain⟨x,gl,off,t,M,K,rfl,hcell,hpow,hxs,HS⟩:=HST.out k hlt wr J.out;have HM:Hid _:=AI M K;have HI:Hid _:=fun (_:Unit)=>aCc ((k:Int)+1) wr (by omega) (by omega) hpow;have HR:Hid _:=fun (W2:WL)=>aEm x (Nat.le_trans hxs (by decide)) W2;have HSS:Hid _:=HS;rw[hit] at HSS;have hw1:IntKind.i64.wrap ((k:Int)+1)=(k:Int)+1:=by rw[IntKind.wrap_i64];omega
   unfold vV at HSS HR;generalize pA ((k:Int)+1)=key at HI HSS;generalize ((dF x).kind:Int)=kk at HR HSS;generalize vN (dF x)=mm at HR HSS;generalize vS (dF x)=tt at HR HSS;clear M K hpow HS HST J hit;go_wp2_with fail;refine (HI.out ()).mono ?_;rintro e W2 ⟨rfl,F2⟩;have HF2:Hid _:=F2;clear F2 HI;go_wp2_with fail;refine (HR.out W2).mono ?_;rintro e W3 ⟨rfl,F3⟩;obtain⟨t3,M3,K3⟩:=MM.fr HM.out.1 (HF2.out.trans F3);have HC:Hid _:=fun (_:Unit)=>HSS.out W3 t3 M3 (HM.out.2.trans K3);clear M3 K3 F3 HR HSS;go_wp2_with fail;refine (HC.out ()).mono ?_;rintro e W4 ⟨rfl,J4⟩;have HJ:Hid _:=J4;clear J4 HC;go_wp2_with fail;exact⟨⟨k+1,by omega,by go_num,HJ⟩,by simp[intOf];omega⟩
  have g1:¬ ((k:Int)<n):=by omega
  have hkn:k=n:=by omega
  subst hkn;have HF:Hid _:=HEND.out wr J.out;clear HEND HST J;go_wp2_with fail;refine bodyPost_end (results_none rfl _ _ _) rfl ?_;exact⟨rfl,HF.out⟩
end
section
variable {E:Env}{X:Nat}{g:Pl}{s:Ms}{W W':WL}{tag:NN}
theorem MM.pswap (hE:aU E)(h:MM E X g s W tag){l:List aJ}{u v:Val} (hs:s.fr.stk=l++[cv u,cv v]) (hl:s.fr.stk.length≤1024) (hu:SmV u) (hv:SmV v) (hxu:(aD E u).size≤100) (hxv:(aD E v).size≤100) {a:Nat}{t:BA} (ha:E.mo.pats[a]?=some t) (pl b q:Int) :
  Calls prog 70 #[ptr X,fp g s,inV 37 pl (a:Nat) b q] W (MP E X g (aC s (l++if (E.swp t (aD E u) (aD E v)).size>100 then [] else [cv (dZ (E.swp t (aD E u) (aD E v)))])) tag W (stI (if (E.swp t (aD E u) (aD E v)).size>100 then 6 else 0))):=by
 have hs1:s.fr.stk=(l++[cv u])++[cv v]:=by rw[hs];simp
 have hlu:(l++[cv u]).length≤1024:=by rw[hs] at hl;simp at hl ⊢;omega
 have hl1:l.length<1024:=by simp at hlu;omega
 have hm:=hmX
 obtain⟨W1,hW1,F1,⟨b0,b1,b2,b3,b4⟩,l1⟩:=gG W 37 pl (a:Nat) b q;obtain⟨t1,h1,k1,hb1⟩:=MM.box h F1;have HM1:Hid _:=AI h1 k1;have hq:t1 W.heap.size<10:=by rw[hb1 _ (Nat.le_refl _)];decide
 have HB:Hid _:=fun (W2:WL) (t2:NN) (k:Kp t1 t2 W1 W2)=>AI ((k.cell (p:=Ad W.heap.size 0) l1 hq).trans b0) (AI ((k.cell (p:=Ad W.heap.size 2) l1 hq).trans b2) ((k.cell (p:=Ad W.heap.size 3) l1 hq).trans b3));have HP:Hid _:=fun (_:Unit)=>MM.popText hE h1 hs1 hl hv;have HP2:Hid _:=fun (W2:WL) (t2:NN) (h2:MM E X g (aC s (l++[cv u])) W2 t2)=>MM.popText hE h2 (l:=l) (v:=u) rfl hlu hu;have HA:Hid _:=fun (W2:WL) (t2:NN) (h2:MM E X g (aC s (l++[cv u])) W2 t2)=>h2.patAt ha;have HA2:Hid _:=fun (W2:WL) (t2:NN) (h2:MM E X g (aC s l) W2 t2)=>h2.patAt ha;have HG:Hid _:=fun (W2:WL) (pb:Nat) (hp:oK E W2 pb t) (hT:Tab W2)=>(hp W2 rfl hT).2.1 (aD E u) (aD E v) hxu hxv;have HL:Hid _:=fun (W2:WL)=>qY (E.swp t (aD E u) (aD E v)) W2;have HQ:Hid _:=fun (W2:WL) (t2:NN) (h2:MM E X g (aC s l) W2 t2)=>MM.pushText h2 (show l.length<1024 from hl1) (E.swp t (aD E u) (aD E v));replace HP2:Hid (∀ (W1:WL) (t1:NN),MM E X g (aC s (l++[cv u])) W1 t1→Calls prog 111 #[fp g s] W1 (MP E X g (aC s l) t1 W1 (.string (aD E u)))):=HP2;generalize E.swp t (aD E u) (aD E v)=sw at *;generalize aD E u=tu at *;generalize aD E v=tv at *;clear h h1 k1 F1 l1 hb1 hxu hxv hq b0 b1 b2 b3 b4 hs1;rcases Decidable.em (sw.size>100) with c | c
 ·rw[if_pos c,if_pos c,List.append_nil];rw[show decide ((sw.size:Int)>100)=true from decide_eq_true (by omega)] at HL;clear c;go_enter func70,ntmps70;go_wp2_with fail;refine (HP.out ()).mono ?_;rintro e W2 ⟨rfl,t2,h2,k2⟩;have HM2:Hid _:=AI h2 (HM1.out.2.trans k2);have HK2:Hid _:=k2;clear h2 k2 HP;obtain⟨b0,b2,-⟩:=HB.out W2 t2 HK2.out;obtain⟨gp,n,cap,pb,-,hin,hn,x1,xp,hpl,hpt,hgl,hgt,hg⟩:=HA.out W2 t2 HM2.out.1;have hi':(a:Int)<n:=by omega
  have HX1:Hid _:=x1;have HPB:Hid _:=AI hpl (AI hpt (AI hgl (AI hgt hg)));clear hpl hpt hgl hgt hg HB HK2;go_wp2_with fail;refine aI (fun V=>V.cell? (Ad X 1)=some (.slice (some (Ad gp 0)) n cap)∧V.cell? (Ad gp a)=some (ptr pb)) hm ?_;obtain⟨WD,hWD⟩:=eXi (W2.drew);rw[hWD];have F3:Fr [] W2 WD:=by rw[← hWD];exact (Fr.refl [] W2).drew
  have hS:WD.cell? (Ad X 1)=some (.slice (some (Ad gp 0)) n cap)∧WD.cell? (Ad gp a)=some (ptr pb):=by rw[← hWD];exact⟨x1,xp⟩
  obtain⟨t3,h3,k3⟩:=MM.fr HM2.out.1 F3;have HM3:Hid _:=AI h3 (HM2.out.2.trans k3);have HK3:Hid _:=k3;clear h3 k3 F3 x1 xp hWD;refine aK (fun _ _ _ _ _ h=>h) hS [0,1,2,3,4,5,6,7,9] (by kernel_rfl) ?_
  iterate 9
   refine Yls.cons (v:=?_) rfl (.inl ⟨rfl,fun w1 hS1=>?_⟩) ?_;rotate_left
   ·obtain⟨p0,p1⟩:=hS1;go_simp
    first | rfl | (refine (if_neg (by omega)).trans ?_;rfl)
   simp only[Act.put,Zp,Zq]
  refine Yls.nil ?_;refine rd1 (r:=8) (by kernel_rfl) rfl fun K hK=>?_;go_simp;refine (HP2.out WD t3 HM3.out.1).mono ?_;rintro e W4 ⟨rfl,t4,h4,k4⟩;have k24:=HK3.out.trans k4;have xp4:W4.cell? (Ad gp a)=some (ptr pb):=(k4.cell (p:=Ad gp a) (aB hS.2) (by show t3 gp<10;rw[HK3.out.ret gp HPB.out.2.2.1,HPB.out.2.2.2.1];decide)).trans hS.2;obtain⟨gp',n',cap',pb',e1',-,-,x1',-⟩:=HA2.out W4 t4 h4;obtain⟨gp0,n0,cap0,pb0,e0,-,-,x0,-⟩:=HA.out W2 t2 HM2.out.1;have hS4:W4.cell? (Ad X 1)=some (.slice (some (Ad gp 0)) n cap)∧W4.cell? (Ad gp a)=some (ptr pb):=by
   refine⟨?_,xp4⟩;rw[x1',← e1',e0,← x0];exact HX1.out
  have hg4:oK E W4 pb t:=HPB.out.2.2.2.2.of_block (k24.blk pb HPB.out.1 (by rw[HPB.out.2.1];decide));have HC:Hid _:=fun (_:Unit)=>HG.out W4 pb hg4 h4.tab;have HM4:Hid _:=AI h4 (HM3.out.2.trans k4);clear h4 k4 k24 xp4 x1' e1' e0 x0 hg4 HG HA HA2 HP2;clear hS;have hS:=hS4;clear hS4;refine hK _ _ hS ?_;clear hK K;intro _
  try simp only[Act.put,Zp,Zq]
  refine rd1 (r:=10) (by kernel_rfl) rfl fun K hK=>?_;go_simp;refine (HC.out ()).mono ?_;rintro e W5 ⟨rfl,F5⟩;have hS5:W5.cell? (Ad X 1)=some (.slice (some (Ad gp 0)) n cap)∧W5.cell? (Ad gp a)=some (ptr pb):=⟨(F5.cell (p:=Ad X 1) (aB hS.1) (by simp)).trans hS.1,(F5.cell (p:=Ad gp a) (aB hS.2) (by simp)).trans hS.2⟩;obtain⟨t5,h5,k5⟩:=MM.fr HM4.out.1 F5;have HM5:Hid _:=AI h5 (HM4.out.2.trans k5);have HK5:Hid _:=k5;clear h5 k5 F5;clear hS HC;refine hK _ _ hS5 ?_;clear hK K;intro _
  try simp only[Act.put,Zp,Zq]
  refine rd1 (r:=11) (by kernel_rfl) rfl fun K hK=>?_;go_simp;refine hK _ _ hS5 ?_;clear hK K;intro _
  try simp only[Act.put,Zp,Zq]
  refine wpAnyH_done (by kernel_rfl) ?_ _;clear hS5;go_wp2_with fail;refine (HL.out W5).mono ?_;rintro e W6 ⟨rfl,rfl⟩;clear HL;go_wp2_with fail;go_ret;exact⟨rfl,t5,HM5.out.1,HM5.out.2⟩
 rw[if_neg c,if_neg c];rw[show decide ((sw.size:Int)>100)=false from decide_eq_false (by omega)] at HL;clear c;go_enter func70,ntmps70;go_wp2_with fail;refine (HP.out ()).mono ?_;rintro e W2 ⟨rfl,t2,h2,k2⟩;have HM2:Hid _:=AI h2 (HM1.out.2.trans k2);have HK2:Hid _:=k2;clear h2 k2 HP;obtain⟨b0,b2,-⟩:=HB.out W2 t2 HK2.out;obtain⟨gp,n,cap,pb,-,hin,hn,x1,xp,hpl,hpt,hgl,hgt,hg⟩:=HA.out W2 t2 HM2.out.1;have hi':(a:Int)<n:=by omega
 have HX1:Hid _:=x1;have HPB:Hid _:=AI hpl (AI hpt (AI hgl (AI hgt hg)));clear hpl hpt hgl hgt hg HB HK2;go_wp2_with fail;refine aI (fun V=>V.cell? (Ad X 1)=some (.slice (some (Ad gp 0)) n cap)∧V.cell? (Ad gp a)=some (ptr pb)) hm ?_;obtain⟨WD,hWD⟩:=eXi (W2.drew);rw[hWD];have F3:Fr [] W2 WD:=by rw[← hWD];exact (Fr.refl [] W2).drew
 have hS:WD.cell? (Ad X 1)=some (.slice (some (Ad gp 0)) n cap)∧WD.cell? (Ad gp a)=some (ptr pb):=by rw[← hWD];exact⟨x1,xp⟩
 obtain⟨t3,h3,k3⟩:=MM.fr HM2.out.1 F3;have HM3:Hid _:=AI h3 (HM2.out.2.trans k3);have HK3:Hid _:=k3;clear h3 k3 F3 x1 xp hWD;refine aK (fun _ _ _ _ _ h=>h) hS [0,1,2,3,4,5,6,7,9] (by kernel_rfl) ?_
 iterate 9
  refine Yls.cons (v:=?_) rfl (.inl ⟨rfl,fun w1 hS1=>?_⟩) ?_;rotate_left
  ·obtain⟨p0,p1⟩:=hS1;go_simp
   first | rfl | (refine (if_neg (by omega)).trans ?_;rfl)
  simp only[Act.put,Zp,Zq]
 refine Yls.nil ?_;refine rd1 (r:=8) (by kernel_rfl) rfl fun K hK=>?_;go_simp;refine (HP2.out WD t3 HM3.out.1).mono ?_;rintro e W4 ⟨rfl,t4,h4,k4⟩;have k24:=HK3.out.trans k4;have xp4:W4.cell? (Ad gp a)=some (ptr pb):=(k4.cell (p:=Ad gp a) (aB hS.2) (by show t3 gp<10;rw[HK3.out.ret gp HPB.out.2.2.1,HPB.out.2.2.2.1];decide)).trans hS.2;obtain⟨gp',n',cap',pb',e1',-,-,x1',-⟩:=HA2.out W4 t4 h4;obtain⟨gp0,n0,cap0,pb0,e0,-,-,x0,-⟩:=HA.out W2 t2 HM2.out.1;have hS4:W4.cell? (Ad X 1)=some (.slice (some (Ad gp 0)) n cap)∧W4.cell? (Ad gp a)=some (ptr pb):=by
  refine⟨?_,xp4⟩;rw[x1',← e1',e0,← x0];exact HX1.out
 have hg4:oK E W4 pb t:=HPB.out.2.2.2.2.of_block (k24.blk pb HPB.out.1 (by rw[HPB.out.2.1];decide));have HC:Hid _:=fun (_:Unit)=>HG.out W4 pb hg4 h4.tab;have HM4:Hid _:=AI h4 (HM3.out.2.trans k4);clear h4 k4 k24 xp4 x1' e1' e0 x0 hg4 HG HA HA2 HP2;clear hS;have hS:=hS4;clear hS4;refine hK _ _ hS ?_;clear hK K;intro _
 try simp only[Act.put,Zp,Zq]
 refine rd1 (r:=10) (by kernel_rfl) rfl fun K hK=>?_;go_simp;refine (HC.out ()).mono ?_;rintro e W5 ⟨rfl,F5⟩;have hS5:W5.cell? (Ad X 1)=some (.slice (some (Ad gp 0)) n cap)∧W5.cell? (Ad gp a)=some (ptr pb):=⟨(F5.cell (p:=Ad X 1) (aB hS.1) (by simp)).trans hS.1,(F5.cell (p:=Ad gp a) (aB hS.2) (by simp)).trans hS.2⟩;obtain⟨t5,h5,k5⟩:=MM.fr HM4.out.1 F5;have HM5:Hid _:=AI h5 (HM4.out.2.trans k5);have HK5:Hid _:=k5;clear h5 k5 F5;clear hS HC;refine hK _ _ hS5 ?_;clear hK K;intro _
 try simp only[Act.put,Zp,Zq]
 refine rd1 (r:=11) (by kernel_rfl) rfl fun K hK=>?_;go_simp;refine hK _ _ hS5 ?_;clear hK K;intro _
 try simp only[Act.put,Zp,Zq]
 refine wpAnyH_done (by kernel_rfl) ?_ _;clear hS5;go_wp2_with fail;refine (HL.out W5).mono ?_;rintro e W6 ⟨rfl,rfl⟩;clear HL;go_wp2_with fail;refine (HQ.out W6 t5 HM5.out.1).mono ?_;rintro e W7 ⟨rfl,t7,h7,k7⟩;have HM7:Hid _:=AI h7 (HM5.out.2.trans k7);have HK7:Hid _:=k7;clear h7 k7 HQ;go_wp2_with fail;go_ret;exact⟨rfl,t7,HM7.out.1,HM7.out.2⟩
end
section
variable {E:Env}{X:Nat}{g:Pl}{s:Ms}{W W':WL}{tag:NN}
theorem MM.psplit (hE:aU E)(hSE:SmE E)(h:MM E X g s W tag){l:List aJ}{v:Val} (hs:s.fr.stk=l++[cv v]) (hl:s.fr.stk.length≤1024) (hv:SmV v) (hx:(aD E v).size≤100) {a bi:Nat}{t:BA} (hb:E.mo.pats[bi]?=some t) (ha:a<s.w.arrs.length) (hna:s.w.arrs.length≤1000) (hbig:(E.spl t (aD E v)).length≤1000000) (pl q:Int) :
  Calls prog 70 #[ptr X,fp g s,inV 38 pl (a:Nat) (bi:Nat) q] W (MP E X g (if (E.spl t (aD E v)).length>30 then aC s l else aC (bG s a (cH E 0 (E.spl t (aD E v)))) (l++[cv (whole ((E.spl t (aD E v)).length:Int))])) tag W (stI (if (E.spl t (aD E v)).length>30 then 7 else 0))):=by
 have hl1:l.length<1024:=by rw[hs] at hl;simp at hl;omega
 obtain⟨ga,gc,hga⟩:=h.avS ha;have hm:=hmX
 obtain⟨W1,hW1,F1,⟨b0,b1,b2,b3,b4⟩,l1⟩:=gG W 38 pl (a:Nat) (bi:Nat) q;obtain⟨t1,h1,k1,hb1⟩:=MM.box h F1;have HM1:Hid _:=AI h1 k1;have hq:t1 W.heap.size<10:=by rw[hb1 _ (Nat.le_refl _)];decide
 have HB:Hid _:=fun (W2:WL) (t2:NN) (k:Kp t1 t2 W1 W2)=>AI ((k.cell (p:=Ad W.heap.size 0) l1 hq).trans b0) (AI ((k.cell (p:=Ad W.heap.size 2) l1 hq).trans b2) ((k.cell (p:=Ad W.heap.size 3) l1 hq).trans b3));have HP:Hid _:=fun (_:Unit)=>MM.popText hE h1 hs hl hv;have HA:Hid _:=fun (W2:WL) (t2:NN) (h2:MM E X g (aC s l) W2 t2)=>h2.patAt hb;have HG:Hid _:=fun (W2:WL) (pb:Nat) (hp:oK E W2 pb t) (hT:Tab W2)=>(hp W2 rfl hT).2.2 (aD E v) hx;have hLs:∀ x ∈ E.spl t (aD E v),x.size≤100:=hSE.spl t (aD E v) hx;have hi2:(a:Int)<s.w.arrs.length:=by omega
 generalize E.spl t (aD E v)=L at *;generalize aD E v=tx at *;have HFI:Hid (L.length≤30→∀ (W5:WL) (t5:NN),MM E X g (aC s l) W5 t5→∀ (o:OA) (lc:Nat),(∀ (j:Nat) (x:BA),L[j]?=some x→∃ gl off,o=some (Ad gl off)∧t5 gl<10∧W5.cell? (Ad gl (off+j))=some (.string x))→Calls prog 131 #[.pointer (some (Ad ga (a*2))),.slice o L.length lc] W5 (MP E X g (bG (aC s l) a (cH E 0 L)) t5 W5 cR)):=fun hn W5 t5 h5 o lc hc=>h5.fill hE hSE hga ha hn hLs hc;have HAV:Hid (∀ (W5:WL) (t5:NN),MM E X g (aC s l) W5 t5→W5.cell? (Ad X 9)=some (.slice (some (Ad ga 0)) s.w.arrs.length gc)):=fun W5 t5 h5=>h5.avc.trans (congrArg some hga);have HQ:Hid (∀ (W5:WL) (t5:NN),MM E X g (bG (aC s l) a (cH E 0 L)) W5 t5→Calls prog 104 #[fp g s,iA (L.length:Int)] W5 (MP E X g (aC (bG s a (cH E 0 L)) (l++[cv (whole (L.length:Int))])) t5 W5 cR)):=fun W5 t5 h5=>MM.pushNumber h5 (show l.length<1024 from hl1) (L.length:Int);have hw64:IntKind.i64.wrap (L.length:Int)=L.length:=by rw[IntKind.wrap_i64];omega
 clear h h1 k1 F1 l1 hb1 hx hq b0 b1 b2 b3 b4 hLs hga;rcases Decidable.em (L.length>30) with c | c
 ·rw[if_pos c,if_pos c];have c':(L.length:Int)>30:=by omega
  replace HFI:Hid (∀ (W5:WL) (t5:NN),MM E X g (aC s l) W5 t5→∀ (o:OA) (lc:Nat),(∀ (j:Nat) (x:BA),L[j]?=some x→∃ gl off,o=some (Ad gl off)∧t5 gl<10∧W5.cell? (Ad gl (off+j))=some (.string x))→True):=fun _ _ _ _ _ _=>trivial;clear HQ HAV;go_enter func70,ntmps70;go_wp2_with fail;refine (HP.out ()).mono ?_;rintro e W2 ⟨rfl,t2,h2,k2⟩;have HM2:Hid _:=AI h2 (HM1.out.2.trans k2);have HK2:Hid _:=k2;clear h2 k2 HP;obtain⟨b0,b2,b3⟩:=HB.out W2 t2 HK2.out;obtain⟨gp,n,cap,pb,-,hin,hn,x1,xp,-,-,-,-,hg⟩:=HA.out W2 t2 HM2.out.1;have hi':(bi:Int)<n:=by omega
  have HPG:Hid _:=hg;clear hg HB HK2 HA;go_wp2_with fail;refine aI (fun V=>V.cell? (Ad X 1)=some (.slice (some (Ad gp 0)) n cap)∧V.cell? (Ad gp bi)=some (ptr pb)∧V.cell? (Ad W.heap.size 3)=some (iA (bi:Nat))) hm ?_;obtain⟨WD,hWD⟩:=eXi (W2.drew);rw[hWD];have F3:Fr [] W2 WD:=by rw[← hWD];exact (Fr.refl [] W2).drew
  have hS:WD.cell? (Ad X 1)=some (.slice (some (Ad gp 0)) n cap)∧WD.cell? (Ad gp bi)=some (ptr pb)∧WD.cell? (Ad W.heap.size 3)=some (iA (bi:Nat)):=by rw[← hWD];exact⟨x1,xp,b3⟩
  have hpD:oK E WD pb t:=by rw[← hWD];exact HPG.out
  obtain⟨t3,h3,k3⟩:=MM.fr HM2.out.1 F3;have HC:Hid _:=fun (_:Unit)=>HG.out WD pb hpD h3.tab;have HM3:Hid _:=AI h3 (HM2.out.2.trans k3);clear h3 k3 F3 x1 xp hWD HPG hpD HG;refine aK (fun _ _ _ _ _ h=>h) hS [0,1,2,3,4,5,6,7,8,9] (by kernel_rfl) ?_
  iterate 10
   refine Yls.cons (v:=?_) rfl (.inl ⟨rfl,fun w1 hS1=>?_⟩) ?_;rotate_left
   ·obtain⟨p0,p1,p2⟩:=hS1;go_simp
    first | rfl | (refine (if_neg (by omega)).trans ?_;rfl)
   simp only[Act.put,Zp,Zq]
  refine Yls.nil ?_;refine rd1 (r:=10) (by kernel_rfl) rfl fun K hK=>?_;go_simp;refine (HC.out ()).mono ?_;rintro e W4 ⟨v',rfl,⟨o,lc,rfl,hcl⟩,F4⟩;have hS4:W4.cell? (Ad X 1)=some (.slice (some (Ad gp 0)) n cap)∧W4.cell? (Ad gp bi)=some (ptr pb)∧W4.cell? (Ad W.heap.size 3)=some (iA (bi:Nat)):=⟨(F4.cell (p:=Ad X 1) (aB hS.1) (by simp)).trans hS.1,(F4.cell (p:=Ad gp bi) (aB hS.2.1) (by simp)).trans hS.2.1,(F4.cell (p:=Ad W.heap.size 3) (aB hS.2.2) (by simp)).trans hS.2.2⟩;obtain⟨t4,h4,k4,hb4⟩:=MM.box HM3.out.1 F4;have HFL:Hid _:=fun (W5:WL) (t5:NN) (h5:MM E X g (aC s l) W5 t5) (k5:Kp t4 t5 W4 W5)=>HFI.out W5 t5 h5 o lc (fun j x hj=>by
   obtain⟨gl,off,e1,e2,e3⟩:=hcl j x hj;have hgl:gl<W4.heap.size:=aB e3;have h6:t4 gl=6:=hb4 gl e2;exact⟨gl,off,e1,by rw[k5.ret gl hgl,h6];decide,(k5.cell (p:=Ad gl (off+j)) hgl (by show t4 gl<10;omega)).trans e3⟩)
  have HM4:Hid _:=AI h4 (HM3.out.2.trans k4);clear h4 k4 hb4 hcl F4 hS HC HFI;refine hK _ _ hS4 ?_;clear hK K;intro _
  try simp only[Act.put,Zp,Zq]
  refine rd1 (r:=11) (by kernel_rfl) rfl fun K hK=>?_;go_simp;refine hK _ _ hS4 ?_;clear hK K;intro _
  try simp only[Act.put,Zp,Zq]
  refine wpAnyH_done (by kernel_rfl) ?_ _;clear hS4;generalize L.length=ln at *;go_wp2_with fail;go_ret;exact⟨rfl,t4,HM4.out.1,HM4.out.2⟩
 rw[if_neg c,if_neg c];have c':¬ (L.length:Int)>30:=by omega
 replace HFI:Hid _:=HFI.out (by omega);generalize aC (bG s a (cH E 0 L)) (l++[cv (whole (L.length:Int))])=s2 at HQ ⊢;generalize bG (aC s l) a (cH E 0 L)=s1 at HQ HFI;go_enter func70,ntmps70;go_wp2_with fail;refine (HP.out ()).mono ?_;rintro e W2 ⟨rfl,t2,h2,k2⟩;have HM2:Hid _:=AI h2 (HM1.out.2.trans k2);have HK2:Hid _:=k2;clear h2 k2 HP;obtain⟨b0,b2,b3⟩:=HB.out W2 t2 HK2.out;obtain⟨gp,n,cap,pb,-,hin,hn,x1,xp,-,-,-,-,hg⟩:=HA.out W2 t2 HM2.out.1;have hi':(bi:Int)<n:=by omega
 have HPG:Hid _:=hg;clear hg HB HK2 HA;go_wp2_with fail;refine aI (fun V=>V.cell? (Ad X 1)=some (.slice (some (Ad gp 0)) n cap)∧V.cell? (Ad gp bi)=some (ptr pb)∧V.cell? (Ad W.heap.size 3)=some (iA (bi:Nat))) hm ?_;obtain⟨WD,hWD⟩:=eXi (W2.drew);rw[hWD];have F3:Fr [] W2 WD:=by rw[← hWD];exact (Fr.refl [] W2).drew
 have hS:WD.cell? (Ad X 1)=some (.slice (some (Ad gp 0)) n cap)∧WD.cell? (Ad gp bi)=some (ptr pb)∧WD.cell? (Ad W.heap.size 3)=some (iA (bi:Nat)):=by rw[← hWD];exact⟨x1,xp,b3⟩
 have hpD:oK E WD pb t:=by rw[← hWD];exact HPG.out
 obtain⟨t3,h3,k3⟩:=MM.fr HM2.out.1 F3;have HC:Hid _:=fun (_:Unit)=>HG.out WD pb hpD h3.tab;have HM3:Hid _:=AI h3 (HM2.out.2.trans k3);clear h3 k3 F3 x1 xp hWD HPG hpD HG;refine aK (fun _ _ _ _ _ h=>h) hS [0,1,2,3,4,5,6,7,8,9] (by kernel_rfl) ?_
 iterate 10
  refine Yls.cons (v:=?_) rfl (.inl ⟨rfl,fun w1 hS1=>?_⟩) ?_;rotate_left
  ·obtain⟨p0,p1,p2⟩:=hS1;go_simp
   first | rfl | (refine (if_neg (by omega)).trans ?_;rfl)
  simp only[Act.put,Zp,Zq]
 refine Yls.nil ?_;refine rd1 (r:=10) (by kernel_rfl) rfl fun K hK=>?_;go_simp;refine (HC.out ()).mono ?_;rintro e W4 ⟨v',rfl,⟨o,lc,rfl,hcl⟩,F4⟩;have hS4:W4.cell? (Ad X 1)=some (.slice (some (Ad gp 0)) n cap)∧W4.cell? (Ad gp bi)=some (ptr pb)∧W4.cell? (Ad W.heap.size 3)=some (iA (bi:Nat)):=⟨(F4.cell (p:=Ad X 1) (aB hS.1) (by simp)).trans hS.1,(F4.cell (p:=Ad gp bi) (aB hS.2.1) (by simp)).trans hS.2.1,(F4.cell (p:=Ad W.heap.size 3) (aB hS.2.2) (by simp)).trans hS.2.2⟩;obtain⟨t4,h4,k4,hb4⟩:=MM.box HM3.out.1 F4;have HFL:Hid _:=fun (W5:WL) (t5:NN) (h5:MM E X g (aC s l) W5 t5) (k5:Kp t4 t5 W4 W5)=>HFI.out W5 t5 h5 o lc (fun j x hj=>by
  obtain⟨gl,off,e1,e2,e3⟩:=hcl j x hj;have hgl:gl<W4.heap.size:=aB e3;have h6:t4 gl=6:=hb4 gl e2;exact⟨gl,off,e1,by rw[k5.ret gl hgl,h6];decide,(k5.cell (p:=Ad gl (off+j)) hgl (by show t4 gl<10;omega)).trans e3⟩)
 have HM4:Hid _:=AI h4 (HM3.out.2.trans k4);clear h4 k4 hb4 hcl F4 hS HC HFI;refine hK _ _ hS4 ?_;clear hK K;intro _
 try simp only[Act.put,Zp,Zq]
 refine rd1 (r:=11) (by kernel_rfl) rfl fun K hK=>?_;go_simp;refine hK _ _ hS4 ?_;clear hK K;intro _
 try simp only[Act.put,Zp,Zq]
 refine wpAnyH_done (by kernel_rfl) ?_ _;clear hS4;generalize L.length=ln at *;have x9:=HAV.out W4 t4 HM4.out.1;have HF4:Hid _:=fun (_:Unit)=>HFL.out W4 t4 HM4.out.1 (Kp.refl _ _);clear HFL HAV;go_wp2_with fail;refine (HF4.out ()).mono ?_;rintro e W5 ⟨rfl,t5,h5,k5⟩;have HM5:Hid _:=AI h5 (HM4.out.2.trans k5);have HK5:Hid _:=k5;clear h5 k5 HF4;go_wp2_with fail;refine (HQ.out W5 t5 HM5.out.1).mono ?_;rintro e W6 ⟨rfl,t6,h6,k6⟩;have HM6:Hid _:=AI h6 (HM5.out.2.trans k6);have HK6:Hid _:=k6;clear h6 k6 HQ;go_wp2_with fail;go_ret;exact⟨rfl,t6,HM6.out.1,HM6.out.2⟩
end
section
variable {E:Env}{X:Nat}{g:Pl}{s:Ms}{W W':WL}{tag:NN}
def lS (s:Ms) (lo:List Frm) (f:Frm):Ms:={ s with low:=lo,fr:=f }
theorem vT {s:Ms}{lo:List Frm}{f:Frm} (hl:s.low=lo++[f]) {k:Nat} (hk:k≤lo.length):fAt (lS s lo f) k=fAt s k:=by
 unfold fAt lS;rw[hl];simp only[Lla,List.length_cons,List.length_nil];rw[if_pos (show k<lo.length+(0+1) by omega)];rcases Nat.lt_or_ge k lo.length with c | c
 ·rw[if_pos c,List.getD_eq_getElem?_getD,List.getD_eq_getElem?_getD,List.getElem?_append_left c]
 have:k=lo.length:=by omega
 subst this;rw[if_neg (Nat.lt_irrefl _),List.getD_eq_getElem?_getD,List.getElem?_append_right (Nat.le_refl _),Nat.sub_self];rfl
theorem MM.cutF (h:MM E X g s W tag){lo:List Frm}{f:Frm} (hl:s.low=lo++[f]) :
  ∃ cap,W.cell? (Ad X 11)=some (.slice (some (Ad g.g 0)) (lo.length+2) cap)∧lo.length+2≤cap∧lo.length≤20∧W.frozen? (Ad X 11)=false ∧
  MM E X g (lS s lo f) (W.setCell ⟨X,11,none⟩ (.slice (some ⟨g.g,0,none⟩) (lo.length+1) cap)) tag∧Kp tag tag W (W.setCell ⟨X,11,none⟩ (.slice (some ⟨g.g,0,none⟩) (lo.length+1) cap)):=by
 obtain⟨h6,lv,R,mp,x,hx,h⟩:=h;obtain⟨cap,hc⟩:=h.vF;have hlen:s.low.length=lo.length+1:=by rw[hl];simp
 have hnF:=h.nF;have hnA:=h.nA;have o10:=(h.S.rows 10 h.lX).1;rw[h.rX] at o10;have o11:=(h.S.rows 11 h.lF).1;rw[h.rF,hc,hlen] at o11;simp only at o11;have hcap:lo.length+2≤cap:=by
  rcases o11.2 with ⟨h',_⟩ | ⟨g',cap',cur,h',hb,hg,hnc,hcm,hcs,ht⟩
  ·cases h'
  simp only[Value.slice.injEq,Option.some.injEq,Addr.mk.injEq,and_true,true_and] at h';obtain⟨rfl,rfl⟩:=h';omega
 have r11:R 11=⟨.slice (some (Ad g.g 0)) (lo.length+2) cap,139,51,lo.length+2,rng (s.low.length+1) fun k=>frC (x.F k) (fAt s k)⟩:=by rw[h.rF,hc,hlen]
 have S1:=h.S.cut h.lF r11 (n':=lo.length+1) (by omega);obtain⟨S2,K2⟩:=S1.put (i:=10) h.lX (by rw[aE _ _ (by decide)];exact h.rX) (j:=11) (by omega) (.slice (some (Ad g.g 0)) (lo.length+1) cap);obtain⟨R',hS',hR10,hR11,hR⟩:∃ R',Sto (W.setCell ⟨X,11,none⟩ (.slice (some ⟨g.g,0,none⟩) (lo.length+1) cap)) tag lv R' mp∧R' 10=⟨.slice (some (Ad X 0)) 1 1,79,16,1,(xC x s).set 11 (.slice (some (Ad g.g 0)) (lo.length+1) cap)⟩∧R' 11=⟨.slice (some (Ad g.g 0)) (lo.length+1) cap,139,51,lo.length+1,(rng (s.low.length+1) fun k=>frC (x.F k) (fAt s k)).take ((lo.length+1)*51)⟩∧∀ i,i≠10→i≠11→R' i=R i:=
  ⟨_,S2,aG _ _ _,by rw[aE _ _ (by decide),aG],fun i h1 h2=>by rw[aE _ _ h1,aE _ _ h2]⟩
 refine⟨cap,aF o10 (by show some x.frv=_;rw[hc,hlen]),hcap,by omega,bB o10 _,⟨Nat.le_trans h6 K2.size,lv,R',mp,{ x with frv:=.slice (some (Ad g.g 0)) (lo.length+1) cap },hx,?_⟩,K2⟩;refine⟨hS',h.sta.kp K2 h6,h.lX,?_,h.lF,?_,⟨cap,rfl⟩,?_,h.lG,?_,h.lA,?_,h.nA,fun i hi=>?_,fun i hi=>?_,fun i j c hi hj hcl=>?_,fun i hi=>?_,h.rcs.kp K2,h.drw.kp K2,h.fld.kp K2⟩
 ·rw[hR10];rfl
 ·rw[hR11];show _=Rw.mk _ 139 51 (lo.length+1) (rng (lo.length+1) fun k=>frC (x.F k) (fAt (lS s lo f) k));rw[aNe (fun _ _=>fZ _ _) (by omega)];congr 1;refine bK fun j hj=>?_;rw[vT hl (by omega)]
 ·show lo.length≤20;omega
 ·rw[hR 12 (by decide) (by decide)];exact h.rG
 ·rw[hR 13 (by decide) (by decide)];exact h.rA
 ·have hi':i<s.w.arrs.length:=hi;obtain⟨a,b,c⟩:=h.arr i hi;exact⟨a,b,by rw[hR _ (by omega) (by omega)];exact c⟩
 ·have hi':i≤lo.length:=hi;obtain⟨a,b⟩:=h.stk i (by omega);rw[vT hl hi',hR _ (by omega) (by omega)];exact⟨a,b⟩
 ·have hi':i≤lo.length:=hi;rw[vT hl hi'] at hj;obtain⟨q1,q2,q3,ga,ca,lf,q4,q5,q6⟩:=h.wlk i j c (by omega) hj hcl;exact⟨q1,q2,q3,ga,ca,lf,q4,by rw[hR _ (by omega) (by omega)];exact q5,q6.kp K2⟩
 have hi':i≤lo.length:=hi;rw[vT hl hi'];exact h.fn i (by omega)
theorem MM.leave (h:MM E X g s W tag){l:List aJ}{v:Val} (hs:s.fr.stk=l++[cv v]) (hl:s.fr.stk.length≤1024) {lo:List Frm}{f:Frm} (hlo:s.low=lo++[f]) (hf:f.stk.length<1024) :
  Calls prog 138 #[ptr X] W (MP E X g (aC (lS s lo f) (f.stk++[cv v])) tag W cR):=by
 have hm:=hmX
 have HF:Hid _:=fun (_:Unit)=>h.frame;have HP:Hid _:=fun (W1:WL) (t1:NN) (h1:MM E X g s W1 t1)=>MM.popV h1 hs hl;have HC:Hid _:=fun (W1:WL) (t1:NN) (h1:MM E X g (aC s l) W1 t1)=>MM.cutF h1 (lo:=lo) (f:=f) hlo;have HF2:Hid _:=fun (W1:WL) (t1:NN) (h1:MM E X g (lS s lo f) W1 t1)=>MM.frame h1;have HQ:Hid _:=fun (W1:WL) (t1:NN) (h1:MM E X g (lS s lo f) W1 t1)=>MM.push h1 (show f.stk.length<1024 from hf) v;replace HC:Hid (∀ (W1:WL) (t1:NN),MM E X g (aC s l) W1 t1→∃ cap,W1.cell? (Ad X 11)=some (.slice (some (Ad g.g 0)) (lo.length+2) cap)∧lo.length+2≤cap∧lo.length≤20∧W1.frozen? (Ad X 11)=false ∧
  MM E X g (lS s lo f) (W1.setCell ⟨X,11,none⟩ (.slice (some ⟨g.g,0,none⟩) (lo.length+1) cap)) t1∧Kp t1 t1 W1 (W1.setCell ⟨X,11,none⟩ (.slice (some ⟨g.g,0,none⟩) (lo.length+1) cap))):=HC
 have hfp2:fp g (lS s lo f)=.pointer (some (Ad g.g (lo.length*51))):=rfl;rw[hfp2] at HF2 HQ;have hst:(lS s lo f).fr.stk=f.stk:=rfl;rw[hst] at HQ;generalize aC (lS s lo f) (f.stk++[cv v])=s2 at HQ ⊢;generalize lS s lo f=s1 at HC HF2 HQ;unfold vV at HQ;generalize (v.kind:Int)=kk at HP HQ;generalize vN v=mm at HP HQ;generalize vS v=tt at HP HQ;generalize lo.length=lol at *;clear h hs hlo hf hfp2 hst;go_enter func138,ntmps138;go_wp2_with fail;refine (HF.out ()).mono ?_;rintro e W1 ⟨rfl,t1,h1,k1⟩;have HM1:Hid _:=AI h1 (k1);have HK1:Hid _:=k1;clear h1 k1 HF;go_wp2_with fail;refine (HP.out W1 t1 HM1.out.1).mono ?_;rintro e W2 ⟨rfl,t2,h2,k2⟩;have HM2:Hid _:=AI h2 (HM1.out.2.trans k2);have HK2:Hid _:=k2;clear h2 k2 HP;obtain⟨W3,hW3,F3,c0,c1,c2,l3⟩:=bD W2 kk mm tt;obtain⟨t3,h3,k3,hb3⟩:=MM.box HM2.out.1 F3;have HX3:Hid _:=lY.mk l3 (hb3 _ (Nat.le_refl _)) c0 c1 c2;have HM3:Hid _:=AI h3 (HM2.out.2.trans k3);have HK3:Hid _:=k3;clear h3 k3 F3 hb3 l3;go_wp2_with fail;obtain⟨cap,x11,hcap,hlol,z11,M5,K5⟩:=HC.out W3 t3 HM3.out.1;obtain⟨m,hm1⟩:=eXi (lol+1);rw[show lol+2=m+1 by omega] at x11 hcap;rw[hm1] at M5 K5;obtain⟨W5,hW5⟩:=eXi (W3.setCell ⟨X,11,none⟩ (.slice (some ⟨g.g,0,none⟩) m cap));rw[hW5] at M5 K5;have F6:Fr [] W5 W5.drew:=(Fr.refl [] W5).drew;obtain⟨t6,h6,k6⟩:=MM.fr M5 F6;have HM6:Hid _:=AI h6 ((HM3.out.2.trans K5).trans k6);have HX6:Hid _:=(HX3.out.kp K5).kp k6;have hw1:IntKind.i64.wrap (m:Int)=m:=by rw[IntKind.wrap_i64];omega
 have hcs:(m:Int)≤cap:=by omega
 have hn0:(0:Int)≤m:=by omega
 clear M5 K5 HX3 HC F6 h6 k6 hlol hcap hm1 HM3 HK3;refine aP 14 hm (by kernel_rfl) ?_;simp only[Zt]
 repeat still_step
 refine wpStill_nil ?_;clear c0 c1 c2;go_wp2_with fail;refine aI (fun w=>w.cell? (Ad W2.heap.size 0)=some (.int .u8 kk)∧w.cell? (Ad W2.heap.size 1)=some (iA mm)∧w.cell? (Ad W2.heap.size 2)=some (.string tt)) hm ?_;obtain⟨WD,hWD⟩:=eXi (W5.drew.drew);rw[hWD];have F7:Fr [] W5.drew WD:=by rw[← hWD];exact (Fr.refl [] _).drew
 obtain⟨t7,h7,k7⟩:=MM.fr HM6.out.1 F7;have HM7:Hid _:=AI h7 (HM6.out.2.trans k7);have HX7:Hid _:=HX6.out.kp k7;have hS:WD.cell? (Ad W2.heap.size 0)=some (.int .u8 kk)∧WD.cell? (Ad W2.heap.size 1)=some (iA mm)∧WD.cell? (Ad W2.heap.size 2)=some (.string tt):=⟨HX7.out.c0,HX7.out.c1,HX7.out.c2⟩;clear h7 k7 F7 hWD HX6 HM6 x11 z11 hW5 hW3;refine aK (fun _ _ _ _ _ h=>h) hS [0,2] (by kernel_rfl) ?_
 iterate 2
  refine Yls.cons (v:=?_) rfl (.inl ⟨rfl,fun w1 hS1=>?_⟩) ?_;rotate_left
  ·obtain⟨p0,p1,p2⟩:=hS1;go_simp
   first | rfl | (refine (if_neg (by omega)).trans ?_;rfl)
  simp only[Act.put,Zp,Zq]
 refine Yls.nil ?_;refine rd1 (r:=1) (by kernel_rfl) rfl fun K hK=>?_;go_simp;refine (HF2.out WD t7 HM7.out.1).mono ?_;rintro e W8 ⟨rfl,t8,h8,k8⟩;have HX8:Hid _:=HX7.out.kp k8;have HM8:Hid _:=AI h8 (HM7.out.2.trans k8);clear h8 k8 HF2 HX7 hS;refine hK _ _ ⟨HX8.out.c0,HX8.out.c1,HX8.out.c2⟩ ?_;clear hK K;intro _
 try simp only[Act.put,Zp,Zq]
 refine rd1 (r:=3) (by kernel_rfl) rfl fun K hK=>?_;go_simp;refine (HQ.out W8 t8 HM8.out.1).mono ?_;rintro e W9 ⟨rfl,t9,h9,k9⟩;have HX9:Hid _:=HX8.out.kp k9;have HM9:Hid _:=AI h9 (HM8.out.2.trans k9);clear h9 k9 HQ HX8;refine hK _ _ ⟨HX9.out.c0,HX9.out.c1,HX9.out.c2⟩ ?_;clear hK K;intro _
 try simp only[Act.put,Zp,Zq]
 refine wpAnyH_done (by kernel_rfl) ?_ _;refine bodyPost_end (results_none rfl _ _ _) rfl ?_;exact⟨rfl,t9,HM9.out.1,HM9.out.2⟩
end
def frZ (cv:Value):LV:=[cv,.int .i64 0]++vH []++[.slice none 0 0]
theorem sO (cv:Value):(frZ cv).length=51:=by simp[frZ,iX]
theorem D8 (X gf fn fc f n c:Nat)(vo:OA)(W:WL)(hX:X≠gf)(x2:W.cell? (Ad X 2)=some (.slice (some (Ad gf 0)) fn fc))(hf:f<fn)(hf1:fn≤1000)(y:W.cell? (Ad gf (f*2+1))=some (.slice vo n c)){u10 u11:Value}(x10:W.cell? (Ad X 10)=some u10)(x11:W.cell? (Ad X 11)=some u11)(z10:W.frozen? (Ad X 10)=false)(z11:W.frozen? (Ad X 11)=false) :
  Calls prog 39 #[ptr X,iA (f:Nat)] W fun e W'=>e=.returned cR∧W'=((W.setCell ⟨X,10,none⟩ (.int .i64 (f:Nat))).alloc (.cells (frZ (.slice vo n c)).toArray 139)).setCell ⟨X,11,none⟩ (.slice (some ⟨W.heap.size,0,none⟩) 1 1):=by
 obtain⟨W1,hW1⟩:=eXi (W.setCell ⟨X,10,none⟩ (.int .i64 (f:Nat)));have q2:W1.cell? (Ad X 2)=some (.slice (some (Ad gf 0)) fn fc):=by rw[← hW1,aA (by decide)];exact x2
 have q11:W1.cell? (Ad X 11)=some u11:=by rw[← hW1,aA (by decide)];exact x11
 have qz:W1.frozen? (Ad X 11)=false:=by rw[← hW1,wfz];exact z11
 have qy:W1.cell? (Ad gf (f*2+1))=some (.slice vo n c):=by rw[← hW1,aX hX];exact y
 have hs1:W1.heap.size=W.heap.size:=by rw[← hW1];simp[World.setCell]
 have hXl:X<W1.heap.size:=aB q11;have hlit:(frZ (.slice vo n c)).toArray=#[.slice vo n c,iA 0,.int .u8 0,iA 0,.string ⟨#[]⟩,.int .u8 0,iA 0,.string ⟨#[]⟩,.int .u8 0,iA 0,.string ⟨#[]⟩,.int .u8 0,iA 0,.string ⟨#[]⟩,.int .u8 0,iA 0,.string ⟨#[]⟩,.int .u8 0,iA 0,.string ⟨#[]⟩,.int .u8 0,iA 0,.string ⟨#[]⟩,.int .u8 0,iA 0,.string ⟨#[]⟩,.int .u8 0,iA 0,.string ⟨#[]⟩,.int .u8 0,iA 0,.string ⟨#[]⟩,.int .u8 0,iA 0,.string ⟨#[]⟩,.int .u8 0,iA 0,.string ⟨#[]⟩,.int .u8 0,iA 0,.string ⟨#[]⟩,.int .u8 0,iA 0,.string ⟨#[]⟩,.int .u8 0,iA 0,.string ⟨#[]⟩,.int .u8 0,iA 0,.string ⟨#[]⟩,.slice none 0 0]:=rfl;rw[hlit];have F2:Fr [] W1 (W1.alloc (.cells #[.slice vo n c,iA 0,.int .u8 0,iA 0,.string ⟨#[]⟩,.int .u8 0,iA 0,.string ⟨#[]⟩,.int .u8 0,iA 0,.string ⟨#[]⟩,.int .u8 0,iA 0,.string ⟨#[]⟩,.int .u8 0,iA 0,.string ⟨#[]⟩,.int .u8 0,iA 0,.string ⟨#[]⟩,.int .u8 0,iA 0,.string ⟨#[]⟩,.int .u8 0,iA 0,.string ⟨#[]⟩,.int .u8 0,iA 0,.string ⟨#[]⟩,.int .u8 0,iA 0,.string ⟨#[]⟩,.int .u8 0,iA 0,.string ⟨#[]⟩,.int .u8 0,iA 0,.string ⟨#[]⟩,.int .u8 0,iA 0,.string ⟨#[]⟩,.int .u8 0,iA 0,.string ⟨#[]⟩,.int .u8 0,iA 0,.string ⟨#[]⟩,.int .u8 0,iA 0,.string ⟨#[]⟩,.slice none 0 0] 139)):=(Fr.refl [] W1).alloc _;obtain⟨W2,hW2⟩:=eXi (W1.alloc (.cells #[.slice vo n c,iA 0,.int .u8 0,iA 0,.string ⟨#[]⟩,.int .u8 0,iA 0,.string ⟨#[]⟩,.int .u8 0,iA 0,.string ⟨#[]⟩,.int .u8 0,iA 0,.string ⟨#[]⟩,.int .u8 0,iA 0,.string ⟨#[]⟩,.int .u8 0,iA 0,.string ⟨#[]⟩,.int .u8 0,iA 0,.string ⟨#[]⟩,.int .u8 0,iA 0,.string ⟨#[]⟩,.int .u8 0,iA 0,.string ⟨#[]⟩,.int .u8 0,iA 0,.string ⟨#[]⟩,.int .u8 0,iA 0,.string ⟨#[]⟩,.int .u8 0,iA 0,.string ⟨#[]⟩,.int .u8 0,iA 0,.string ⟨#[]⟩,.int .u8 0,iA 0,.string ⟨#[]⟩,.int .u8 0,iA 0,.string ⟨#[]⟩,.int .u8 0,iA 0,.string ⟨#[]⟩,.slice none 0 0] 139));rw[hW2] at F2;have r11:W2.cell? (Ad X 11)=some u11:=(F2.cell (p:=Ad X 11) hXl (by simp)).trans q11;have rz:W2.frozen? (Ad X 11)=false:=(F2.frozen (p:=Ad X 11) hXl (by simp)).trans qz;rw[hW1,hW2,← hs1];have hi:(f:Int)<fn:=by omega
 clear F2 hs1 hXl x11 z11 y x2 hlit;go_enter func39,ntmps39;go_wp2_with fail;refine bodyPost_end (results_none rfl _ _ _) rfl ?_;exact⟨rfl,rfl⟩
end Go.Proofs.YtlokkgajpjafmaaGreatDoor
