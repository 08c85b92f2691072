import Derived.Test.YtmolfmgchbjnbaaGreatDoorM10
set_option linter.unusedSimpArgs false
set_option linter.unusedVariables false
set_option linter.unusedSectionVars false
set_option maxRecDepth 100000
set_option maxHeartbeats 40000000
open _root_.Go.Proofs.Tryz
namespace Go.Proofs.YtmolfmgchbjnbaaGreatDoor
open Go.RowKit
open Wire Flow Mach
def stV (st:Nat) (code:Int) (out:BA) (used:Nat):Value:=.agg #[.int .i64 (st:Nat),.int .i64 code,.string out,.int .i64 (used:Nat)]
def GM (Y X:Nat) (W:WL):Prop:=W.cell? ⟨Y,0,none⟩=some (ptr X)
theorem GM.fr {Y X:Nat}{W W':WL} (h:GM Y X W) (F:Fr [] W W'):GM Y X W':=by
 have hlt:Y<W.heap.size:=lt_of_cell h;show W'.cell? _=_;rw[F.cell hlt (by simp)];exact h
theorem set4_block {w:WL}{b:Nat}{u0 u1 u2 u3:Value}{t:TypeId} (h:w.heap[b]?=some (.cells #[u0,u1,u2,u3] t)) (v0 v1 v2 v3:Value):((((w.setCell ⟨b,0,none⟩ v0).setCell ⟨b,1,none⟩ v1).setCell ⟨b,2,none⟩ v2).setCell ⟨b,3,none⟩ v3).heap[b]?=some (.cells #[v0,v1,v2,v3] t):=by
 have hl:=(Age.1 h).1;have hg:=(Age.1 h).2;unfold World.setCell;simp[hl,Array.getElem_modify,hg]
theorem cells4F {w:WL}{b:Nat}{v0 v1 v2 v3:Value}{t:TypeId} (h:w.heap[b]?=some (.cells #[v0,v1,v2,v3] t)):(w.cell? (Ad b 0)=some v0∧w.cell? (Ad b 1)=some v1∧w.cell? (Ad b 2)=some v2∧w.cell? (Ad b 3)=some v3)∧∀ j,w.frozen? (Ad b j)=false:=by
 refine⟨⟨?_,?_,?_,?_⟩,fun j=>?_⟩ <;> first | (unfold World.cell?;rw[h];rfl) | (unfold World.frozen?;rw[h];simp)
section
variable {E:Env}{X Y:Nat}{g:Pl}{s:Ms}{W W':WL}{tag:NN}
theorem tell21 (h:MM E X g s W tag) :
  Calls prog 35 #[ptr X] W fun e w=>e=.returned (stV s.st s.code s.w.out s.used)∧Fr [] W w:=by
 have F1:Fr [] W (W.alloc (.cells #[iA 0,iA 0,.string ⟨#[]⟩,iA 0] 26)):=(Fr.refl [] W).alloc _;obtain⟨t1,M1,-⟩:=h.fr F1;have x12:=M1.xst;have x13:=M1.xcode;have x14:=M1.xout;have x15:=M1.xused;have HF:Hid _:=F1;clear h M1 F1;unfold stV;generalize s.st=a at *;generalize s.code=b at *;generalize s.w.out=c at *;generalize s.used=d at *;go_enter func35,ntmps35;go_wp2_with fail;refine bodyPost_ret (results_cell_row rfl _ _ W.heap.size 26 #[iA (a:Nat),iA b,.string c,iA (d:Nat)] (0,0) _ rfl (wan W _) underlying26 rfl (by kernel_rfl)) rfl ?_;exact⟨rfl,(Fr.refl [] W).alloc _⟩
theorem tell11 (h:MM E X g s W tag)(hY:GM Y X W) :
  Calls prog 22 #[ptr Y] W fun e w=>e=.returned (stV s.st s.code s.w.out s.used)∧Fr [] W w:=by
 have F1:Fr [] W (W.alloc (.cells #[iA 0,iA 0,.string ⟨#[]⟩,iA 0] 26)):=(Fr.refl [] W).alloc _;obtain⟨t1,M1,-⟩:=h.fr F1;have y0:_=_:=hY.fr F1;have HC:Hid _:=fun (_:Unit)=>tell21 M1;have HF:Hid _:=F1;have hk:=wan W (.cells #[iA 0,iA 0,.string ⟨#[]⟩,iA 0] 26);have hsz:W.heap.size<(W.alloc (.cells #[iA 0,iA 0,.string ⟨#[]⟩,iA 0] 26)).heap.size:=by simp
 generalize hW1:W.alloc (.cells #[iA 0,iA 0,.string ⟨#[]⟩,iA 0] 26)=W1 at *;obtain⟨B,hB⟩:=eXi (W.heap.size);rw[hB] at hk hsz;clear h M1 F1 hY;unfold stV at *;generalize s.st=a at *;generalize s.code=b at *;generalize s.w.out=c at *;generalize s.used=d at *;go_enter func22,ntmps22;go_wp2_with fail;refine (HC.out ()).mono ?_;rintro e W2 ⟨rfl,F2⟩;have k2:=(F2.block B hsz (by simp)).trans hk;obtain⟨⟨c0,c1,c2,c3⟩,fz⟩:=cells4F k2;have f0:=fz 0;have f1:=fz 1;have f2:=fz 2;have f3:=fz 3;have HB:Hid _:=set4_block k2;have HF2:Hid _:=HF.out.trans F2;clear F2 hk k2 fz HC y0 hsz;go_wp2_with fail;refine bodyPost_ret (results_cell_row rfl _ _ B 26 #[iA (a:Nat),iA b,.string c,iA (d:Nat)] (0,0) _ rfl (HB.out _ _ _ _) underlying26 rfl (by kernel_rfl)) rfl ?_;have hB':W.heap.size≤B:=Nat.le_of_eq hB;exact⟨rfl,(((HF2.out.setCell (.inr hB') _).setCell (.inr hB') _).setCell (.inr hB') _).setCell (.inr hB') _⟩
end
section
variable {E:Env}{X Y:Nat}{g:Pl}{S0:St}{low:List Frm}{fr:Frm}{tag:NN}{W:WL}{N:Nat}
theorem go14_any (hE:GoE E)(h:MM E X g (msOf S0 low fr) W tag)(hY:GM Y X W)(hG:Mach.Good E S0)(hN:N≤100000)(hu:S0.used+N≤4611686018427387904)(h0:S0.st=0→S0.code=0∧Pr S0.frs∧S0.frs=low++[fr]∧hd S0.frs=some g.en)(hst9:S0.st≤9) :
  Calls prog 21 #[ptr Y,iA (N:Nat)] W fun e w=>e=.returned (stI 0)∧GoQ E X S0 N tag W (.returned unit) w:=by
 have HC:Hid _:=fun (_:Unit)=>go_any hE h hG (by omega) hu h0 hst9;have y0:_=_:=hY;have c0:¬ (N:Int)<0:=by omega
 have c1:¬ 100000<(N:Int):=by omega
 clear h hG hu h0 hY;go_enter func21,ntmps21;go_wp2_with fail;refine (HC.out ()).mono ?_;rintro e W2 ⟨rfl,hP⟩;have HP:Hid _:=hP;clear hP HC;go_wp2_with fail;go_ret;exact⟨rfl,rfl,HP.out⟩
end
def Beg (a b:BA):Prop:=∃ x,bl b=bl a++x
theorem Beg.refl (a:BA):Beg a a:=⟨[],by simp⟩
theorem Beg.trans {a b c:BA}(h:Beg a b)(k:Beg b c):Beg a c:=by
 obtain⟨x,hx⟩:=h;obtain⟨y,hy⟩:=k;exact⟨x++y,by rw[hy,hx,List.append_assoc]⟩
theorem nextR_out (w:Wd):(nextR w).1.out=w.out:=by
 unfold Mach.nextR;split <;> rfl
theorem setField_out (w:Wd)(n:Int)(s:BA):(setFieldW w n s).1.out=w.out∧(setFieldW w n s).2≤9∧(setFieldW w n s).2≠2:=by
 unfold setFieldW;split
 ·exact⟨rfl,by simp,by simp⟩
 split
 ·exact⟨rfl,by simp,by simp⟩
 split <;> exact⟨rfl,by simp,by simp⟩
theorem fieldW_st (w:Wd)(n:Int):(fieldW w n).2≤9∧(fieldW w n).2≠2:=by
 unfold fieldW;split
 ·exact⟨by simp,by simp⟩
 split
 ·exact⟨by simp,by simp⟩
 split <;> exact⟨by simp,by simp⟩
theorem sumOp_st (E:Env)(op:Nat)(x y:Int):(sumOp E op x y).2≤9∧(sumOp E op x y).2≠2:=by
 unfold sumOp;dsimp only
 repeat' split
 all_goals simp
theorem printW_out (w:Wd)(l:LY):Beg w.out (printW w l).1.out∧(printW w l).2≤9∧(printW w l).2≠2:=by
 unfold printW;split
 ·exact⟨Beg.refl _,by simp,by simp⟩
 refine⟨⟨joinF l++[10],?_⟩,by simp,by simp⟩;simp[bl]
theorem eff_told (E:Env)(w:Wd)(locs:List Val)(op a b:Nat)(top:List Cell):Beg w.out (eff E w locs op a b top).w.out∧(eff E w locs op a b top).st≤9∧((eff E w locs op a b top).st≠2→(eff E w locs op a b top).code=0):=by
 have B:=Beg.refl w.out;unfold eff;split
 case h_8=>exact⟨B,(fieldW_st _ _).1,fun _=>rfl⟩
 case h_9=>
  obtain⟨h1,h2,-⟩:=setField_out w (top.getD 0 c0).v.n (textV E (top.getD 1 c0).v);exact⟨by simp only[Eff.off];rw[h1];exact B,h2,fun _=>rfl⟩
 all_goals first
  | exact⟨B,(sumOp_st _ _ _ _).1,fun _=>rfl⟩
  | exact⟨B,by simp[Eff.put,Eff.bad,Eff.off],fun _=>rfl⟩
  | exact⟨by rw[show (Eff.put (nextR w).1 locs (whole (truth (nextR w).2))).w.out=w.out from nextR_out w];exact B,by simp[Eff.put],fun _=>rfl⟩
  | exact⟨(printW_out w _).1,(printW_out w _).2.1,fun _=>rfl⟩
  | exact⟨B,by simp,fun h=>absurd rfl h⟩
  | (repeat' split) <;> exact⟨B,by simp[Eff.put,Eff.bad,Eff.off],fun _=>rfl⟩
section
variable {E:Env}{S D:St}{low:List Frm}{fr:Frm}{i:Stp}{rest top:List Cell}
def Told (S:St):Prop:=S.st≤9∧(S.st≠2→S.code=0)
theorem does_told (hG:Mach.Good E S)(hst:S.st=0)(hT:Told S)(hR:Ready E S low fr i rest top):Told (does E S low fr i rest top)∧(does E S low fr i rest top).used=S.used+1∧Beg S.w.out (does E S low fr i rest top).w.out:=by
 obtain⟨hI,-,-⟩:=hG.inv hst;obtain⟨low',fr',i',rest',top',hR',hh,hfar,hgo,hm⟩:=hI.ready (E:=E) (s:=S);obtain⟨rfl,rfl,rfl,rfl,rfl⟩:=hR.unique hR';rw[hR.frs] at hI;have hc:S.code=0:=hT.2 (by omega);obtain⟨e1,e2,e3⟩:=eff_told E S.w fr.locs i.op i.a i.b top;unfold Mach.does;split
 ·split
  ·exact⟨⟨by simp,fun _=>hc⟩,rfl,Beg.refl _⟩
  exact⟨⟨hT.1,fun _=>hc⟩,rfl,Beg.refl _⟩
 split
 ·rename_i h51
  rcases List.eq_nil_or_concat low with h0 | ⟨low2,g,h0⟩
  ·subst h0;have:=(hI.kinds 0 fr (by simp)).1 rfl;unfold mayOp at hm;rw[h51] at hm;simp[this] at hm
  have h0':low=low2++[g]:=by simpa using h0
  subst h0';simp only[List.getLast?_append,List.getLast?_singleton,Option.some_or,List.dropLast_concat];exact⟨⟨hT.1,fun _=>hc⟩,trivial,Beg.refl _⟩
 split
 ·unfold over;split
  ·exact⟨⟨by simp,fun _=>hc⟩,rfl,Beg.refl _⟩
  split
  ·refine⟨⟨hT.1,fun _=>hc⟩,rfl,?_⟩;show Beg S.w.out (nextR S.w).1.out;rw[nextR_out];exact Beg.refl _
  exact⟨⟨hT.1,fun _=>hc⟩,rfl,Beg.refl _⟩
 split
 ·exact⟨⟨e2,e3⟩,rfl,e1⟩
 exact⟨⟨hT.1,fun _=>hc⟩,rfl,e1⟩
theorem Plays.told (hE:SmE E)(hM:ModOk E.mo){n:Nat}(hG:Mach.Good E S)(hT:Told S)(h:Plays E n S D):Told D∧S.used≤D.used∧D.used≤S.used+n∧(D.st=0→D.used=S.used+n)∧Beg S.w.out D.w.out:=by
 induction n generalizing S with
 | zero=>
  have e:S=D:=h;subst e;exact⟨hT,Nat.le_refl _,Nat.le_refl _,fun _=>rfl,Beg.refl _⟩
 | succ n ih=>
  rcases h with ⟨h1,h2⟩ | ⟨h1,low,fr,i,rest,top,h2,h3⟩
  ·subst h2;exact⟨hT,Nat.le_refl _,by omega,fun h=>absurd h h1,Beg.refl _⟩
  obtain⟨t1,t2,t3⟩:=does_told hG h1 hT h2;obtain⟨a1,a2,a3,a4,a5⟩:=ih (hG.does hE hM h1 h2) t1 h3;exact⟨a1,by omega,by omega,fun h=>by rw[a4 h];omega,t3.trans a5⟩
end
def Rst (E:Env) (X Y:Nat) (S:St) (W:WL) (tag:NN):Prop:=∃ g low fr,MM E X g (msOf S low fr) W tag∧GM Y X W∧tag Y<10∧Mach.Good E S∧Told S∧(S.st=0→Pr S.frs∧S.frs=low++[fr]∧hd S.frs=some g.en)
section
variable {E:Env}{X Y:Nat}{S:St}{W W':WL}{tag tag':NN}{N:Nat}
theorem GM.kp {Y X:Nat}(h:GM Y X W)(ht:tag Y<10)(K:Kp tag tag' W W'):GM Y X W'∧tag' Y<10:=by
 have hl:Y<W.heap.size:=lt_of_cell h;exact⟨(K.cell (p:=Ad Y 0) hl ht).trans h,by rw[K.ret Y hl];exact ht⟩
theorem Rst.tell (h:Rst E X Y S W tag):Calls prog 22 #[ptr Y] W fun e w=>e=.returned (stV S.st S.code S.w.out S.used)∧Fr [] W w:=by
 obtain⟨g,low,fr,M,hY,hT,hG,r⟩:=h;exact tell11 M hY
theorem Rst.go (hE:GoE E)(h:Rst E X Y S W tag)(hN:N≤100000)(hu:S.used+N≤4611686018427387904):Calls prog 21 #[ptr Y,iA (N:Nat)] W fun e w=>e=.returned (stI 0)∧∃ D t,Plays E N S D∧Rst E X Y D w t∧Kp tag t W w:=by
 obtain⟨g,low,fr,M,hY,hT,hG,r,q⟩:=h;refine (go14_any hE M hY hG hN hu (fun h0=>⟨r.2 (by omega),q h0⟩) r.1).mono ?_;rintro e w ⟨he,-,D,g',s',t,hP,hD,M',K,e1,e2,e3,e4,e5⟩;obtain⟨y1,y2⟩:=hY.kp hT K;refine⟨he,D,t,hP,⟨g',s'.low,s'.fr,?_,y1,y2,hD,(Plays.told hE.sm hE.mod hG r hP).1,fun h0=>?_⟩,K⟩
 ·rw[show msOf D s'.low s'.fr=s' by cases s';simp only at e1 e2 e3 e4;subst e1 e2 e3 e4;rfl];exact M'
 obtain⟨a,b,c,d⟩:=e5 h0;exact⟨c,a.symm,b⟩
end
def ArgL (W:WL) (v:Value) (xs:LV):Prop:=∃ o c,v=.slice o xs.length c∧xs.length≤c∧c≤9223372036854775807∧(0<xs.length→∃ g off,o=some ⟨g,off,none⟩∧g<W.heap.size∧∀ (i:Nat) (x:Value),xs[i]?=some x→W.cell? ⟨g,off+i,none⟩=some x)
theorem ArgL.fr {W W':WL}{v:Value}{xs:LV} (h:ArgL W v xs) (F:Fr [] W W'):ArgL W' v xs:=by
 obtain⟨o,c,h1,h2,h3,h4⟩:=h;refine⟨o,c,h1,h2,h3,fun h0=>?_⟩;obtain⟨g,off,e1,e2,e3⟩:=h4 h0;exact⟨g,off,e1,Nll e2 F.size,fun i x hi=>(F.cell (p:=Ad g (off+i)) e2 (by simp)).trans (e3 i x hi)⟩
def IsB (P:Prop) (W:WL) (e:Ending) (w:WL):Prop:=∃ b:Bool,e=.returned (.bool b)∧(b=true↔P)∧w=W
def IsQ (P:Prop) (W:WL) (e:Ending) (w:WL):Prop:=∃ q:Int,e=.returned (.int .i64 q)∧(0≤q↔P)∧w=W
abbrev fnV (n:Nat):Value:=.func (.func n) #[] #[]
def longB (s:BA):Prop:=100<s.size
def beyN (n:Int):Prop:=n < -1000000000∨1000000000<n
def Scr (rs:LY) (ds:List Int):Prop:=rs.length≤50∧ds.length≤50∧(¬ ∃ s ∈ rs,longB s)∧¬ ∃ n ∈ ds,beyN n
theorem islong_any (x:BA)(W:WL):Calls prog 54 #[.string x] W (IsB (longB x) W):=by
 by_cases h:100<x.size
 ·have h':100<(x.size:Int):=by omega
  go_enter func54,ntmps54;go_wp2_with fail;go_ret;exact⟨true,rfl,by simp[longB,h],rfl⟩
 have h':¬ 100<(x.size:Int):=by omega
 go_enter func54,ntmps54;go_wp2_with fail;go_ret;exact⟨false,rfl,by simp[longB,h],rfl⟩
theorem idxlong_any (L:LY)(hn:L.length≤50){v:Value}(W:WL)(h:ArgL W v (L.map (.string))):Calls prog 110 #[v,fnV 54] W (IsQ (∃ x ∈ L,longB x) W):=by
 obtain⟨o,c,rfl,hc,hc2,hx⟩:=h;rw[List.length_map] at hc hx ⊢;have HX:Hid _:=hx;have J0:Hid (¬ ∃ (j:Nat) (x:BA),j<0∧L[j]?=some x∧longB x):=by rintro ⟨j,x,h,-⟩;omega
 clear hx;go_enter func110,ntmps110;go_wp2_with fail
 go_loop [8] (fun q=>∃ k:Nat,k≤L.length∧q=iA k∧Hid (¬ ∃ (j:Nat) (x:BA),j<k∧L[j]?=some x∧longB x)) (fun q=>L.length-(intOf q).toNat)
 case atStart=>exact⟨0,by omega,rfl,J0⟩
 case round=>
  clear J0;obtain⟨k,hk,rfl,J⟩:=hrel;by_cases hlt:k<L.length
  ·have g1:(k:Int)<L.length:=by omega
   obtain⟨x,hx⟩:∃ x,L[k]?=some x:=⟨_,Lge hlt⟩;obtain⟨g,off,rfl,-,hcell⟩:=HX.out (by omega);have c1:W.cell? (Ad g (off+k))=some (.string x):=hcell k _ (by rw[List.getElem?_map,hx];rfl);have HI:Hid _:=islong_any x W;have Hx:Hid _:=hx;have g2:IntKind.i64.wrap ((k:Int)+1)=((k+1:Nat):Int):=by rw[IntKind.wrap_i64];omega
   clear hx hcell HX;go_wp2_with fail;refine Calls.mono HI.out ?_;rintro e W1 ⟨b,rfl,hb,hW⟩;subst hW;have HB:Hid _:=hb;clear hb HI;rcases b with _ | _
   ·go_wp2_with fail;refine⟨⟨k+1,by omega,by go_num,?_⟩,by simp[intOf];omega⟩;rintro ⟨j,y,hj,hy,hp⟩;rcases Nat.lt_or_ge j k with c2 | c2
    ·exact J.out ⟨j,y,c2,hy,hp⟩
    have:j=k:=by omega
    subst this;have hxx:=Hx.out;rw[hxx] at hy;cases hy;have:=HB.out.2 hp;cases this
   go_wp2_with fail;go_ret;exact⟨k,rfl,⟨fun _=>⟨x,List.mem_of_getElem? Hx.out,by have:=HB.out;simpa using this⟩,fun _=>by omega⟩,rfl⟩
  have g1:¬ ((k:Int)<L.length):=by omega
  go_wp2_with fail;go_ret;refine⟨-1,rfl,⟨fun h=>by omega,?_⟩,rfl⟩;rintro ⟨x,hx,hp⟩;obtain⟨j,hj⟩:=List.getElem?_of_mem hx;exact absurd ⟨j,x,by have:=(Lgs.1 hj).1;omega,hj,hp⟩ J.out
theorem haslong_any (L:LY)(hn:L.length≤50){v:Value}(W:WL)(h:ArgL W v (L.map (.string))):Calls prog 53 #[v,fnV 54] W (IsB (∃ x ∈ L,longB x) W):=by
 have HI:Hid _:=idxlong_any L hn W h;clear h;go_enter func53,ntmps53;go_wp2_with fail;refine Calls.mono HI.out ?_;rintro e W1 ⟨q,rfl,hq,hW⟩;subst hW;have HQ:Hid _:=hq;clear hq HI;go_wp2_with fail;go_ret;exact⟨decide (0≤q),rfl,by simpa using HQ.out,rfl⟩
theorem isbey_any (x:Int)(W:WL):Calls prog 56 #[iA x] W (IsB (beyN x) W):=by
 by_cases h:x < -1000000000
 ·go_enter func56,ntmps56;go_wp2_with fail;go_ret;exact⟨true,rfl,by simp[beyN,h],rfl⟩
 by_cases h2:1000000000<x
 ·go_enter func56,ntmps56;go_wp2_with fail;go_ret;exact⟨true,rfl,by simp[beyN,h2],rfl⟩
 go_enter func56,ntmps56;go_wp2_with fail;go_ret;exact⟨false,rfl,by simp[beyN,h,h2],rfl⟩
theorem idxbey_any (L:List Int)(hn:L.length≤50){v:Value}(W:WL)(h:ArgL W v (L.map (.int .i64))):Calls prog 111 #[v,fnV 56] W (IsQ (∃ x ∈ L,beyN x) W):=by
 obtain⟨o,c,rfl,hc,hc2,hx⟩:=h;rw[List.length_map] at hc hx ⊢;have HX:Hid _:=hx;have J0:Hid (¬ ∃ (j:Nat) (x:Int),j<0∧L[j]?=some x∧beyN x):=by rintro ⟨j,x,h,-⟩;omega
 clear hx;go_enter func111,ntmps111;go_wp2_with fail
 go_loop [8] (fun q=>∃ k:Nat,k≤L.length∧q=iA k∧Hid (¬ ∃ (j:Nat) (x:Int),j<k∧L[j]?=some x∧beyN x)) (fun q=>L.length-(intOf q).toNat)
 case atStart=>exact⟨0,by omega,rfl,J0⟩
 case round=>
  clear J0;obtain⟨k,hk,rfl,J⟩:=hrel;by_cases hlt:k<L.length
  ·have g1:(k:Int)<L.length:=by omega
   obtain⟨x,hx⟩:∃ x,L[k]?=some x:=⟨_,Lge hlt⟩;obtain⟨g,off,rfl,-,hcell⟩:=HX.out (by omega);have c1:W.cell? (Ad g (off+k))=some (iA x):=hcell k _ (by rw[List.getElem?_map,hx];rfl);have HI:Hid _:=isbey_any x W;have Hx:Hid _:=hx;have g2:IntKind.i64.wrap ((k:Int)+1)=((k+1:Nat):Int):=by rw[IntKind.wrap_i64];omega
   clear hx hcell HX;go_wp2_with fail;refine Calls.mono HI.out ?_;rintro e W1 ⟨b,rfl,hb,hW⟩;subst hW;have HB:Hid _:=hb;clear hb HI;rcases b with _ | _
   ·go_wp2_with fail;refine⟨⟨k+1,by omega,by go_num,?_⟩,by simp[intOf];omega⟩;rintro ⟨j,y,hj,hy,hp⟩;rcases Nat.lt_or_ge j k with c2 | c2
    ·exact J.out ⟨j,y,c2,hy,hp⟩
    have:j=k:=by omega
    subst this;have hxx:=Hx.out;rw[hxx] at hy;cases hy;have:=HB.out.2 hp;cases this
   go_wp2_with fail;go_ret;exact⟨k,rfl,⟨fun _=>⟨x,List.mem_of_getElem? Hx.out,by have:=HB.out;simpa using this⟩,fun _=>by omega⟩,rfl⟩
  have g1:¬ ((k:Int)<L.length):=by omega
  go_wp2_with fail;go_ret;refine⟨-1,rfl,⟨fun h=>by omega,?_⟩,rfl⟩;rintro ⟨x,hx,hp⟩;obtain⟨j,hj⟩:=List.getElem?_of_mem hx;exact absurd ⟨j,x,by have:=(Lgs.1 hj).1;omega,hj,hp⟩ J.out
theorem hasbey_any (L:List Int)(hn:L.length≤50){v:Value}(W:WL)(h:ArgL W v (L.map (.int .i64))):Calls prog 55 #[v,fnV 56] W (IsB (∃ x ∈ L,beyN x) W):=by
 have HI:Hid _:=idxbey_any L hn W h;clear h;go_enter func55,ntmps55;go_wp2_with fail;refine Calls.mono HI.out ?_;rintro e W1 ⟨q,rfl,hq,hW⟩;subst hW;have HQ:Hid _:=hq;clear hq HI;go_wp2_with fail;go_ret;exact⟨decide (0≤q),rfl,by simpa using HQ.out,rfl⟩
section
variable {rs:LY}{ds:List Int}{v u:Value}{W:WL}
theorem isScript_many (hv:ArgL W v (rs.map .string))(hu:ArgL W u (ds.map (.int .i64)))(hn:50<rs.length∨50<ds.length):Calls prog 32 #[v,u] W (IsB (Scr rs ds) W):=by
 obtain⟨o,c,rfl,-,-,-⟩:=hv;obtain⟨o2,c2,rfl,-,-,-⟩:=hu;rw[List.length_map,List.length_map];have HP:Hid (¬ Scr rs ds):=by rintro ⟨h1,h2,-⟩;omega
 by_cases h:50<rs.length
 ·have g1:50<(rs.length:Int):=by omega
  clear hn;go_enter func32,ntmps32;go_wp2_with fail;go_ret;exact⟨false,rfl,by simp[HP.out],rfl⟩
 have g1:¬ 50<(rs.length:Int):=by omega
 have g2:50<(ds.length:Int):=by omega
 clear hn;go_enter func32,ntmps32;go_wp2_with fail;go_ret;exact⟨false,rfl,by simp[HP.out],rfl⟩
theorem isScript_any (hv:ArgL W v (rs.map .string))(hu:ArgL W u (ds.map (.int .i64))):Calls prog 32 #[v,u] W (IsB (Scr rs ds) W):=by
 by_cases hn:50<rs.length∨50<ds.length
 ·exact isScript_many hv hu hn
 have n1:rs.length≤50:=by omega
 have n2:ds.length≤50:=by omega
 have H1:Hid _:=haslong_any rs n1 W hv;have H2:Hid _:=hasbey_any ds n2 W hu;obtain⟨o,c,rfl,-,-,-⟩:=hv;obtain⟨o2,c2,rfl,-,-,-⟩:=hu;rw[List.length_map] at H1 H2 ⊢;rw[List.length_map];have g1:¬ 50<(rs.length:Int):=by omega
 have g2:¬ 50<(ds.length:Int):=by omega
 have HS:Hid (Scr rs ds↔(¬ ∃ s ∈ rs,longB s)∧¬ ∃ n ∈ ds,beyN n):=⟨fun h=>⟨h.2.2.1,h.2.2.2⟩,fun h=>⟨n1,n2,h.1,h.2⟩⟩;clear hn n1 n2;generalize (∃ s ∈ rs,longB s)=P1 at *;generalize (∃ n ∈ ds,beyN n)=P2 at *;go_enter func32,ntmps32;go_wp2_with fail;refine Calls.mono H1.out ?_;rintro e W1 ⟨b,rfl,hb,hW⟩;subst hW;have HB:Hid _:=hb;clear hb H1;rcases b with _ | _
 ·go_wp2_with fail;refine Calls.mono H2.out ?_;rintro e W2 ⟨b2,rfl,hb2,hW⟩;subst hW;have HB2:Hid _:=hb2;clear hb2 H2;go_wp2_with fail;go_ret;refine⟨!b2,rfl,?_,rfl⟩;rw[HS.out];have h1:=HB.out;have h2:=HB2.out;cases b2 <;> simp_all
 go_wp2_with fail;go_ret;refine⟨false,rfl,?_,rfl⟩;rw[HS.out];have h1:=HB.out;simp_all
end
section
variable {rs:LY}{ds:List Int}{v u:Value}{W:WL}
end
end Go.Proofs.YtmolfmgchbjnbaaGreatDoor
