import Derived.Test.YtlokkgajpjafmaaGreatDoorM04
set_option linter.unusedSimpArgs false
set_option linter.unusedVariables false
set_option maxRecDepth 100000
set_option maxHeartbeats 40000000
namespace Go.Proofs.YtlokkgajpjafmaaGreatDoor
namespace Flow
def sI (w:Nat) (st:LN):Option (LN):=
 match st.getLast? with
 | none=>none
 | some x=>if x &&& (w ^^^ 15)=0 then some st.dropLast else none
def cO:LN→LN→Option (LN)
 | [],st=>some st
 | w :: r,st=>(sI w st).bind (cO r)
def dP (x:Nat) (st:LN):Option (LN):=if st.length=1024 then none else some (st++[x])
def cX:LN→LN→Option (LN)
 | [],st=>some st
 | x :: l,st=>(dP x st).bind (cX l)
theorem uO {s t u v:LB}(hl:s.length=t.length):nO (s++u) (t++v)=(nO s t && nO u v):=by
 induction s generalizing t with
 | nil=>cases t with
  | nil=>simp[nO]
  | cons=>simp at hl
 | cons a s ih=>cases t with
  | nil=>simp at hl
  | cons b t=>simp[nO,ih (t:=t) (by simpa using hl),Bool.and_assoc]
def aHa (s:LN):Prop:=∀ x,x ∈ s→aRq x
theorem gL (w x:Nat)(s:LN):sI w (s++[x])=if x &&& (w ^^^ 15)=0 then some s else none:=by
 unfold sI;simp
theorem nD {st:LN}(h:st≠[]):∃ s x,st=s++[x]:=⟨st.dropLast,st.getLast h,(List.dropLast_concat_getLast h).symm⟩
theorem aMj (r:LN)(hr:aHa r)(st:LN)(hs:bC st) :
  cO r st=if st.length<r.length then none else if nO ((abL st).drop (st.length-r.length)) (abL r.reverse)=true then some (st.take (st.length-r.length)) else none:=by
 induction r generalizing st with
 | nil=>
  have e:(abL st).drop st.length=[]:=List.drop_eq_nil_of_le (by rw[bR];exact Nat.le_refl _);simp only[cO,List.length_nil,Nat.sub_zero,e,Nat.not_lt_zero,if_false];simp[nO,abL]
 | cons w r ih=>
  by_cases h0:st=[]
  ·subst h0;simp[cO,sI]
  obtain⟨s,x,rfl⟩:=nD h0;have hx:pY x:=hs x (by simp);have hs':bC s:=hs.left;have hw:aRq w:=hr w (by simp);have hr':aHa r:=fun y hy=>hr y (by simp[hy]);simp only[cO,gL];simp only[Lla,List.length_cons,List.length_nil,Nat.zero_add,Nat.add_lt_add_iff_right,Nat.add_sub_add_right];by_cases hle:x &&& (w ^^^ 15)=0
  ·rw[if_pos hle];simp only[Option.bind_some];rw[ih hr' s hs'];by_cases hlen:s.length<r.length
   ·rw[if_pos hlen,if_pos hlen]
   rw[if_neg hlen,if_neg hlen];have e1:(abL (s++[x])).drop (s.length-r.length)=(abL s).drop (s.length-r.length)++[ab x]:=by
    rw[kW,List.drop_append_of_le_length (by rw[bR];omega)];rfl
   have e2:abL (w :: r).reverse=abL r.reverse++[ab w]:=by simp[abL]
   rw[e1,e2,uO (by simp[bR];omega)];have e3:nO [ab x] [ab w]=true:=fV.2 ⟨(aVv hx hw).1 hle,trivial⟩;rw[e3,Bool.and_true,List.take_append_of_le_length (by omega)]
  rw[if_neg hle];simp only[Option.bind_none];by_cases hlen:s.length<r.length
  ·rw[if_pos hlen]
  rw[if_neg hlen];have e1:(abL (s++[x])).drop (s.length-r.length)=(abL s).drop (s.length-r.length)++[ab x]:=by
   rw[kW,List.drop_append_of_le_length (by rw[bR];omega)];rfl
  have e2:abL (w :: r).reverse=abL r.reverse++[ab w]:=by simp[abL]
  rw[e1,e2,uO (by simp[bR];omega)];have e3:nO [ab x] [ab w]=false:=by
   cases hq:nO [ab x] [ab w] with
   | false=>rfl
   | true=>exact absurd ((aVv hx hw).2 (fV.1 hq).1) hle
  rw[e3,Bool.and_false];simp
theorem aKi (l st:LN):cX l st=if l≠[]∧st.length ≥ 1024∧st.length=1024∨st.length≤1024∧1024<st.length+l.length then none else if st.length≤1024 then some (st++l) else cX l st:=by
 induction l generalizing st with
 | nil=>
  by_cases h:st.length≤1024
  ·rw[if_neg (by simp),if_pos h];simp[cX]
  rw[if_neg (by simp),if_neg h]
 | cons x l ih=>
  by_cases h:st.length≤1024
  ·by_cases h2:st.length=1024
   ·rw[if_pos (Or.inl ⟨by simp,by omega,h2⟩)];simp[cX,dP,h2]
   have e:cX (x :: l) st=cX l (st++[x]):=by simp[cX,dP,h2]
   rw[e,ih];simp only[Lla,List.length_cons,List.length_nil,Nat.zero_add];by_cases h3:1024<st.length+(l.length+1)
   ·rw[if_pos (show (x :: l≠[]∧st.length ≥ 1024∧st.length=1024∨st.length≤1024∧1024<st.length+(l.length+1)) from Or.inr ⟨h,h3⟩),if_pos (Or.inr ⟨by omega,by omega⟩)]
   rw[if_neg (show ¬ (x :: l≠[]∧st.length ≥ 1024∧st.length=1024∨st.length≤1024∧1024<st.length+(l.length+1)) by rintro (⟨_,_,q⟩ | ⟨_,q⟩) <;> omega)]
   rw[if_neg (by
    rintro (⟨q,_,q2⟩ | ⟨_,q⟩)
    ·have:l.length≠0:=fun z=>q (List.length_eq_zero_iff.1 z);omega
    omega),if_pos (by omega),if_pos h]
   simp
  rw[if_neg (by simp;omega),if_neg h]
theorem pP {l st:LN}(h:st.length≤1024):cX l st=if st.length+l.length≤1024 then some (st++l) else none:=by
 rw[aKi];by_cases h2:st.length+l.length≤1024
 ·rw[if_neg,if_pos h,if_pos h2];rintro (⟨q,_,q2⟩ | ⟨_,q⟩)
  ·have:l.length≠0:=fun z=>q (List.length_eq_zero_iff.1 z);omega
  omega
 rw[if_pos (Or.inr ⟨h,by omega⟩),if_neg h2]
def kD:List (LN):=[[],[],[],[],[3],[],[3],[1],[1,3],[],[],[2],[2,3],[2],[2],[],[],[4],[1,1],[1,1],[1,1],[1,1],[1,1],[1],[1],[2,2],[3],[3],[3],[3,3],[3,3],[3,3],[3,3],[3,3],[3,3],[2],[2],[2,2],[2],[2],[2,1,1],[2,2],[],[],[],[3],[3,3],[7],[],[1],[],[3],[],[1]]
def kN:List (LN):=[[1],[2],[3],[3],[],[3],[],[3],[],[1],[1],[3],[],[1],[],[],[4],[4,2],[1],[1],[1],[1],[1],[1],[1],[2],[1],[2],[1],[1],[1],[1],[1],[1],[1],[1],[1],[2],[1],[1],[2],[1],[1],[1],[],[],[],[],[],[],[3],[],[],[]]
theorem aMg:∀ op,op<54→abL (kD.getD op [])=aMh.getD op []:=by decide
theorem aPr:∀ op,op<54→abL (kN.getD op [])=aPs.getD op []:=by decide
def gJ (par:NN) (op a:Nat):LN:=
 if op=44 then List.replicate a 2 else if op=50 then List.replicate (par a) 3 else kD.getD op []
def kO (op:Nat) (top:LN):LN:=
 if op=45 then top++top else if op=46 then top.drop 1++top else kN.getD op []
theorem X8 {par:NN}{op a:Nat} (h:op<54):abL (gJ par op a)=mF par op a:=by
 unfold gJ mF;split
 ·simp[abL,ab]
 split
 ·simp[abL,ab]
 exact aMg op h
theorem aPt {op:Nat}{top:LN} (h:op<54):abL (kO op top)=sN op (abL top):=by
 unfold kO sN;split
 ·rw[kW]
 split
 ·rw[kW];simp[abL]
 exact aPr op h
theorem rR:∀ op,op<54→∀ x,x ∈ kD.getD op []→(x=1∨x=2∨x=3∨x=4∨x=7):=by decide
theorem X7 {par:NN}{op a:Nat} (h:op<54):aHa (gJ par op a):=by
 intro x hx;unfold gJ at hx;split at hx
 ·rw[List.mem_replicate] at hx;rw[hx.2];exact Or.inr (Or.inl rfl)
 split at hx
 ·rw[List.mem_replicate] at hx;rw[hx.2];exact Or.inr (Or.inr (Or.inl rfl))
 exact rR op h x hx
def eJ (par:NN) (op a:Nat) (st:LN):Option (LN × LN):=
 (cO (gJ par op a).reverse st).bind (fun rest=>
  if (rest++kO op (st.drop rest.length)).length≤1024 then some (rest++kO op (st.drop rest.length),rest) else none)
theorem aLx {par:NN}{op a:Nat}{st:LN} (h:op<54) (hs:bC st) :
  after par op a (abL st)=(eJ par op a st).map (fun p=>(abL p.1,abL p.2)):=by
 unfold after eJ;rw[aMj _ (fun x hx=>X7 (a:=a) (par:=par) h x (List.mem_reverse.1 hx)) st hs,List.reverse_reverse,X8 h,List.length_reverse,bR];have hwl:(mF par op a).length=(gJ par op a).length:=by rw[← X8 h,bR]
 rw[hwl];generalize (gJ par op a).length=n;by_cases h1:st.length<n
 ·rw[if_pos h1,if_pos h1];rfl
 rw[if_neg h1,if_neg h1];by_cases h2:nO ((abL st).drop (st.length-n)) (mF par op a)=true
 ·rw[if_pos h2,if_pos h2];simp only[Option.bind_some];have e1:(st.take (st.length-n)).length=st.length-n:=by rw[List.length_take];omega
  rw[e1];have e2:(abL st).take (st.length-n)++sN op ((abL st).drop (st.length-n))=abL (st.take (st.length-n)++kO op (st.drop (st.length-n))):=by
   rw[kW,aPt h];simp[abL]
  rw[e2,bR];by_cases h3:(st.take (st.length-n)++kO op (st.drop (st.length-n))).length≤1024
  ·rw[if_pos h3,if_pos h3];simp[abL]
  rw[if_neg h3,if_neg h3];rfl
 rw[if_neg h2,if_neg h2];rfl
theorem uS:∀ op,op<54→∀ x,x ∈ kN.getD op []→(0<x∧x<8):=by decide
theorem oL (r st rest:LN)(h:cO r st=some rest):rest=st.take rest.length:=by
 induction r generalizing st with
 | nil=>simp only[cO,Option.some.injEq] at h;subst h;simp
 | cons w r ih=>
  simp only[cO] at h;by_cases h0:st=[]
  ·subst h0;simp[sI] at h
  obtain⟨s,x,rfl⟩:=nD h0;rw[gL] at h;split at h
  ·simp only[Option.bind_some] at h;have e:=ih s h;have hl:rest.length≤s.length:=by rw[e,List.length_take];omega
   rw[List.take_append_of_le_length hl];exact e
  cases h
theorem bC.take {s:LN}(h:bC s)(n:Nat):bC (s.take n):=fun x hx=>h x (List.mem_of_mem_take hx)
theorem bC.drop {s:LN}(h:bC s)(n:Nat):bC (s.drop n):=fun x hx=>h x (List.mem_of_mem_drop hx)
theorem vA {par:NN}{op a:Nat}{st o r:LN} (h:op<54) (hs:bC st) (ha:eJ par op a st=some (o,r)):bC o∧bC r∧o.length≤1024:=by
 unfold eJ at ha;cases ht:cO (gJ par op a).reverse st with
 | none=>rw[ht] at ha;cases ha
 | some rest=>
  rw[ht] at ha;simp only[Option.bind_some] at ha;split at ha
  ·rename_i hm
   simp only[Option.some.injEq,Prod.mk.injEq] at ha;obtain⟨rfl,rfl⟩:=ha;have hr:bC rest:=by rw[oL _ _ _ ht];exact hs.take _
   refine⟨hr.append ?_,hr,hm⟩;unfold kO;split
   ·exact (hs.drop _).append (hs.drop _)
   split
   ·exact ((hs.drop _).drop _).append (hs.drop _)
   intro x hx;exact uS op h x hx
  cases ha
end Flow
end Go.Proofs.YtlokkgajpjafmaaGreatDoor
