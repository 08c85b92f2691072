/-
  Texts Vi Ha Hb Hg.
-/
import Derived.Test.YtgpamchpeamnfaaGreatDoorMA
import Derived.Test.YtgpamchpeamnfaaGreatDoorM01
import Derived.Test.YtgpamchpeamnfaaGreatDoorM00
set_option linter.unusedSimpArgs false
set_option linter.unusedVariables false
set_option maxRecDepth 100000
set_option maxHeartbeats 40000000
open _root_.Go.Proofs.Tryz
namespace Go.Proofs.YtgpamchpeamnfaaGreatDoor
namespace Flow
def xQ (w:Nat) (st:List Nat):Option (List Nat):=
 match st.getLast? with
 | none=>none
 | some x=>if x &&& (w ^^^ 15)=0 then some st.dropLast else none
def eD:List Nat→List Nat→Option (List Nat)
 | [],st=>some st
 | w :: r,st=>(xQ w st).bind (eD r)
def fQ (x:Nat) (st:List Nat):Option (List Nat):=if st.length=1024 then none else some (st++[x])
def eU:List Nat→List Nat→Option (List Nat)
 | [],st=>some st
 | x :: l,st=>(fQ x st).bind (eU l)
theorem i6 {s t u v:List UInt8}(hl:s.length=t.length):pI (s++u) (t++v)=(pI s t && pI u v):=by
 induction s generalizing t with
 | nil=>cases t with
  | nil=>simp[pI]
  | cons=>simp at hl
 | cons a s ih=>cases t with
  | nil=>simp at hl
  | cons b t=>simp[pI,ih (t:=t) (by simpa using hl),Bool.and_assoc]
def aNa (s:List Nat):Prop:=∀ x,x ∈ s→aKb x
theorem kW (w x:Nat)(s:List Nat):xQ w (s++[x])=if x &&& (w ^^^ 15)=0 then some s else none:=by
 unfold xQ
 simp
theorem rY {st:List Nat}(h:st≠[]):∃ s x,st=s++[x]:=⟨st.dropLast,st.getLast h,(List.dropLast_concat_getLast h).symm⟩
theorem aTd (r:List Nat)(hr:aNa r)(st:List Nat)(hs:bU st) :
  eD r st=if st.length<r.length then none else if pI ((abL st).drop (st.length-r.length)) (abL r.reverse)=true then some (st.take (st.length-r.length)) else none:=by
 induction r generalizing st with
 | nil=>
  have e:(abL st).drop st.length=[]:=List.drop_eq_nil_of_le (by rw[cR];exact Nat.le_refl _)
  simp only[eD,List.length_nil,Nat.sub_zero,e,Nat.not_lt_zero,if_false]
  simp[pI,abL]
 | cons w r ih=>
  by_cases h0:st=[]
  ·subst h0
   simp[eD,xQ]
  ·obtain⟨s,x,rfl⟩:=rY h0
   have hx:uE x:=hs x (by simp)
   have hs':bU s:=hs.left
   have hw:aKb w:=hr w (by simp)
   have hr':aNa r:=fun y hy=>hr y (by simp[hy])
   simp only[eD,kW]
   simp only[Lla,List.length_cons,List.length_nil,Nat.zero_add,Nat.add_lt_add_iff_right,Nat.add_sub_add_right]
   by_cases hle:x &&& (w ^^^ 15)=0
   ·rw[if_pos hle]
    simp only[Option.bind_some]
    rw[ih hr' s hs']
    by_cases hlen:s.length<r.length
    ·rw[if_pos hlen,if_pos hlen]
    ·rw[if_neg hlen,if_neg hlen]
     have e1:(abL (s++[x])).drop (s.length-r.length)=(abL s).drop (s.length-r.length)++[ab x]:=by
      rw[pS,List.drop_append_of_le_length (by rw[cR];omega)]
      rfl
     have e2:abL (w :: r).reverse=abL r.reverse++[ab w]:=by simp[abL]
     rw[e1,e2,i6 (by simp[cR];omega)]
     have e3:pI [ab x] [ab w]=true:=rO.2 ⟨(bAo hx hw).1 hle,trivial⟩
     rw[e3,Bool.and_true,List.take_append_of_le_length (by omega)]
   ·rw[if_neg hle]
    simp only[Option.bind_none]
    by_cases hlen:s.length<r.length
    ·rw[if_pos hlen]
    ·rw[if_neg hlen]
     have e1:(abL (s++[x])).drop (s.length-r.length)=(abL s).drop (s.length-r.length)++[ab x]:=by
      rw[pS,List.drop_append_of_le_length (by rw[cR];omega)]
      rfl
     have e2:abL (w :: r).reverse=abL r.reverse++[ab w]:=by simp[abL]
     rw[e1,e2,i6 (by simp[cR];omega)]
     have e3:pI [ab x] [ab w]=false:=by
      cases hq:pI [ab x] [ab w] with
      | false=>rfl
      | true=>exact absurd ((bAo hx hw).2 (rO.1 hq).1) hle
     rw[e3,Bool.and_false]
     simp
theorem aQm (l st:List Nat):eU l st=if l≠[]∧st.length ≥ 1024∧st.length=1024∨st.length≤1024∧1024<st.length+l.length then none else if st.length≤1024 then some (st++l) else eU l st:=by
 induction l generalizing st with
 | nil=>
  by_cases h:st.length≤1024
  ·rw[if_neg (by simp),if_pos h]
   simp[eU]
  ·rw[if_neg (by simp),if_neg h]
 | cons x l ih=>
  by_cases h:st.length≤1024
  ·by_cases h2:st.length=1024
   ·rw[if_pos (Or.inl ⟨by simp,by omega,h2⟩)]
    simp[eU,fQ,h2]
   ·have e:eU (x :: l) st=eU l (st++[x]):=by simp[eU,fQ,h2]
    rw[e,ih]
    simp only[Lla,List.length_cons,List.length_nil,Nat.zero_add]
    by_cases h3:1024<st.length+(l.length+1)
    ·rw[if_pos (show (x :: l≠[]∧st.length ≥ 1024∧st.length=1024∨st.length≤1024∧1024<st.length+(l.length+1)) from Or.inr ⟨h,h3⟩),if_pos (Or.inr ⟨by omega,by omega⟩)]
    ·rw[if_neg (show ¬ (x :: l≠[]∧st.length ≥ 1024∧st.length=1024∨st.length≤1024∧1024<st.length+(l.length+1)) by rintro (⟨_,_,q⟩ | ⟨_,q⟩) <;> omega)]
     rw[if_neg (by
      rintro (⟨q,_,q2⟩ | ⟨_,q⟩)
      ·have:l.length≠0:=fun z=>q (List.length_eq_zero_iff.1 z)
       omega
      ·omega),if_pos (by omega),if_pos h]
     simp
  ·rw[if_neg (by simp;omega),if_neg h]
theorem uP {l st:List Nat}(h:st.length≤1024):eU l st=if st.length+l.length≤1024 then some (st++l) else none:=by
 rw[aQm]
 by_cases h2:st.length+l.length≤1024
 ·rw[if_neg,if_pos h,if_pos h2]
  rintro (⟨q,_,q2⟩ | ⟨_,q⟩)
  ·have:l.length≠0:=fun z=>q (List.length_eq_zero_iff.1 z)
   omega
  ·omega
 ·rw[if_pos (Or.inr ⟨h,by omega⟩),if_neg h2]
def oT:List (List Nat):=[[],[],[],[],[3],[],[3],[1],[1,3],[],[],[2],[2,3],[2],[2],[],[],[4],[1,1],[1,1],[1,1],[1,1],[1,1],[1],[1],[2,2],[3],[3],[3],[3,3],[3,3],[3,3],[3,3],[3,3],[3,3],[2],[2],[2,2],[2],[2],[2,1,1],[2,2],[],[],[],[3],[3,3],[7],[],[1],[],[3],[],[1]]
def pK:List (List Nat):=[[1],[2],[3],[3],[],[3],[],[3],[],[1],[1],[3],[],[1],[],[],[4],[4,2],[1],[1],[1],[1],[1],[1],[1],[2],[1],[2],[1],[1],[1],[1],[1],[1],[1],[1],[1],[2],[1],[1],[2],[1],[1],[1],[],[],[],[],[],[],[3],[],[],[]]
theorem aTb:∀ op,op<54→abL (oT.getD op [])=lY.getD op []:=by decide
theorem aVl:∀ op,op<54→abL (pK.getD op [])=jV.getD op []:=by decide
def kT (par:Nat→Nat) (op a:Nat):List Nat:=
 if op=44 then List.replicate a 2 else if op=50 then List.replicate (par a) 3 else oT.getD op []
def pM (op:Nat) (top:List Nat):List Nat:=
 if op=45 then top++top else if op=46 then top.drop 1++top else pK.getD op []
theorem aFo {par:Nat→Nat}{op a:Nat} (h:op<54):abL (kT par op a)=iD par op a:=by
 unfold kT iD
 split
 ·simp[abL,ab]
 ·split
  ·simp[abL,ab]
  ·exact aTb op h
theorem aVm {op:Nat}{top:List Nat} (h:op<54):abL (pM op top)=pW op (abL top):=by
 unfold pM pW
 split
 ·rw[pS]
 ·split
  ·rw[pS];simp[abL]
  ·exact aVl op h
theorem xD:∀ op,op<54→∀ x,x ∈ oT.getD op []→(x=1∨x=2∨x=3∨x=4∨x=7):=by decide
theorem aFn {par:Nat→Nat}{op a:Nat} (h:op<54):aNa (kT par op a):=by
 intro x hx
 unfold kT at hx
 split at hx
 ·rw[List.mem_replicate] at hx;rw[hx.2];exact Or.inr (Or.inl rfl)
 ·split at hx
  ·rw[List.mem_replicate] at hx;rw[hx.2];exact Or.inr (Or.inr (Or.inl rfl))
  ·exact xD op h x hx
def iA (par:Nat→Nat) (op a:Nat) (st:List Nat):Option (List Nat × List Nat):=
 (eD (kT par op a).reverse st).bind (fun rest=>
  if (rest++pM op (st.drop rest.length)).length≤1024 then some (rest++pM op (st.drop rest.length),rest) else none)
theorem aSo {par:Nat→Nat}{op a:Nat}{st:List Nat} (h:op<54) (hs:bU st) :
  after par op a (abL st)=(iA par op a st).map (fun p=>(abL p.1,abL p.2)):=by
 unfold after iA
 rw[aTd _ (fun x hx=>aFn (a:=a) (par:=par) h x (List.mem_reverse.1 hx)) st hs,List.reverse_reverse,aFo h,List.length_reverse,cR]
 have hwl:(iD par op a).length=(kT par op a).length:=by rw[← aFo h,cR]
 rw[hwl]
 generalize (kT par op a).length=n
 by_cases h1:st.length<n
 ·rw[if_pos h1,if_pos h1];rfl
 ·rw[if_neg h1,if_neg h1]
  by_cases h2:pI ((abL st).drop (st.length-n)) (iD par op a)=true
  ·rw[if_pos h2,if_pos h2]
   simp only[Option.bind_some]
   have e1:(st.take (st.length-n)).length=st.length-n:=by rw[List.length_take];omega
   rw[e1]
   have e2:(abL st).take (st.length-n)++pW op ((abL st).drop (st.length-n))=abL (st.take (st.length-n)++pM op (st.drop (st.length-n))):=by
    rw[pS,aVm h]
    simp[abL]
   rw[e2,cR]
   by_cases h3:(st.take (st.length-n)++pM op (st.drop (st.length-n))).length≤1024
   ·rw[if_pos h3,if_pos h3]
    simp[abL]
   ·rw[if_neg h3,if_neg h3];rfl
  ·rw[if_neg h2,if_neg h2];rfl
theorem i7:∀ op,op<54→∀ x,x ∈ pK.getD op []→(0<x∧x<8):=by decide
theorem tB (r st rest:List Nat)(h:eD r st=some rest):rest=st.take rest.length:=by
 induction r generalizing st with
 | nil=>simp only[eD,Option.some.injEq] at h;subst h;simp
 | cons w r ih=>
  simp only[eD] at h
  by_cases h0:st=[]
  ·subst h0;simp[xQ] at h
  ·obtain⟨s,x,rfl⟩:=rY h0
   rw[kW] at h
   split at h
   ·simp only[Option.bind_some] at h
    have e:=ih s h
    have hl:rest.length≤s.length:=by rw[e,List.length_take];omega
    rw[List.take_append_of_le_length hl]
    exact e
   ·cases h
theorem bU.take {s:List Nat}(h:bU s)(n:Nat):bU (s.take n):=fun x hx=>h x (List.mem_of_mem_take hx)
theorem bU.drop {s:List Nat}(h:bU s)(n:Nat):bU (s.drop n):=fun x hx=>h x (List.mem_of_mem_drop hx)
theorem r6 {par:Nat→Nat}{op a:Nat}{st o r:List Nat} (h:op<54) (hs:bU st) (ha:iA par op a st=some (o,r)):bU o∧bU r∧o.length≤1024:=by
 unfold iA at ha
 cases ht:eD (kT par op a).reverse st with
 | none=>rw[ht] at ha;cases ha
 | some rest=>
  rw[ht] at ha
  simp only[Option.bind_some] at ha
  split at ha
  ·rename_i hm
   simp only[Option.some.injEq,Prod.mk.injEq] at ha
   obtain⟨rfl,rfl⟩:=ha
   have hr:bU rest:=by rw[tB _ _ _ ht];exact hs.take _
   refine⟨hr.append ?_,hr,hm⟩
   unfold pM
   split
   ·exact (hs.drop _).append (hs.drop _)
   ·split
    ·exact ((hs.drop _).drop _).append (hs.drop _)
    ·intro x hx;exact i7 op h x hx
  ·cases ha
end Flow
open Go.RowKit
open Wire Flow
def wdS (st:List Nat) (j:Nat):Nat:=pk ((st.drop (16*j)).take 16)
theorem aCp {st:List Nat}(h:∀ x,x ∈ st→x<16)(j:Nat):wdS st j<18446744073709551616:=by
 have h1:=aNn (s:=(st.drop (16*j)).take 16) (fun x hx=>h x (List.mem_of_mem_drop (List.mem_of_mem_take hx)))
 have h2:((st.drop (16*j)).take 16).length≤16:=by rw[List.length_take];omega
 have h3:16 ^ ((st.drop (16*j)).take 16).length≤16 ^ 16:=Nat.pow_le_pow_right (by omega) h2
 have h4:(16:Nat) ^ 16=18446744073709551616:=by decide
 unfold wdS
 omega
theorem aFm (st:List Nat){q:Nat}(hq:st.length / 16=q):wdS st q=pk (st.drop (16*q))∧(st.drop (16*q)).length=st.length % 16:=by
 have hl:(st.drop (16*q)).length=st.length % 16:=by rw[List.length_drop];omega
 refine⟨?_,hl⟩
 unfold wdS
 rw[List.take_of_length_le (by omega)]
theorem uX {st:List Nat}{x q:Nat} (hq:st.length / 16=q):wdS (st++[x]) q=pk (st.drop (16*q)++[x]):=by
 unfold wdS
 rw[List.drop_append_of_le_length (by omega),List.take_of_length_le (by rw[Lla,List.length_drop];simp;omega)]
theorem vZ {st:List Nat}{x j:Nat} (hj:j≠st.length / 16):wdS (st++[x]) j=wdS st j:=by
 unfold wdS
 by_cases h:j<st.length / 16
 ·rw[List.drop_append_of_le_length (by omega),List.take_append_of_le_length (by rw[List.length_drop];omega)]
 ·have h1:st.length<16*j:=by omega
  rw[List.drop_eq_nil_of_le (show (st++[x]).length≤16*j by rw[Lla,List.length_singleton];omega),List.drop_eq_nil_of_le (show st.length≤16*j by omega)]
theorem aMr {P x n:Nat}(hP:P<2 ^ n)(hx:x<16)(hn:n+4≤64):(2 ^ n*x+P) &&& (2 ^ 64-(15*2 ^ n+1))=P:=by
 apply Nat.eq_of_testBit_eq
 intro i
 have h15:15*2 ^ n<2 ^ 64:=by
  have:2 ^ (n+4)≤2 ^ 64:=Nat.pow_le_pow_right (by omega) hn
  rw[Nat.pow_add] at this
  have h16:(2:Nat) ^ 4=16:=by decide
  have hp:0<2 ^ n:=Nat.two_pow_pos n
  omega
 rw[Nat.testBit_and,Nat.testBit_two_pow_sub_succ h15,Nat.testBit_two_pow_mul_add _ hP,Nat.mul_comm 15,Nat.testBit_two_pow_mul]
 by_cases hi:i<n
 ·have:¬ n≤i:=by omega
  simp[hi,this]
  intro _
  omega
 ·have hni:n≤i:=by omega
  have hPi:P.testBit i=false:=Nat.testBit_lt_two_pow (Nll hP (Nat.pow_le_pow_right (by omega) hni))
  rw[hPi]
  simp only[hi,if_false,hni,decide_true,Bool.true_and,Bool.and_eq_false_imp]
  intro hxb
  have h4:i-n<4:=by
   rcases Nat.lt_or_ge (i-n) 4 with h | h
   ·exact h
   ·have:x.testBit (i-n)=false:=Nat.testBit_lt_two_pow (Nll hx (by
     have:(2:Nat) ^ 4≤2 ^ (i-n):=Nat.pow_le_pow_right (by omega) h
     have h16:(2:Nat) ^ 4=16:=by decide
     omega))
    rw[this] at hxb
    cases hxb
  have h15b:∀ k,k<4→Nat.testBit 15 k=true:=by decide
  rw[h15b _ h4]
  simp
theorem aNs (a:Nat)(h:a<18446744073709551616):(BitVec.ofInt 64 (a:Int)).toNat=a:=by
 rw[BitVec.toNat_ofInt]
 have:((a:Int) % (2 ^ 64:Nat))=a:=Int.emod_eq_of_lt (by omega) (by simp;omega)
 simp only[this]
 rfl
theorem aAn (a b:Nat)(ha:a<18446744073709551616)(hb:b<18446744073709551616):bits .andNot .u64 (a:Int) (b:Int)=((a &&& (2 ^ 64-(b+1)):Nat):Int):=by
 show IntKind.u64.wrap ((BitVec.ofInt 64 (a:Int) &&& ~~~BitVec.ofInt 64 (b:Int)).toNat:Int)=_
 rw[BitVec.toNat_and,BitVec.toNat_not,aNs a ha,aNs b hb,show 2 ^ 64-1-b=2 ^ 64-(b+1) by omega]
 have h:a &&& (2 ^ 64-(b+1))≤a:=Nat.and_le_left
 exact oI _ (by omega) (by omega)
theorem aJp:∀ x,x<16→∀ w,w<16→x &&& (255-w)=x &&& (w ^^^ 15):=by decide
theorem aEs (x w:Nat)(hx:x<16)(hw:w<16):bits .andNot .u8 (x:Int) (w:Int)=((x &&& (w ^^^ 15):Nat):Int):=by
 show IntKind.u8.wrap ((BitVec.ofInt 8 (x:Int) &&& ~~~BitVec.ofInt 8 (w:Int)).toNat:Int)=_
 have e:∀ a:Nat,a<256→(BitVec.ofInt 8 (a:Int)).toNat=a:=fun a h=>by
  rw[BitVec.toNat_ofInt]
  have:((a:Int) % (2 ^ 8:Nat))=a:=Int.emod_eq_of_lt (by omega) (by simp;omega)
  simp only[this]
  rfl
 rw[BitVec.toNat_and,BitVec.toNat_not,e x (by omega),e w (by omega),show 2 ^ 8-1-w=255-w by omega,aJp x hx w hw]
 have h:x &&& (w ^^^ 15)≤x:=Nat.and_le_left
 exact wraps_u8 _ (by omega) (by omega)
theorem aPm {A x r B:Nat}(hA:A<18446744073709551616)(hx:x<16)(hr:r<16)(hB:A ||| (x <<< (4*r))=B):bits .or .u64 (A:Int) (IntKind.u64.wrap ((x:Int)*2 ^ (r*4)))=(B:Int):=by
 have h1:(2:Nat) ^ (r*4)≤2 ^ 60:=Nat.pow_le_pow_right (by omega) (by omega)
 have h2:x*2 ^ (r*4)≤15*2 ^ 60:=Nat.mul_le_mul (by omega) h1
 have h3:((x:Int)*2 ^ (r*4))=((x*2 ^ (r*4):Nat):Int):=by push_cast;rfl
 have h4:(15:Nat)*2 ^ 60<18446744073709551616:=by decide
 rw[h3,oI _ (by omega) (by omega),bits_or_u64_nat _ _ hA (by omega),← hB,Nat.shiftLeft_eq,Nat.mul_comm 4 r]
structure eP (w:World) (sb:Nat) (st:List Nat) (wr:Bool):Prop where
 c0:w.cell? ⟨sb,0,none⟩=some (.int .i64 (st.length:Int))
 c1:w.cell? ⟨sb,1,none⟩=some (.bool wr)
 cw:∀ j,j<64→w.cell? ⟨sb,2+j,none⟩=some (.int .u64 (wdS st j:Nat))
 fz:∀ i,w.frozen? ⟨sb,i,none⟩=false
 hi:st.length≤1024
 sm:∀ x,x ∈ st→x<16
theorem eP.lt {w:World}{sb:Nat}{st:List Nat}{wr:Bool} (h:eP w sb st wr):sb<w.heap.size:=aC (a:=⟨sb,0,none⟩) h.c0
theorem eP.of_block {w w':World}{sb:Nat}{st:List Nat}{wr:Bool} (h:eP w sb st wr) (hb:w'.heap[sb]?=w.heap[sb]?):eP w' sb st wr:=
 ⟨(World.cell?_of_block (w:=w) (a:=⟨sb,0,none⟩) hb).trans h.c0,(World.cell?_of_block (w:=w) (a:=⟨sb,1,none⟩) hb).trans h.c1,fun j hj=>(World.cell?_of_block (w:=w) (a:=⟨sb,2+j,none⟩) hb).trans (h.cw j hj),
   fun i=>(World.frozen?_of_block (w:=w) (a:=⟨sb,i,none⟩) hb).trans (h.fz i),h.hi,h.sm⟩
theorem eP.fr {S:List Nat}{w w':World}{sb:Nat}{st:List Nat}{wr:Bool} (h:eP w sb st wr) (hf:Fr S w w') (hr:sb ∉ S):eP w' sb st wr:=h.of_block (hf.block sb h.lt hr)
theorem eP.setWrong {w:World}{sb:Nat}{st:List Nat}{wr:Bool} (h:eP w sb st wr) (b:Bool):eP (w.setCell ⟨sb,1,none⟩ (.bool b)) sb st b:=
 ⟨(aA (by decide)).trans h.c0,World.cell?_setCell_same' _ _ _ (by rw[h.c1];rfl),fun j hj=>(aA (by omega)).trans (h.cw j hj),fun i=>by rw[wfz];exact h.fz i,h.hi,h.sm⟩
theorem aNm (w:World)(sb:Nat)(st:List Nat)(wr:Bool)(x:Nat)(h:eP w sb st wr)(hx:x<16)(hl:st.length<1024) :
  Calls prog 153 #[.pointer (some ⟨sb,0,none⟩),.int .u8 x] w fun e w'=>e=.returned (.tuple #[])∧eP w' sb (st++[x]) wr∧Fr [sb] w w':=by
 have hm:prog.follows Departure.mixedOrders=true:=by kernel_rfl
 have K:=h
 obtain⟨c0,c1,cw,fz,hi,sm⟩:=h
 obtain⟨n,hn⟩:∃ n:Nat,st.length=n:=⟨_,rfl⟩
 rw[hn] at c0
 obtain⟨q,hq⟩:∃ q:Nat,n / 16=q:=⟨_,rfl⟩
 have hqI:(n:Int).tdiv 16=(q:Int):=by rw[Int.tdiv_eq_ediv_of_nonneg (by omega)];omega
 have hrI:(n:Int).tmod 16=((n % 16:Nat):Int):=by rw[Int.tmod_eq_emod_of_nonneg (by omega)];omega
 obtain⟨r,hr⟩:∃ r:Nat,n % 16=r:=⟨_,rfl⟩
 rw[hr] at hrI
 have g1:((n:Int)==1024)=false:=by simp;omega
 have cq:=cw q (by omega)
 have f0:=fz 0
 have f2:=fz (2+q)
 obtain⟨e1,e2⟩:=aFm st (q:=q) (by omega)
 have hsm:∀ y,y ∈ st.drop (16*q)→y<16:=fun y hy=>sm y (List.mem_of_mem_drop hy)
 have e3:wdS st q ||| (x <<< (4*r))=wdS (st++[x]) q:=by
  rw[uX (by omega),e1,← aXt hsm,e2,show st.length % 16=r by omega]
 have hb:=aPm (aCp sm q) hx (by omega:r<16) e3
 obtain⟨A,hA⟩:=eX (wdS st q)
 obtain⟨B,hB⟩:=eX (wdS (st++[x]) q)
 rw[hA] at cq hb
 rw[hB] at hb
 have Knew:eP ((w.setCell ⟨sb,2+q,none⟩ (.int .u64 (B:Int))).setCell ⟨sb,0,none⟩ (.int .i64 ((n:Int)+1))) sb (st++[x]) wr:=by
  refine⟨?_,?_,?_,?_,?_,?_⟩
  ·rw[World.cell?_setCell_same' _ _ _ (by rw[aA (by omega),c0];rfl)]
   simp[hn]
  ·rw[aA (by decide),aA (by omega)];exact c1
  ·intro j hj
   rw[aA (by omega)]
   by_cases ej:j=q
   ·subst ej
    rw[World.cell?_setCell_same' _ _ _ (by rw[cq];rfl),hB]
   ·rw[aA (by omega),vZ (by omega)]
    exact cw j hj
  ·intro i
   rw[wfz,wfz]
   exact fz i
  ·simp;omega
  ·intro y hy
   rcases List.mem_append.1 hy with hy | hy
   ·exact sm y hy
   ·simp at hy;subst hy;exact hx
 have HK:Hid _:=Knew
 clear Knew e3 e1 e2 hsm cw sm K hA hB fz c1
 go_enter func153,ntmps153
 go_wp2
 go_region
 have c0':(w.setCell ⟨sb,2+q,none⟩ (.int .u64 (B:Int))).cell? ⟨sb,0,none⟩=some (.int .i64 (n:Int)):=(aA (by omega)).trans c0
 have f0':(w.setCell ⟨sb,2+q,none⟩ (.int .u64 (B:Int))).frozen? ⟨sb,0,none⟩=false:=by rw[wfz];exact f0
 go_wp2
 go_end0
 exact⟨rfl,HK.out.of_block rfl,(((Fr.refl [sb] w).setCell (p:=⟨sb,2+q,none⟩) (.inl (by simp)) _).setCell (p:=⟨sb,0,none⟩) (.inl (by simp)) _).drewN _⟩
theorem aBh (w:World)(sb:Nat)(st:List Nat)(wr:Bool)(x:Nat)(h:eP w sb st wr)(hl:st.length=1024) :
  Calls prog 153 #[.pointer (some ⟨sb,0,none⟩),.int .u8 x] w fun e w'=>e=.returned (.tuple #[])∧eP w' sb st true∧Fr [sb] w w':=by
 have K:=h.setWrong true
 obtain⟨c0,c1,cw,fz,hi,sm⟩:=h
 rw[hl] at c0
 have f1:=fz 1
 clear cw sm fz
 go_enter func153,ntmps153
 go_wp2
 refine bodyPost_ret (results_none rfl _ _ _) rfl ?_
 exact⟨rfl,K,(Fr.refl [sb] w).setCell (p:=⟨sb,1,none⟩) (.inl (by simp)) _⟩
theorem aXf {st:List Nat}{x q:Nat} (h:∀ y,y ∈ st→y<16) (hx:x<16) (hq:st.length / 16=q) :
  wdS (st++[x]) q &&& (2 ^ 64-(15*2 ^ (st.length % 16*4)+1))=wdS st q∧wdS (st++[x]) q / 2 ^ (st.length % 16*4) % 16=x:=by
 obtain⟨e1,e2⟩:=aFm st hq
 have hsm:∀ y,y ∈ st.drop (16*q)→y<16:=fun y hy=>h y (List.mem_of_mem_drop hy)
 have hlt:=aNn hsm
 rw[uX hq,e1]
 have htop:=bBl (x:=x) hsm hx
 rw[e2,Nat.shiftRight_eq_div_pow,Nat.mul_comm 4] at htop
 refine⟨?_,htop⟩
 rw[uL,e2] at *
 rw[e2] at hlt
 have hp:(16:Nat) ^ (st.length % 16)=2 ^ (st.length % 16*4):=by rw[aBi,Nat.mul_comm 4]
 rw[hp] at hlt ⊢
 have hone:pk [x]=x:=by simp[pk]
 rw[hone,Nat.add_comm]
 exact aMr hlt hx (by omega)
theorem aUc {W n F Z:Nat}(hW:W<18446744073709551616)(hn:n+4≤64)(h1:W &&& (2 ^ 64-(15*2 ^ n+1))=Z)(h2:W / 2 ^ n % 16=F) :
  bits .andNot .u64 (W:Int) (IntKind.u64.wrap (15*2 ^ n))=(Z:Int)∧bits .and .u64 ((W:Int) / 2 ^ n) 15=(F:Int):=by
 have p1:(2:Nat) ^ n≤2 ^ 60:=Nat.pow_le_pow_right (by omega) (by omega)
 have p2:15*2 ^ n≤15*2 ^ 60:=Nat.mul_le_mul (by omega) p1
 have p3:(15:Nat)*2 ^ 60<18446744073709551616:=by decide
 have p4:((15:Int)*2 ^ n)=((15*2 ^ n:Nat):Int):=by push_cast;rfl
 refine⟨?_,?_⟩
 ·rw[p4,oI _ (by omega) (by omega),aAn _ _ hW (by omega),h1]
 ·have p5:((W:Int) / 2 ^ n)=((W / 2 ^ n:Nat):Int):=by push_cast;rfl
  have p6:W / 2 ^ n≤W:=Nat.div_le_self _ _
  have p7:=(bits_nat .u64 64 (by decide) (fun n a b=>oI n a (by simpa using b)) (W / 2 ^ n) 15 (by omega) (by decide)).1
  rw[p5]
  refine p7.trans ?_
  rw[show (15:Nat)=2 ^ 4-1 by rfl,Nat.and_two_pow_sub_one_eq_mod]
  rw[show (2:Nat) ^ 4=16 by rfl,h2]
theorem aGv (w:World)(sb:Nat)(wr:Bool)(x:Nat)(h:eP w sb [] wr) :
  Calls prog 152 #[.pointer (some ⟨sb,0,none⟩),.int .u8 x] w fun e w'=>e=.returned (.int .u8 x)∧eP w' sb [] true∧Fr [sb] w w':=by
 have K:=h.setWrong true
 obtain⟨c0,c1,cw,fz,hi,sm⟩:=h
 have f1:=fz 1
 clear cw sm fz
 go_enter func152,ntmps152
 go_wp2
 go_ret
 exact⟨rfl,K,(Fr.refl [sb] w).setCell (p:=⟨sb,1,none⟩) (.inl (by simp)) _⟩
theorem aUb (w:World)(sb:Nat)(st:List Nat)(wr:Bool)(x k:Nat)(h:eP w sb (st++[x]) wr)(hk:k<16) :
  Calls prog 152 #[.pointer (some ⟨sb,0,none⟩),.int .u8 k] w fun e w'=>e=.returned (.int .u8 x)∧eP w' sb st (wr || decide (x &&& (k ^^^ 15)≠0))∧Fr [sb] w w':=by
 have hm:prog.follows Departure.mixedOrders=true:=by kernel_rfl
 have K:=h
 obtain⟨c0,c1,cw,fz,hi,sm⟩:=h
 have hx:x<16:=sm x (by simp)
 have sm':∀ y,y ∈ st→y<16:=fun y hy=>sm y (by simp[hy])
 obtain⟨n,hn⟩:∃ n:Nat,st.length=n:=⟨_,rfl⟩
 have hl:(st++[x]).length=n+1:=by simp[hn]
 have hn':n<1024:=by omega
 have hq64:n / 16<64:=by omega
 rw[hl] at c0
 rw[Int.natCast_add] at c0
 obtain⟨q,hq⟩:∃ q:Nat,n / 16=q:=⟨_,rfl⟩
 have hqI:(n:Int).tdiv 16=(q:Int):=by rw[Int.tdiv_eq_ediv_of_nonneg (by omega)];omega
 have hrI:(n:Int).tmod 16=((n % 16:Nat):Int):=by rw[Int.tmod_eq_emod_of_nonneg (by omega)];omega
 obtain⟨r,hr⟩:∃ r:Nat,n % 16=r:=⟨_,rfl⟩
 rw[hr] at hrI
 have g1:(((n:Int)+(1:Nat))==0)=false:=by simp;omega
 have cq:=cw q (by omega)
 obtain⟨b1,b2⟩:=aXf (q:=q) sm' hx (by omega)
 rw[hn,hr] at b1 b2
 obtain⟨b3,b4⟩:=aUc (aCp sm q) (by omega) b1 b2
 have b5:=aEs x k hx hk
 have f0:=fz 0
 have f1:=fz 1
 have f2:=fz (2+q)
 obtain⟨A,hA⟩:=eX (wdS (st++[x]) q)
 obtain⟨B,hB⟩:=eX (wdS st q)
 rw[hA] at cq b3 b4
 rw[hB] at b3
 have Knew:∀ b:Bool,eP (((w.setCell ⟨sb,0,none⟩ (.int .i64 (n:Int))).setCell ⟨sb,2+q,none⟩ (.int .u64 (B:Int))).setCell ⟨sb,1,none⟩ (.bool b)) sb st b:=by
  intro b
  refine⟨?_,?_,?_,?_,?_,?_⟩
  ·rw[aA (by decide),aA (by omega),World.cell?_setCell_same' _ _ _ (by rw[c0];rfl),hn]
  ·exact World.cell?_setCell_same' _ _ _ (by rw[aA (by omega),aA (by decide),c1];rfl)
  ·intro j hj
   rw[aA (by omega)]
   by_cases ej:j=q
   ·subst ej
    rw[World.cell?_setCell_same' _ _ _ (by rw[aA (by omega),cq];rfl),hB]
   ·rw[aA (by omega),aA (by omega),← vZ (x:=x) (by omega)]
    exact cw j hj
  ·intro i
   rw[wfz,wfz,wfz]
   exact fz i
  ·omega
  ·exact sm'
 have HK:Hid _:=Knew
 clear Knew cw sm sm' K hA hB fz b1 b2 hl hi
 have hq':q<64:=by omega
 clear hq64 hq
 obtain⟨W1,hW1⟩:=eX (w.setCell ⟨sb,0,none⟩ (.int .i64 (n:Int)))
 obtain⟨W2,hW2⟩:=eX (W1.setCell ⟨sb,2+q,none⟩ (.int .u64 (B:Int)))
 have d0:W1.cell? ⟨sb,0,none⟩=some (.int .i64 (n:Int)):=by rw[← hW1];exact World.cell?_setCell_same' _ _ _ (by rw[c0];rfl)
 have dq:W1.cell? ⟨sb,2+q,none⟩=some (.int .u64 (A:Int)):=by rw[← hW1];exact (aA (by omega)).trans cq
 have d2:W1.frozen? ⟨sb,2+q,none⟩=false:=by rw[← hW1,wfz];exact f2
 have e1:W2.cell? ⟨sb,1,none⟩=some (.bool wr):=by rw[← hW2,← hW1];exact (aA (by omega)).trans ((aA (by decide)).trans c1)
 have e2:W2.frozen? ⟨sb,1,none⟩=false:=by rw[← hW2,← hW1,wfz,wfz];exact f1
 have F2:Fr [sb] w W2:=by rw[← hW2,← hW1];exact ((Fr.refl [sb] w).setCell (p:=⟨sb,0,none⟩) (.inl (by simp)) _).setCell (p:=⟨sb,2+q,none⟩) (.inl (by simp)) _
 rw[hW1,hW2] at HK
 have hW1':Hid _:=hW1
 have hW2':Hid _:=hW2
 have hz:((((x &&& (k ^^^ 15):Nat):Int))!=0)=decide (x &&& (k ^^^ 15)≠0):=by
  by_cases e:x &&& (k ^^^ 15)=0
  ·rw[e];simp
  ·simp only[ne_eq,e,not_false_eq_true,decide_true,bne_iff_ne]
   omega
 generalize x &&& (k ^^^ 15)=z at *
 clear hW1 hW2 c1 cq f1 f2
 go_enter func152,ntmps152
 go_wp2
 rw[hW1'.out]
 clear c0 f0 hW1'
 go_region
 go_wp2
 go_region
 rw[hW2'.out]
 clear d0 dq d2 hW2'
 cases wr with
 | true=>
  have hK:=HK.out true
  go_wp2
  go_ret
  exact⟨rfl,hK.of_block rfl,(F2.setCell (p:=⟨sb,1,none⟩) (.inl (by simp)) _).drew.drew⟩
 | false=>
  have hK:=HK.out (!decide (z=0))
  go_wp2
  go_ret
  refine⟨rfl,?_,(F2.setCell (p:=⟨sb,1,none⟩) (.inl (by simp)) _).drew.drew⟩
  rw[Bool.false_or,show decide (z≠0) = !decide (z=0) by simp]
  exact hK.of_block rfl
def cY (w:World) (sb:Nat):Option (List Nat)→Prop
 | some st=>eP w sb st false
 | none=>∃ st,eP w sb st true
theorem cY.fr {S:List Nat}{w w':World}{sb:Nat}{o:Option (List Nat)} (h:cY w sb o) (hf:Fr S w w') (hr:sb ∉ S):cY w' sb o:=by
 cases o with
 | some st=>exact eP.fr h hf hr
 | none=>obtain⟨st,h⟩:=h;exact⟨st,h.fr hf hr⟩
theorem cY.lt {w:World}{sb:Nat}{o:Option (List Nat)} (h:cY w sb o):sb<w.heap.size:=by
 cases o with
 | some st=>exact eP.lt h
 | none=>obtain⟨st,h⟩:=h;exact h.lt
theorem xP (w:World)(sb:Nat)(o:Option (List Nat))(k:Nat)(h:cY w sb o)(hk:k<16) :
  Calls prog 152 #[.pointer (some ⟨sb,0,none⟩),.int .u8 k] w fun e w'=>∃ y:Nat,e=.returned (.int .u8 y)∧y<16∧(∀ s x,o=some (s++[x])→y=x)∧cY w' sb (o.bind (xQ k))∧Fr [sb] w w':=by
 cases o with
 | none=>
  obtain⟨st,h⟩:=h
  by_cases h0:st=[]
  ·subst h0
   refine (aGv w sb true k h).mono ?_
   rintro e w' ⟨rfl,h1,f1⟩
   exact⟨k,rfl,hk,fun s x hx=>(by cases hx),⟨[],h1⟩,f1⟩
  ·obtain⟨s,x,rfl⟩:=rY h0
   have hx:=h.sm x (by simp)
   refine (aUb w sb s true x k h hk).mono ?_
   rintro e w' ⟨rfl,h1,f1⟩
   exact⟨x,rfl,hx,fun s x hx=>(by cases hx),⟨s,h1⟩,f1⟩
 | some st=>
  by_cases h0:st=[]
  ·subst h0
   refine (aGv w sb false k h).mono ?_
   rintro e w' ⟨rfl,h1,f1⟩
   exact⟨k,rfl,hk,fun s x hx=>(by simp at hx),⟨[],h1⟩,f1⟩
  ·obtain⟨s,x,rfl⟩:=rY h0
   have hx:=eP.sm h x (by simp)
   refine (aUb w sb s false x k h hk).mono ?_
   rintro e w' ⟨rfl,h1,f1⟩
   refine⟨x,rfl,hx,fun s' x' hx'=>?_,?_,f1⟩
   ·simp only[Option.some.injEq] at hx'
    exact (List.append_inj' hx' rfl).2 |> fun e=>by simpa using e
   ·simp only[Option.bind_some,kW]
    by_cases hz:x &&& (k ^^^ 15)=0
    ·rw[if_pos hz]
     have e:(false || decide (x &&& (k ^^^ 15)≠0))=false:=by simp[hz]
     rw[e] at h1
     exact h1
    ·rw[if_neg hz]
     have e:(false || decide (x &&& (k ^^^ 15)≠0))=true:=by simp[hz]
     rw[e] at h1
     exact⟨s,h1⟩
theorem tJ (w:World)(sb:Nat)(o:Option (List Nat))(x:Nat)(h:cY w sb o)(hx:x<16) :
  Calls prog 153 #[.pointer (some ⟨sb,0,none⟩),.int .u8 x] w fun e w'=>e=.returned (.tuple #[])∧cY w' sb (o.bind (fQ x))∧Fr [sb] w w':=by
 cases o with
 | none=>
  obtain⟨st,h⟩:=h
  by_cases hl:st.length=1024
  ·refine (aBh w sb st true x h hl).mono ?_
   rintro e w' ⟨rfl,h1,f1⟩
   exact⟨rfl,⟨st,h1⟩,f1⟩
  ·refine (aNm w sb st true x h hx (by have:=h.hi;omega)).mono ?_
   rintro e w' ⟨rfl,h1,f1⟩
   exact⟨rfl,⟨_,h1⟩,f1⟩
 | some st=>
  by_cases hl:st.length=1024
  ·refine (aBh w sb st false x h hl).mono ?_
   rintro e w' ⟨rfl,h1,f1⟩
   refine⟨rfl,?_,f1⟩
   simp only[Option.bind_some,fQ,if_pos hl]
   exact⟨st,h1⟩
  ·refine (aNm w sb st false x h hx (by have:=eP.hi h;omega)).mono ?_
   rintro e w' ⟨rfl,h1,f1⟩
   refine⟨rfl,?_,f1⟩
   simp only[Option.bind_some,fQ,if_neg hl]
   exact h1
def kL (l:ByteArray):List Nat:=(bl l).map UInt8.toNat
theorem zD (l:ByteArray):(kL l).length=l.size:=by unfold kL;rw[List.length_map,aD]
theorem aVd {l:ByteArray}{i:Nat} (h:i<l.size):(kL l)[i]'(by rw[zD];exact h)=l[i].toNat:=by
 simp only[kL,List.getElem_map,bl,Array.getElem_toList]
 rfl
theorem aCy (a b:List Nat)(o:Option (List Nat)):o.bind (eD (a++b))=(o.bind (eD a)).bind (eD b):=by
 cases o with
 | none=>rfl
 | some st=>
  simp only[Option.bind_some]
  induction a generalizing st with
  | nil=>rfl
  | cons k a ih=>
   simp only[List.cons_append,eD]
   cases xQ k st with
   | none=>rfl
   | some s=>simpa using ih s
theorem aAh (a b:List Nat)(o:Option (List Nat)):o.bind (eU (a++b))=(o.bind (eU a)).bind (eU b):=by
 cases o with
 | none=>rfl
 | some st=>
  simp only[Option.bind_some]
  induction a generalizing st with
  | nil=>rfl
  | cons k a ih=>
   simp only[List.cons_append,eU]
   cases fQ k st with
   | none=>rfl
   | some s=>simpa using ih s
theorem aTc (k:Nat)(o:Option (List Nat)):o.bind (eD [k])=o.bind (xQ k):=by
 cases o with
 | none=>rfl
 | some st=>simp only[Option.bind_some,eD];cases xQ k st <;> rfl
theorem aQl (k:Nat)(o:Option (List Nat)):o.bind (eU [k])=o.bind (fQ k):=by
 cases o with
 | none=>rfl
 | some st=>simp only[Option.bind_some,eU];cases fQ k st <;> rfl
theorem aVw {l:List Nat}{i:Nat} (h:i<l.length):(l.drop i).reverse=(l.drop (i+1)).reverse++[l[i]]:=by
 rw[List.drop_eq_getElem_cons h,List.reverse_cons]
theorem aOx {l:List Nat}{i:Nat} (h:i<l.length):l.take (i+1)=l.take i++[l[i]]:=by
 rw[List.take_add_one,Lge h]
 rfl
theorem oN (w:World)(sb:Nat)(o:Option (List Nat))(l:ByteArray)(h:cY w sb o)(hl:l.size≤100000)(hk:∀ x,x ∈ kL l→x<16) :
  Calls prog 144 #[.pointer (some ⟨sb,0,none⟩),.string l] w fun e w'=>e=.returned (.tuple #[])∧cY w' sb (o.bind (eU (kL l)))∧Fr [sb] w w':=by
 have hL:=zD l
 have hpush:=fun (W:World) (q:Option (List Nat)) (x:Nat) (hW:cY W sb q) (hx:x<16)=>tJ W sb q x hW hx
 have HP:Hid _:=hpush
 have hz:o.bind (eU ((kL l).take 0))=o:=by cases o <;> rfl
 have Hz:Hid _:=hz
 clear hpush hz
 go_enter func144,ntmps144
 go_wp2
 go_loopw [7] (fun i W=>∃ k:Nat,k≤l.size∧i=.int .i64 k∧cY W sb (o.bind (eU ((kL l).take k)))∧Fr [sb] w W) (fun i _=>l.size-(intOf i).toNat)
 case atStart=>exact⟨0,by omega,rfl,by rw[Hz.out];exact h,Fr.refl [sb] w⟩
 case round=>
  clear Hz h
  obtain⟨k,hks,rfl,K,F⟩:=hrel
  by_cases hlt:k<l.size
  ·have g1:(k:Int)<l.size:=by omega
   have hg:=aVd hlt
   have hx:=hk _ (List.getElem_mem (show k<(kL l).length by omega))
   rw[hg] at hx
   have hs:=aOx (l:=kL l) (i:=k) (by omega)
   rw[hg] at hs
   have hnext:o.bind (eU ((kL l).take (k+1)))=(o.bind (eU ((kL l).take k))).bind (fQ l[k].toNat):=by rw[hs,aAh,aQl]
   have HN:Hid _:=hnext
   clear hnext hs hg
   go_wp2_with fail
   refine (HP.out _ _ _ K hx).mono ?_
   rintro e w1 ⟨rfl,K1,F1⟩
   rw[← HN.out] at K1
   go_wp2
   exact⟨⟨k+1,by omega,by go_num,K1,F.trans F1⟩,by simp[intOf];omega⟩
  ·obtain rfl:k=l.size:=by omega
   have g1:¬ (l.size:Int)<l.size:=by omega
   rw[List.take_of_length_le (by omega)] at K
   go_wp2
   go_end0
   exact⟨rfl,K,F⟩
theorem rB (w:World)(sb:Nat)(o:Option (List Nat))(l:ByteArray)(h:cY w sb o)(hl:l.size≤100000)(hk:∀ x,x ∈ kL l→x<16) :
  Calls prog 154 #[.pointer (some ⟨sb,0,none⟩),.string l] w fun e w'=>e=.returned (.tuple #[])∧cY w' sb (o.bind (eD (kL l).reverse))∧Fr [sb] w w':=by
 have hL:=zD l
 have hpop:=fun (W:World) (q:Option (List Nat)) (x:Nat) (hW:cY W sb q) (hx:x<16)=>xP W sb q x hW hx
 have HP:Hid _:=hpop
 have hz:o.bind (eD ((kL l).drop l.size).reverse)=o:=by
  rw[List.drop_eq_nil_of_le (by omega)]
  cases o <;> rfl
 have Hz:Hid _:=hz
 clear hpop hz
 go_enter func154,ntmps154
 go_wp2
 go_loopw [4] (fun i W=>∃ k:Nat,k≤l.size∧i=.int .i64 ((k:Int)-1)∧cY W sb (o.bind (eD ((kL l).drop k).reverse))∧Fr [sb] w W) (fun i _=>(intOf i+1).toNat)
 case atStart=>exact⟨l.size,by omega,rfl,by rw[Hz.out];exact h,Fr.refl [sb] w⟩
 case round=>
  clear Hz h
  obtain⟨k,hks,rfl,K,F⟩:=hrel
  by_cases hlt:0<k
  ·obtain⟨j,rfl⟩:∃ j,k=j+1:=⟨k-1,by omega⟩
   have ej:(((j+1:Nat):Int)-1)=(j:Int):=by omega
   rw[ej]
   have g0:(j:Int) ≥ 0:=by omega
   have g1:(j:Int)<l.size:=by omega
   have hlt':j<l.size:=by omega
   have hg:=aVd hlt'
   have hx:=hk _ (List.getElem_mem (show j<(kL l).length by omega))
   rw[hg] at hx
   have hs:=aVw (l:=kL l) (i:=j) (by omega)
   rw[hg] at hs
   have hnext:o.bind (eD ((kL l).drop j).reverse)=(o.bind (eD ((kL l).drop (j+1)).reverse)).bind (xQ l[j].toNat):=by rw[hs,aCy,aTc]
   have HN:Hid _:=hnext
   clear hnext hs hg ej
   go_wp2_with fail
   refine (HP.out _ _ _ K hx).mono ?_
   rintro e w1 ⟨y,rfl,-,-,K1,F1⟩
   rw[← HN.out] at K1
   go_wp2
   exact⟨⟨j,by omega,by go_num,K1,F.trans F1⟩,by simp[intOf]⟩
  ·obtain rfl:k=0:=by omega
   rw[List.drop_zero] at K
   go_wp2
   go_end0
   exact⟨rfl,K,F⟩
theorem aUl (s t:List Nat)(n:Nat):(orL s t).drop n=orL (s.drop n) (t.drop n):=by unfold orL;rw[List.drop_zipWith]
theorem aUk (s t:List Nat)(n:Nat):(orL s t).take n=orL (s.take n) (t.take n):=by unfold orL;rw[List.take_zipWith]
theorem bAt {s t:List Nat}(hs:∀ x,x ∈ s→x<16)(ht:∀ x,x ∈ t→x<16)(hl:s.length=t.length)(j:Nat):wdS s j ||| wdS t j=wdS (orL s t) j:=by
 unfold wdS
 rw[aUl,aUk,bEt]
 ·exact fun y hy=>hs y (List.mem_of_mem_drop (List.mem_of_mem_take hy))
 ·exact fun y hy=>ht y (List.mem_of_mem_drop (List.mem_of_mem_take hy))
 ·simp[hl]
theorem aQa {s t:List Nat}(hs:∀ x,x ∈ s→x<16)(ht:∀ x,x ∈ t→x<16):∀ x,x ∈ orL s t→x<16:=by
 intro x hx
 unfold orL at hx
 obtain⟨i,hi,rfl⟩:=List.mem_iff_getElem.1 hx
 rw[List.getElem_zipWith]
 have h1:=hs _ (List.getElem_mem (l:=s) (n:=i) (by simp at hi;omega))
 have h2:=ht _ (List.getElem_mem (l:=t) (n:=i) (by simp at hi;omega))
 exact Nat.or_lt_two_pow (n:=4) h1 h2
theorem aXg {s t:List Nat}(hs:∀ x,x ∈ s→x<16)(ht:∀ x,x ∈ t→x<16)(hl:s.length=t.length)(h:∀ j,j<(s.length+15) / 16→wdS s j=wdS t j):s=t:=by
 apply List.ext_getElem hl
 intro i h1 h2
 have hj:=h (i / 16) (by omega)
 unfold wdS at hj
 have e:=bBm (s:=(s.drop (16*(i / 16))).take 16) (t:=(t.drop (16*(i / 16))).take 16) (fun y hy=>hs y (List.mem_of_mem_drop (List.mem_of_mem_take hy))) (fun y hy=>ht y (List.mem_of_mem_drop (List.mem_of_mem_take hy))) (by simp[hl]) hj
 have e2:=congrArg (fun l=>l[i % 16]?) e
 simp only[List.getElem?_take,List.getElem?_drop] at e2
 have hm:i % 16<16:=by omega
 rw[if_pos hm,if_pos hm,show 16*(i / 16)+i % 16=i by omega] at e2
 rw[Lge h1,Lge h2] at e2
 simpa using e2
structure aWx (w:World) (sb:Nat) (s u:List Nat) (wr:Bool) (i:Nat):Prop where
 c0:w.cell? ⟨sb,0,none⟩=some (.int .i64 (s.length:Int))
 c1:w.cell? ⟨sb,1,none⟩=some (.bool wr)
 cw:∀ j,j<64→w.cell? ⟨sb,2+j,none⟩=some (.int .u64 ((if j<i then wdS u j else wdS s j:Nat):Int))
 fz:∀ i,w.frozen? ⟨sb,i,none⟩=false
theorem aUr (w:World)(sb ob:Nat)(s t:List Nat)(wg wr2:Bool)(hS:eP w sb s wg)(hT:eP w ob t wr2)(hl:s.length=t.length)(hne:sb≠ob) :
  Calls prog 129 #[.pointer (some ⟨sb,0,none⟩),.pointer (some ⟨ob,0,none⟩)] w fun e w'=>e=.returned (.bool (decide (orL s t≠s)))∧eP w' sb (orL s t) wg∧Fr [sb] w w':=by
 have hm:prog.follows Departure.mixedOrders=true:=by kernel_rfl
 have hhi:=hS.hi
 obtain⟨n,hn⟩:=eX (s.length)
 obtain⟨m,hmm⟩:=eX ((n+15) / 16)
 have hmI:((n:Int)+15).tdiv 16=(m:Int):=by rw[Int.tdiv_eq_ediv_of_nonneg (by omega)];omega
 have hmI2:((n:Int)+16-1).tdiv 16=(m:Int):=by rw[show (n:Int)+16-1=(n:Int)+15 by omega];exact hmI
 have hor:=fun j=>bAt hS.sm hT.sm hl j
 have hlt:=fun j=>aCp hS.sm j
 have hlt2:=fun j=>aCp hT.sm j
 have hsm:=aQa hS.sm hT.sm
 have hol:(orL s t).length=s.length:=N5 hl
 have hinj:=aXg hS.sm hsm hol.symm
 obtain⟨u,hu⟩:=eX (orL s t)
 rw[hu] at hor hsm hol hinj ⊢
 have c0:=hS.c0
 rw[hn] at c0
 have M0:aWx w sb s u wg 0:=⟨hS.c0,hS.c1,fun j hj=>by rw[if_neg (by omega)];exact hS.cw j hj,hS.fz⟩
 have hzero:∀ j,m≤j→wdS u j=wdS s j:=fun j hj=>by
  unfold wdS
  rw[List.drop_eq_nil_of_le (by omega),List.drop_eq_nil_of_le (by omega)]
 have HT:Hid (∀ W:World,Fr [sb] w W→∀ j,j<64→W.cell? ⟨ob,2+j,none⟩=some (.int .u64 (wdS t j:Nat))):=fun W hW j hj=>(hW.cell (p:=⟨ob,2+j,none⟩) hT.lt (by simpa using fun e=>hne e.symm)).trans (hT.cw j hj)
 have HB:Hid (∀ j,bits .or .u64 (wdS s j:Int) (wdS t j:Int)=(wdS u j:Int)):=fun j=>by rw[bits_or_u64_nat _ _ (hlt j) (hlt2 j),hor j]
 have HI:Hid ((∀ j,j<m→wdS u j=wdS s j)↔u=s):=⟨fun h=>(hinj (fun j hj=>(h j (by omega)).symm)).symm,fun h j _=>by rw[h]⟩
 have HZ:Hid _:=hzero
 have HL:Hid _:=AI hol hsm
 clear hS hT hor hlt hlt2 hsm hol hinj hzero hu hl
 go_enter func129,ntmps129
 go_wp2
 go_loopw [5,15] (fun ch i W=>∃ (k:Nat) (c:Bool),k≤m∧i=.int .i64 k∧ch=.bool c∧aWx W sb s u wg k∧Fr [sb] w W∧Hid (c=true↔∃ j,j<k∧wdS u j≠wdS s j)) (fun _ i _=>m-(intOf i).toNat)
 case atStart=>exact⟨0,false,by omega,rfl,rfl,M0,Fr.refl [sb] w,⟨fun h=>(by cases h),fun ⟨j,hj,_⟩=>absurd hj (by omega)⟩⟩
 case round=>
  clear M0
  obtain⟨k,c,hk,rfl,rfl,M,F,Hc⟩:=hrel
  have M':=M
  obtain⟨d0,d1,dw,dz⟩:=M
  by_cases hlt:k<m
  ·have g1:(k:Int)<m:=by omega
   have hk64:k<64:=by omega
   have e1:=dw k hk64
   rw[if_neg (by omega)] at e1
   have e2:=HT.out _ F k hk64
   have e3:=HB.out k
   have e4:=dz (2+k)
   obtain⟨A,hA⟩:=eX (wdS s k)
   obtain⟨B,hB⟩:=eX (wdS t k)
   obtain⟨C,hC⟩:=eX (wdS u k)
   rw[hA] at e1 e3
   rw[hB] at e2 e3
   rw[hC] at e3
   have hbne:((C:Int)!=(A:Int))=decide (C≠A):=by
    by_cases q:C=A
    ·subst q;simp
    ·simp only[ne_eq,q,not_false_eq_true,decide_true,bne_iff_ne];omega
   have Knew:aWx (wr.setCell ⟨sb,2+k,none⟩ (.int .u64 (C:Int))) sb s u wg (k+1):=by
    refine⟨(aA (by omega)).trans d0,(aA (by omega)).trans d1,fun j hj=>?_,fun i=>by rw[wfz];exact dz i⟩
    by_cases ej:j=k
    ·subst ej
     rw[World.cell?_setCell_same' _ _ _ (by rw[e1];rfl),if_pos (by omega),hC]
    ·rw[aA (by omega),dw j hj]
     by_cases hjk:j<k
     ·rw[if_pos hjk,if_pos (by omega)]
     ·rw[if_neg hjk,if_neg (by omega)]
   have hcnew:∀ c2:Bool,(c2=true↔c=true∨C≠A)→(c2=true↔∃ j,j<k+1∧wdS u j≠wdS s j):=fun c2 h2=>by
    rw[h2,Hc.out]
    constructor
    ·rintro (⟨j,h3,h4⟩ | h3)
     ·exact⟨j,by omega,h4⟩
     ·exact⟨k,by omega,by rw[hC,hA];exact h3⟩
    ·rintro ⟨j,h3,h4⟩
     by_cases ej:j=k
     ·subst ej;rw[hC,hA] at h4;exact .inr h4
     ·exact .inl ⟨j,by omega,h4⟩
   have HK:Hid _:=Knew
   have HN:Hid _:=hcnew
   clear Knew hcnew hA hB hC d0 d1 dw dz M' HT HB HI HZ HL Hc
   cases c with
   | true=>
    go_wp2
    go_region
    go_wp2
    refine⟨⟨k+1,true,by omega,by go_num,rfl,⟨HK.out.c0,HK.out.c1,HK.out.cw,HK.out.fz⟩,(F.setCell (p:=⟨sb,2+k,none⟩) (.inl (by simp)) _).drew,HN.out true (by simp)⟩,by simp[intOf];omega⟩
   | false=>
    go_wp2
    go_region
    go_wp2
    refine⟨⟨k+1,!decide (C=A),by omega,by go_num,rfl,⟨HK.out.c0,HK.out.c1,HK.out.cw,HK.out.fz⟩,(F.setCell (p:=⟨sb,2+k,none⟩) (.inl (by simp)) _).drew,HN.out _ (by simp)⟩,by simp[intOf];omega⟩
  ·obtain rfl:k=m:=by omega
   have g1:¬ (k:Int)<k:=by omega
   have Kend:eP wr sb u wg:=by
    obtain⟨q1,q2⟩:=HL.out
    refine⟨by rw[q1];exact d0,d1,fun j hj=>?_,dz,by omega,q2⟩
    rw[dw j hj]
    by_cases hjk:j<k
    ·rw[if_pos hjk]
    ·rw[if_neg hjk,HZ.out j (by omega)]
   have hc:c=decide (u≠s):=by
    rw[Bool.eq_iff_iff,Hc.out,decide_eq_true_eq,ne_eq,← HI.out]
    constructor
    ·rintro ⟨j,h1,h2⟩ h3
     exact h2 (h3 j h1)
    ·intro h3
     apply Classical.byContradiction
     intro h4
     apply h3
     intro j hj
     apply Classical.byContradiction
     intro h5
     exact h4 ⟨j,hj,h5⟩
   have HE:Hid _:=hc
   clear hc Hc HL HZ HI HB HT M' d0 d1 dw dz
   go_wp2
   go_ret
   refine⟨?_,Kend,F⟩
   have hE:c = !decide (u=s):=by rw[HE.out];simp
   rw[← hE]
   rfl
end Go.Proofs.YtgpamchpeamnfaaGreatDoor
