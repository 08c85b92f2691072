/-
  Texts Vj Vk Vl Vm Vn If.
-/
import Derived.Test.YtclkgoigmgkffaaGreatDoorMA
import Derived.Test.YtclkgoigmgkffaaGreatDoorM00
import Derived.Test.YtclkgoigmgkffaaGreatDoorM01
import Derived.Test.YtclkgoigmgkffaaGreatDoorM05
import Derived.Test.YtclkgoigmgkffaaGreatDoorM04
set_option linter.unusedSimpArgs false
set_option linter.unusedVariables false
set_option maxRecDepth 100000
set_option maxHeartbeats 40000000
namespace Go.Proofs.YtclkgoigmgkffaaGreatDoor
namespace Flow
open Wire
def sortsT:List Nat:=[1,2,0,3,3,4,4,0,0,0,0,5,5,5,5,5,5,7,0,0,0,0,0,0,0,0,0,0,0,0,0,0,0,0,0,6,6,6,5,0,0,0,0,0,8,0,0,0,7,7,9,0,0,0]
def above (m:Mo) (locs:Nat) (sort:Nat):Nat:=
 if sort=1 then 2000000001 else if sort=2 then m.texts.length else if sort=3 then locs else if sort=4 then m.globs.toNat
 else if sort=5 then m.arrs.toNat else if sort=6 then m.pats.length else if sort=8 then 1001 else if sort=9 then m.fns.length else 34359738368
def low (sort:Nat):Nat:=if sort=8 then 1 else if sort=9 then 3 else 0
def fitN (m:Mo) (locs:Nat) (sort n:Nat):Bool:=decide (low sort≤n) && decide (n<above m locs sort)
def mayOp (f op:Nat):Bool:=decide (op<54) && !(decide (op=51) && decide (f<3)) && !(decide (op=52) && decide (3≤f))
def operandL (m:Mo) (locs:Nat) (c:List UInt8) (sort i:Nat):Option (Nat × Nat):=
 match num (c.drop i) with
 | none=>none
 | some (n,r)=>if fitN m locs sort n=true then some (n,c.length-r.length) else none
def decodeL (m:Mo) (f locs:Nat) (c:List UInt8) (i:Nat):Nat ⊕ Stp:=
 if mayOp f (c.getD i 0).toNat=true then
  if sortsT.getD (c.getD i 0).toNat 0=0 then .inr ⟨i,i+1,(c.getD i 0).toNat,0,0⟩
  else match operandL m locs c (sortsT.getD (c.getD i 0).toNat 0) (i+1) with
   | none=>.inl 10
   | some (n,j)=>
    if (c.getD i 0).toNat=38 then
     match operandL m locs c 6 j with
     | none=>.inl 10
     | some (n2,k)=>.inr ⟨i,k,(c.getD i 0).toNat,n,n2⟩
    else .inr ⟨i,j,(c.getD i 0).toNat,n,0⟩
 else .inl 9
theorem numF_shorter (f:Nat)(first:Bool)(l:List UInt8)(n:Nat)(r:List UInt8)(h:numF f first l=some (n,r)):r.length<l.length:=by
 induction f generalizing first l n r with
 | zero=>simp[numF] at h
 | succ f ih=>
  cases l with
  | nil=>simp[numF] at h
  | cons c l=>
   simp only[numF] at h
   split at h
   ·split at h
    ·cases h
    ·simp only[Option.some.injEq,Prod.mk.injEq] at h
     obtain⟨-,rfl⟩:=h
     simp
   ·cases hq:numF f false l with
    | none=>rw[hq] at h;simp at h
    | some p=>
     rw[hq] at h
     simp only[Option.map_some,Option.some.injEq,Prod.mk.injEq] at h
     obtain⟨-,rfl⟩:=h
     have:=ih false l p.1 p.2 hq
     simp only[List.length_cons]
     omega
theorem operandL_next {m:Mo}{locs:Nat}{c:List UInt8}{sort i n j:Nat} (h:operandL m locs c sort i=some (n,j)):i<j∧j≤c.length∧fitN m locs sort n=true:=by
 unfold operandL at h
 split at h
 ·cases h
 ·rename_i n' r hn
  split at h
  ·rename_i hf
   simp only[Option.some.injEq,Prod.mk.injEq] at h
   obtain⟨rfl,rfl⟩:=h
   have:=numF_shorter 5 true _ _ _ hn
   rw[List.length_drop] at this
   exact⟨by omega,by omega,hf⟩
  ·cases h
theorem decodeL_next {m:Mo}{f locs:Nat}{c:List UInt8}{i:Nat}{s:Stp} (hi:i<c.length) (h:decodeL m f locs c i=.inr s) :
  s.pl=i∧i<s.nx∧s.nx≤c.length∧s.op=(c.getD i 0).toNat∧mayOp f s.op=true:=by
 unfold decodeL at h
 split at h
 ·rename_i hm
  split at h
  ·simp only[Sum.inr.injEq] at h
   subst h
   exact⟨rfl,by simp,by simp;omega,rfl,hm⟩
  ·split at h
   ·cases h
   ·rename_i n j hop
    have h1:=operandL_next hop
    split at h
    ·split at h
     ·cases h
     ·rename_i n2 k hop2
      have h2:=operandL_next hop2
      simp only[Sum.inr.injEq] at h
      subst h
      exact⟨rfl,by simp;omega,by simp;omega,rfl,hm⟩
    ·simp only[Sum.inr.injEq] at h
     subst h
     exact⟨rfl,by simp;omega,by simp;omega,rfl,hm⟩
 ·cases h
theorem mayOp_lt {f op:Nat}(h:mayOp f op=true):op<54:=by
 unfold mayOp at h
 simp only[Bool.and_eq_true,decide_eq_true_eq] at h
 exact h.1.1
def Chain (m:Mo) (f locs:Nat) (c:List UInt8):Nat→List Stp→Nat→Prop
 | i,[],j=>i=j
 | i,s :: l,j=>i<c.length∧decodeL m f locs c i=.inr s∧Chain m f locs c s.nx l j
theorem Chain.snoc {m:Mo}{f locs:Nat}{c:List UInt8}{i j:Nat}{l:List Stp} (h:Chain m f locs c i l j) (hj:j<c.length) {s:Stp} (hs:decodeL m f locs c j=.inr s):Chain m f locs c i (l++[s]) s.nx:=by
 induction l generalizing i with
 | nil=>
  have e:i=j:=h
  subst e
  exact⟨hj,hs,rfl⟩
 | cons a l ih=>exact⟨h.1,h.2.1,ih h.2.2⟩
theorem Chain.le {m:Mo}{f locs:Nat}{c:List UInt8}{i j:Nat}{l:List Stp} (h:Chain m f locs c i l j) (hi:i≤c.length):i+l.length≤j∧j≤c.length:=by
 induction l generalizing i with
 | nil=>
  have e:i=j:=h
  subst e
  exact⟨by simp,hi⟩
 | cons a l ih=>
  obtain⟨-,h1,h2,-⟩:=decodeL_next h.1 h.2.1
  obtain⟨h3,h4⟩:=ih h.2.2 h2
  exact⟨by simp only[List.length_cons];omega,h4⟩
def Reads (m:Mo) (f locs:Nat) (c:List UInt8) (l:List Stp):Prop:=Chain m f locs c 0 l c.length
def Faulty (m:Mo) (f locs:Nat) (c:List UInt8) (j e:Nat):Prop:=∃ l,Chain m f locs c 0 l j∧j<c.length∧decodeL m f locs c j=.inl e
theorem chain_unique {m:Mo}{f locs:Nat}{c:List UInt8}{i:Nat}{l l':List Stp} (h:Chain m f locs c i l c.length) (h':Chain m f locs c i l' c.length):l=l':=by
 induction l generalizing i l' with
 | nil=>
  have e:i=c.length:=h
  cases l' with
  | nil=>rfl
  | cons a l'=>have:=h'.1;omega
 | cons a l ih=>
  cases l' with
  | nil=>
   have e:i=c.length:=h'
   have:=h.1
   omega
  | cons b l'=>
   have e:=h.2.1
   rw[h'.2.1] at e
   simp only[Sum.inr.injEq] at e
   subst e
   rw[ih h.2.2 h'.2.2]
theorem chain_fault {m:Mo}{f locs:Nat}{c:List UInt8}{i j j' e:Nat}{l l':List Stp} (h:Chain m f locs c i l j) (hj:j<c.length) (hf:decodeL m f locs c j=.inl e) (h':Chain m f locs c i l' j') (hj':j'=c.length∨(j'<c.length∧∃ e',decodeL m f locs c j'=.inl e')):l=l'∧j=j':=by
 induction l generalizing i l' with
 | nil=>
  have ei:i=j:=h
  subst ei
  cases l' with
  | nil=>exact⟨rfl,h'⟩
  | cons b l'=>
   have e:=h'.2.1
   rw[hf] at e
   cases e
 | cons a l ih=>
  cases l' with
  | nil=>
   have ei:i=j':=h'
   subst ei
   rcases hj' with q | ⟨_,e',q⟩
   ·have:=h.1;omega
   ·have e:=h.2.1
    rw[q] at e
    cases e
  | cons b l'=>
   have e:=h.2.1
   rw[h'.2.1] at e
   simp only[Sum.inr.injEq] at e
   subst e
   obtain⟨rfl,h2⟩:=ih h.2.2 h'.2.2
   exact⟨rfl,h2⟩
theorem reads_not_faulty {m:Mo}{f locs:Nat}{c:List UInt8}{l:List Stp}{j e:Nat} (h:Reads m f locs c l) (g:Faulty m f locs c j e):False:=by
 obtain⟨l',h1,h2,h3⟩:=g
 have:=(chain_fault h1 h2 h3 h (Or.inl rfl)).2
 omega
theorem faulty_unique {m:Mo}{f locs:Nat}{c:List UInt8}{j e j' e':Nat} (h:Faulty m f locs c j e) (g:Faulty m f locs c j' e'):j=j'∧e=e':=by
 obtain⟨l,h1,h2,h3⟩:=h
 obtain⟨l',g1,g2,g3⟩:=g
 obtain⟨-,rfl⟩:=chain_fault h1 h2 h3 g1 (Or.inr ⟨g2,e',g3⟩)
 rw[h3] at g3
 simp only[Sum.inl.injEq] at g3
 exact⟨rfl,g3⟩
def badJump (l:List Stp):List Stp→Option Nat
 | []=>none
 | s :: r=>if far s.op=true∧numb l s.a=none then some s.pl else badJump l r
def Answers (par:Nat→Nat) (m:Mo) (f locs:Nat) (c:List UInt8) (p e:Nat):Prop:=
 (Faulty m f locs c p e)∨(∃ l,Reads m f locs c l∧((∃ q,badJump l l=some q∧p=q∧e=11)∨(badJump l l=none∧p=0∧((Safe par l∧e=0)∨(¬ Safe par l∧e=12)))))
theorem answers_unique {par:Nat→Nat}{m:Mo}{f locs:Nat}{c:List UInt8}{p e p' e':Nat} (h:Answers par m f locs c p e) (g:Answers par m f locs c p' e'):p=p'∧e=e':=by
 rcases h with h | ⟨l,h,h2⟩
 ·rcases g with g | ⟨l',g,-⟩
  ·exact faulty_unique h g
  ·exact (reads_not_faulty g h).elim
 ·rcases g with g | ⟨l',g,g2⟩
  ·exact (reads_not_faulty h g).elim
  ·have el:=chain_unique h g
   subst el
   rcases h2 with ⟨q,h3,h4,h5⟩ | ⟨h3,h4,h5⟩
   ·rcases g2 with ⟨q',g3,g4,g5⟩ | ⟨g3,g4,g5⟩
    ·rw[h3] at g3
     simp only[Option.some.injEq] at g3
     exact⟨by omega,by omega⟩
    ·rw[h3] at g3;cases g3
   ·rcases g2 with ⟨q',g3,g4,g5⟩ | ⟨g3,g4,g5⟩
    ·rw[h3] at g3;cases g3
    ·refine⟨by omega,?_⟩
     rcases h5 with ⟨a,b⟩ | ⟨a,b⟩ <;> rcases g5 with ⟨a',b'⟩ | ⟨a',b'⟩
     ·omega
     ·exact absurd a a'
     ·exact absurd a' a
     ·omega
def Sorted:Nat→List Stp→Prop
 | _,[]=>True
 | i,s :: l=>i≤s.pl∧Sorted (s.pl+1) l
theorem Chain.sorted {m:Mo}{f locs:Nat}{c:List UInt8}{i j:Nat}{l:List Stp} (h:Chain m f locs c i l j) (hc:i≤c.length):Sorted i l:=by
 induction l generalizing i with
 | nil=>trivial
 | cons s l ih=>
  obtain⟨h0,h1,h2,-⟩:=decodeL_next h.1 h.2.1
  have:=ih h.2.2 h2
  refine⟨by omega,?_⟩
  have mono:∀ {a b:Nat}{l:List Stp},a≤b→Sorted b l→Sorted a l:=by
   intro a b l hab hs
   cases l with
   | nil=>trivial
   | cons x l=>exact⟨Nat.le_trans hab hs.1,hs.2⟩
  exact mono (by omega) this
theorem Sorted.get {i:Nat}{l:List Stp} (h:Sorted i l):∀ (k:Nat) (s:Stp),l[k]?=some s→i≤s.pl:=by
 induction l generalizing i with
 | nil=>intro k s hk;simp at hk
 | cons a l ih=>
  intro k s hk
  cases k with
  | zero=>
   simp only[List.getElem?_cons_zero,Option.some.injEq] at hk
   subst hk
   exact h.1
  | succ k=>
   simp only[List.getElem?_cons_succ] at hk
   have:=ih h.2 k s hk
   have:=h.1
   omega
theorem Sorted.lt {i:Nat}{l:List Stp} (h:Sorted i l):∀ (j k:Nat) (s t:Stp),j<k→l[j]?=some s→l[k]?=some t→s.pl<t.pl:=by
 induction l generalizing i with
 | nil=>intro j k s t _ hj;simp at hj
 | cons a l ih=>
  intro j k s t hjk hj hk
  cases k with
  | zero=>omega
  | succ k=>
   simp only[List.getElem?_cons_succ] at hk
   cases j with
   | zero=>
    simp only[List.getElem?_cons_zero,Option.some.injEq] at hj
    subst hj
    have:=Sorted.get h.2 k t hk
    omega
   | succ j=>
    simp only[List.getElem?_cons_succ] at hj
    exact ih h.2 j k s t (by omega) hj hk
theorem numb_some {l:List Stp}{p k:Nat} (h:numb l p=some k):∃ s,l[k]?=some s∧s.pl=p:=by
 induction l generalizing k with
 | nil=>cases h
 | cons a l ih=>
  simp only[numb] at h
  split at h
  ·rename_i e
   simp only[Option.some.injEq] at h
   subst h
   exact⟨a,rfl,e⟩
  ·cases hq:numb l p with
   | none=>rw[hq] at h;cases h
   | some q=>
    rw[hq] at h
    simp only[Option.map_some,Option.some.injEq] at h
    subst h
    exact ih hq
theorem numb_none {l:List Stp}{p:Nat} (h:numb l p=none):∀ (k:Nat) (s:Stp),l[k]?=some s→s.pl≠p:=by
 induction l with
 | nil=>intro k s hk;simp at hk
 | cons a l ih=>
  simp only[numb] at h
  split at h
  ·cases h
  ·rename_i e
   have h':numb l p=none:=by
    cases hq:numb l p with
    | none=>rfl
    | some q=>rw[hq] at h;cases h
   intro k s hk
   cases k with
   | zero=>
    simp only[List.getElem?_cons_zero,Option.some.injEq] at hk
    subst hk
    exact e
   | succ k=>exact ih h' k s (by simpa using hk)
theorem numb_is {i:Nat}{l:List Stp} (h:Sorted i l) {k p:Nat}{s:Stp} (hk:l[k]?=some s) (hp:s.pl=p):numb l p=some k:=by
 cases hq:numb l p with
 | none=>exact absurd hp (numb_none hq k s hk)
 | some q=>
  obtain⟨t,ht,htp⟩:=numb_some hq
  rcases Nat.lt_trichotomy k q with c | c | c
  ·have:=h.lt k q s t c hk ht;omega
  ·rw[c]
  ·have:=h.lt q k t s c ht hk;omega
end Flow
namespace Flow
open Wire
theorem Chain.first {m:Mo}{f locs:Nat}{c:List UInt8}{i j:Nat}{l:List Stp} (h:Chain m f locs c i l j) {s:Stp} (hs:l[0]?=some s):s.pl=i:=by
 cases l with
 | nil=>simp at hs
 | cons a l=>
  simp only[List.getElem?_cons_zero,Option.some.injEq] at hs
  subst hs
  exact (decodeL_next h.1 h.2.1).1
def Fits (l:List Stp) (G:List (Option (List UInt8))) (p:Nat) (ks:List UInt8):Prop:=
 ∃ (i:Nat) (s:Stp) (t:List UInt8),l[i]?=some s∧s.pl=p∧G[i]?=some (some t)∧leS ks t
end Flow
namespace Mach
open Wire Flow
structure Val where
 kind:Nat
 n:Int
 s:ByteArray
def none0:ByteArray:=⟨#[]⟩
def nothing:Val:=⟨0,0,none0⟩
def whole (n:Int):Val:=⟨1,n,none0⟩
def words (s:ByteArray):Val:=⟨2,0,s⟩
def blankB (c:UInt8):Bool:=c==32 || c==9 || c==10
def digB (c:UInt8):Bool:=decide (48≤c.toNat) && decide (c.toNat≤57)
def skipL:List UInt8→List UInt8
 | []=>[]
 | c :: l=>if blankB c=true then skipL l else c :: l
def more (n:Int) (c:UInt8):Int:=if 10*n+((c.toNat:Int)-48)>1000000000 then 1000000001 else 10*n+((c.toNat:Int)-48)
def digL:Int→Nat→List UInt8→Int × Nat × List UInt8
 | n,k,[]=>(n,k,[])
 | n,k,c :: l=>if digB c=true then digL (more n c) (k+1) l else (n,k,c :: l)
def signL:List UInt8→Bool × List UInt8
 | []=>(false,[])
 | c :: l=>if c=43 then (false,l) else if c=45 then (true,l) else (false,c :: l)
def readL (l:List UInt8):Int × Nat × List UInt8:=
 ((if (signL (skipL l)).1=true then -(digL 0 0 (signL (skipL l)).2).1 else (digL 0 0 (signL (skipL l)).2).1),(digL 0 0 (signL (skipL l)).2).2)
def clampN (n:Int):Int:=if n>1000000000 then 1000000000 else if n < -1000000000 then -1000000000 else n
def looks (s:ByteArray):Bool:=
 (readL (bl s)).2.2.all blankB && decide (0<(readL (bl s)).2.1) && decide (-1000000000≤(readL (bl s)).1) && decide ((readL (bl s)).1≤1000000000)
def readV (s:ByteArray):Val:=if looks s=true then ⟨3,0,s⟩ else words s
def numT (s:ByteArray):Int:=clampN (readL (bl s)).1
def numV (v:Val):Int:=if v.kind=0 then 0 else if v.kind=1 then v.n else numT v.s
def holdsV (v:Val):Bool:=if v.kind=2 then decide (v.s.size≠0) else decide (numV v≠0)
def cmpL:List UInt8→List UInt8→Int
 | [],[]=>0
 | [],_ :: _=>-1
 | _ :: _,[]=>1
 | a :: s,b :: t=>if a.toNat<b.toNat then -1 else if b.toNat<a.toNat then 1 else cmpL s t
def cmpI (x y:Int):Int:=if x<y then -1 else if x>y then 1 else 0
def truth (b:Bool):Int:=if b=true then 1 else 0
structure Env where
 mo:Mo
 fnd:ByteArray→ByteArray→Int × Int
 swp:ByteArray→ByteArray→ByteArray→ByteArray
 spl:ByteArray→ByteArray→List ByteArray
 itoa:Int→ByteArray
 wr:Int→Int
def textV (E:Env) (v:Val):ByteArray:=if v.kind=0 then none0 else if v.kind=1 then E.itoa v.n else v.s
def cmpV (E:Env) (a b:Val):Int:=
 if a.kind=2∨b.kind=2 then cmpL (bl (textV E a)) (bl (textV E b)) else cmpI (numV a) (numV b)
def cmpOp (k:Nat) (c:Int):Bool:=
 if k=29 then decide (c<0) else if k=30 then decide (c≤0) else if k=31 then decide (c=0) else if k=32 then decide (c≠0) else if k=33 then decide (c>0) else decide (c ≥ 0)
def sumOp (E:Env) (op:Nat) (x y:Int):Int × Nat:=
 if op=21∧y=0∨op=22∧y=0 then (0,3)
 else
  let n:=if op=18 then E.wr (x+y) else if op=19 then E.wr (x-y) else if op=20 then E.wr (x*y) else if op=21 then E.wr (x.tdiv y) else E.wr (x-E.wr (E.wr (x.tdiv y)*y))
  if n>1000000000∨n < -1000000000 then (0,4) else (n,0)
def signedN (a:Nat):Int:=if a % 2=0 then ((a / 2:Nat):Int) else -(((a+1) / 2:Nat):Int)
def hasK (a:List (ByteArray × Val)) (k:ByteArray):Bool:=a.any fun e=>decide (e.1=k)
def getK:List (ByteArray × Val)→ByteArray→Val
 | [],_=>nothing
 | e :: a,k=>if e.1=k then e.2 else getK a k
def setK:List (ByteArray × Val)→ByteArray→Val→List (ByteArray × Val)
 | [],k,v=>[(k,v)]
 | e :: a,k,v=>if e.1=k then (k,v) :: a else e :: setK a k v
def dropK (a:List (ByteArray × Val)) (k:ByteArray):List (ByteArray × Val):=a.filter fun e=>decide (e.1≠k)
def keysA (a:List (ByteArray × Val)):List ByteArray:=a.map Prod.fst
def fillA (E:Env):Nat→List ByteArray→List (ByteArray × Val)
 | _,[]=>[]
 | i,s :: l=>(E.itoa ((i:Int)+1),readV s) :: fillA E (i+1) l
def nextK (a:List (ByteArray × Val)):List ByteArray→Option (ByteArray × List ByteArray)
 | []=>none
 | k :: l=>if hasK a k=true then some (k,l) else nextK a l
def fieldsL:List UInt8→List UInt8→List ByteArray
 | f,[]=>if f=[] then [] else [⟨f.toArray⟩]
 | f,c :: l=>if blankB c=true then (if f=[] then fieldsL [] l else ⟨f.toArray⟩ :: fieldsL [] l) else fieldsL (f++[c]) l
def cutF (s:ByteArray):List ByteArray:=fieldsL [] (bl s)
def joinF:List ByteArray→List UInt8
 | []=>[]
 | [s]=>bl s
 | s :: t :: l=>bl s++32 :: joinF (t :: l)
def putF (l:List ByteArray) (n:Nat) (s:ByteArray):List ByteArray:=(l++List.replicate (n-l.length) none0).set (n-1) s
structure Wd where
 recs:List ByteArray
 nr:Nat
 draws:List Int
 drawn:Nat
 rcd:ByteArray
 flds:List ByteArray
 out:ByteArray
 globs:List Val
 arrs:List (List (ByteArray × Val))
def nextR (w:Wd):Wd × Bool:=
 match w.recs[w.nr]? with
 | none=>(w,false)
 | some s=>({ w with nr:=w.nr+1,rcd:=s,flds:=cutF s },true)
def fieldW (w:Wd) (n:Int):Val × Nat:=
 if n<0 then (nothing,5) else if n=0 then (readV w.rcd,0) else if n≤(w.flds.length:Int) then (readV (w.flds.getD (n.toNat-1) none0),0) else (nothing,0)
def setFieldW (w:Wd) (n:Int) (s:ByteArray):Wd × Nat:=
 if n<0∨n>50 then (w,5)
 else if n=0 then ({ w with rcd:=s,flds:=cutF s },0)
 else if (joinF (putF w.flds n.toNat s)).length>100 then (w,6)
 else ({ w with rcd:=⟨(joinF (putF w.flds n.toNat s)).toArray⟩,flds:=putF w.flds n.toNat s },0)
def printW (w:Wd) (l:List ByteArray):Wd × Nat:=
 if w.out.size+(joinF l).length+1>1000 then (w,8) else ({ w with out:=⟨w.out.data++(joinF l++[10]).toArray⟩ },0)
def partL (m e:Int):Nat→List UInt8→List UInt8
 | _,[]=>[]
 | i,c :: l=>if m≤(i:Int)+1∧(i:Int)+1<e then c :: partL m e (i+1) l else partL m e (i+1) l
def indexL (t:List UInt8):Nat→List UInt8→Nat
 | i,s=>if t.isPrefixOf s=true then i+1 else match s with
  | []=>0
  | _ :: s=>indexL t (i+1) s
structure Cell where
 list:Bool
 v:Val
 arr:Nat
 keys:List ByteArray
def cv (v:Val):Cell:=⟨false,v,0,[]⟩
def c0:Cell:=cv nothing
def kd (c:Cell):UInt8:=if c.list=true then 107 else if c.v.kind=1 then 110 else if c.v.kind=2 then 116 else 97
structure Eff where
 w:Wd
 locs:List Val
 top:List Cell
 st:Nat
 code:Int
 go:Option Nat
def Eff.put (w:Wd) (locs:List Val) (v:Val):Eff:=⟨w,locs,[cv v],0,0,none⟩
def Eff.bad (w:Wd) (locs:List Val) (st:Nat):Eff:=⟨w,locs,[],st,0,none⟩
def Eff.off (w:Wd) (locs:List Val) (st:Nat):Eff:=⟨w,locs,[],st,0,none⟩
def eff (E:Env) (w:Wd) (locs:List Val) (op a b:Nat) (top:List Cell):Eff:=
 match op with
 | 0=>.put w locs (whole (signedN a))
 | 1=>.put w locs (words (E.mo.texts.getD a none0))
 | 2=>.put w locs nothing
 | 3=>.put w locs (locs.getD a nothing)
 | 4=>.off w (locs.set a (top.getD 0 c0).v) 0
 | 5=>.put w locs (w.globs.getD a nothing)
 | 6=>.off { w with globs:=w.globs.set a (top.getD 0 c0).v } locs 0
 | 7=>⟨w,locs,[cv (fieldW w (top.getD 0 c0).v.n).1],(fieldW w (top.getD 0 c0).v.n).2,0,none⟩
 | 8=>.off (setFieldW w (top.getD 0 c0).v.n (textV E (top.getD 1 c0).v)).1 locs (setFieldW w (top.getD 0 c0).v.n (textV E (top.getD 1 c0).v)).2
 | 9=>.put w locs (whole (w.flds.length:Int))
 | 10=>.put w locs (whole (w.nr:Int))
 | 11=>if hasK (w.arrs.getD a []) (top.getD 0 c0).v.s=true then .put w locs (getK (w.arrs.getD a []) (top.getD 0 c0).v.s)
   else if 30≤(w.arrs.getD a []).length then .bad w locs 7
   else .put { w with arrs:=w.arrs.set a (setK (w.arrs.getD a []) (top.getD 0 c0).v.s nothing) } locs nothing
 | 12=>if hasK (w.arrs.getD a []) (top.getD 0 c0).v.s=false∧30≤(w.arrs.getD a []).length then .bad w locs 7
   else .off { w with arrs:=w.arrs.set a (setK (w.arrs.getD a []) (top.getD 0 c0).v.s (top.getD 1 c0).v) } locs 0
 | 13=>.put w locs (whole (truth (hasK (w.arrs.getD a []) (top.getD 0 c0).v.s)))
 | 14=>.off { w with arrs:=w.arrs.set a (dropK (w.arrs.getD a []) (top.getD 0 c0).v.s) } locs 0
 | 15=>.off { w with arrs:=w.arrs.set a [] } locs 0
 | 16=>⟨w,locs,[⟨true,nothing,a,keysA (w.arrs.getD a [])⟩],0,0,none⟩
 | 17=>match nextK (w.arrs.getD (top.getD 0 c0).arr []) (top.getD 0 c0).keys with
  | none=>⟨w,locs,[],0,0,some a⟩
  | some (k,l)=>⟨w,locs,[⟨true,(top.getD 0 c0).v,(top.getD 0 c0).arr,l⟩,cv (words k)],0,0,none⟩
 | 18 | 19 | 20 | 21 | 22=>⟨w,locs,[cv (whole (sumOp E op (top.getD 0 c0).v.n (top.getD 1 c0).v.n).1)],(sumOp E op (top.getD 0 c0).v.n (top.getD 1 c0).v.n).2,0,none⟩
 | 23=>.put w locs (whole (E.wr (-(top.getD 0 c0).v.n)))
 | 24=>.put w locs (whole (truth (decide ((top.getD 0 c0).v.n=0))))
 | 25=>if (top.getD 0 c0).v.s.size+(top.getD 1 c0).v.s.size>100 then .bad w locs 6
   else .put w locs (words ((top.getD 0 c0).v.s++(top.getD 1 c0).v.s))
 | 26=>.put w locs (whole (numV (top.getD 0 c0).v))
 | 27=>.put w locs (words (textV E (top.getD 0 c0).v))
 | 28=>.put w locs (whole (truth (holdsV (top.getD 0 c0).v)))
 | 29 | 30 | 31 | 32 | 33 | 34=>.put w locs (whole (truth (cmpOp op (cmpV E (top.getD 0 c0).v (top.getD 1 c0).v))))
 | 35=>.put w locs (whole ((E.fnd (E.mo.pats.getD a none0) (top.getD 0 c0).v.s).1+1))
 | 36=>.put w locs (whole (if (E.fnd (E.mo.pats.getD a none0) (top.getD 0 c0).v.s).1<0 then -1 else (E.fnd (E.mo.pats.getD a none0) (top.getD 0 c0).v.s).2))
 | 37=>if (E.swp (E.mo.pats.getD a none0) (top.getD 0 c0).v.s (top.getD 1 c0).v.s).size>100 then .bad w locs 6
   else .put w locs (words (E.swp (E.mo.pats.getD a none0) (top.getD 0 c0).v.s (top.getD 1 c0).v.s))
 | 38=>if (E.spl (E.mo.pats.getD b none0) (top.getD 0 c0).v.s).length>30 then .bad w locs 7
   else .put { w with arrs:=w.arrs.set a (fillA E 0 (E.spl (E.mo.pats.getD b none0) (top.getD 0 c0).v.s)) } locs (whole ((E.spl (E.mo.pats.getD b none0) (top.getD 0 c0).v.s).length:Int))
 | 39=>.put w locs (whole ((top.getD 0 c0).v.s.size:Int))
 | 40=>.put w locs (words ⟨(partL (top.getD 1 c0).v.n (E.wr ((top.getD 1 c0).v.n+(top.getD 2 c0).v.n)) 0 (bl (top.getD 0 c0).v.s)).toArray⟩)
 | 41=>.put w locs (whole (indexL (bl (top.getD 1 c0).v.s) 0 (bl (top.getD 0 c0).v.s):Int))
 | 42=>.put (nextR w).1 locs (whole (truth (nextR w).2))
 | 43=>match w.draws[w.drawn]? with
  | none=>.put w locs (whole 0)
  | some n=>.put { w with drawn:=w.drawn+1 } locs (whole n)
 | 44=>.off (printW w (top.map fun c=>c.v.s)).1 locs (printW w (top.map fun c=>c.v.s)).2
 | 45=>⟨w,locs,[top.getD 0 c0,top.getD 0 c0],0,0,none⟩
 | 46=>⟨w,locs,[top.getD 1 c0,top.getD 0 c0,top.getD 1 c0],0,0,none⟩
 | 47=>.off w locs 0
 | 48=>⟨w,locs,[],0,0,some a⟩
 | 49=>⟨w,locs,[],0,0,if (top.getD 0 c0).v.n=0 then some a else none⟩
 | 53=>⟨w,locs,[],2,(top.getD 0 c0).v.n,none⟩
 | _=>.off w locs 0
end Mach
namespace Mach
open Wire Flow
end Mach
namespace Mach
open Wire Flow
structure Frm where
 f:Nat
 at_:Nat
 locs:List Val
 stk:List Cell
structure St where
 w:Wd
 frs:List Frm
 st:Nat
 code:Int
 used:Nat
def fnOf (m:Mo) (f:Nat):Wire.Fn:=m.fns.getD f ⟨0,0,none0⟩
def codeOf (m:Mo) (f:Nat):List UInt8:=bl (fnOf m f).code
def locsOf (m:Mo) (f:Nat):Nat:=(fnOf m f).locs.toNat
def parOf (m:Mo) (f:Nat):Nat:=(fnOf m f).params.toNat
def enter (m:Mo) (f:Nat) (args:List Val):Frm:=⟨f,0,args++List.replicate (locsOf m f-args.length) nothing,[]⟩
def over (m:Mo) (s:St) (f:Nat):St:=
 if f=2 then { s with st:=1 }
 else if (nextR s.w).2=true then { s with w:=(nextR s.w).1,frs:=[enter m 1 []] }
 else { s with frs:=[enter m 2 []] }
def does (E:Env) (s:St) (low:List Frm) (fr:Frm) (i:Stp) (rest top:List Cell):St:=
 if i.op=50 then
  if 20<low.length+1 then { s with st:=9,used:=s.used+1 }
  else { s with used:=s.used+1,frs:=low++[⟨fr.f,i.nx,fr.locs,rest⟩,enter E.mo i.a (top.map Cell.v)] }
 else if i.op=51 then
  match low.getLast? with
  | none=>s
  | some g=>{ s with used:=s.used+1,frs:=low.dropLast++[⟨g.f,g.at_,g.locs,g.stk++[cv (top.getD 0 c0).v]⟩] }
 else if i.op=52 then over E.mo { s with used:=s.used+1 } fr.f
 else if (eff E s.w fr.locs i.op i.a i.b top).st≠0 then
  { s with w:=(eff E s.w fr.locs i.op i.a i.b top).w,st:=(eff E s.w fr.locs i.op i.a i.b top).st,code:=(eff E s.w fr.locs i.op i.a i.b top).code,used:=s.used+1 }
 else
  { s with w:=(eff E s.w fr.locs i.op i.a i.b top).w,used:=s.used+1,frs:=low++[⟨fr.f,((eff E s.w fr.locs i.op i.a i.b top).go).getD i.nx,(eff E s.w fr.locs i.op i.a i.b top).locs,rest++(eff E s.w fr.locs i.op i.a i.b top).top⟩] }
structure Ready (E:Env) (s:St) (low:List Frm) (fr:Frm) (i:Stp) (rest top:List Cell):Prop where
 frs:s.frs=low++[fr]
 at_:fr.at_<(codeOf E.mo fr.f).length
 dec:decodeL E.mo fr.f (locsOf E.mo fr.f) (codeOf E.mo fr.f) fr.at_=.inr i
 stk:fr.stk=rest++top
 takes:leS (top.map kd) (want (parOf E.mo) i.op i.a)
 high:rest.length+(give i.op (top.map kd)).length≤1024
def FrFit (m:Mo) (f at_:Nat) (ks:List UInt8):Prop:=∃ l G,Reads m f (locsOf m f) (codeOf m f) l∧Sol (parOf m) l G∧Fits l G at_ ks
structure Inv (m:Mo) (frs:List Frm):Prop where
 some_:frs≠[]
 kinds:∀ i g,frs[i]?=some g→(i=0↔g.f<3)
 fns:∀ g ∈ frs,g.f<m.fns.length∧g.locs.length=locsOf m g.f
 on:∀ g,frs.getLast?=some g→FrFit m g.f g.at_ (g.stk.map kd)∧g.stk.length≤1024
 low:∀ g ∈ frs.dropLast,FrFit m g.f g.at_ (g.stk.map kd++[97])∧g.stk.length+1≤1024
end Mach
open Go.RowKit
open Wire Flow Mach
structure StpOk (m:Mo) (s:Stp):Prop where
 op:s.op<54
 pr:s.op=44→s.a≤1000
 ca:s.op=50→s.a<m.fns.length
 aa:s.a≤34359738368
structure FnsOk (m:Mo):Prop where
 n:m.fns.length≤1000
 p:∀ x ∈ m.fns,0≤x.params∧x.params≤8∧0≤x.locs∧x.locs≤1000∧x.code.size≤20000
theorem afterR_any (mv:Value)(m:Mo)(w:World)(s:Stp)(st:List UInt8)(hT:DocT w)(hM:ModIn w mv m)(hF:FnsOk m)(hS:StpOk m s)(hs:st.length≤1024) :
  Calls Tryz.prog 187 #[mv,stpV s.pl s.nx s.op s.a s.b,.string (wdK st)] w fun e w'=>AfterP (parOf m) s.op s.a st e∧Fr [] w w':=by
 obtain⟨tv,pv,fv,rfl,h1,h2,h3⟩:=hM.is
 by_cases e45:s.op=45
 ·exact afterR_dup _ _ _ _ _ w _ _ _ _ _ _ st hT hs e45
 ·by_cases e46:s.op=46
  ·exact afterR_under _ _ _ _ _ w _ _ _ _ _ _ st hT hs e46
  ·by_cases e44:s.op=44
   ·exact afterR_print _ _ _ _ _ w _ _ _ _ _ _ st hT hs e44 (by have:=hS.pr e44;omega)
   ·by_cases e50:s.op=50
    ·have ha:=hS.ca e50
     obtain⟨a0,cap,g,off,hv,hc,hx0,hx⟩:=h3
     obtain⟨x,hxx⟩:∃ x,m.fns[s.a]?=some x:=⟨_,Lge ha⟩
     have hp:=hF.p x (List.mem_of_getElem? hxx)
     have hpar:parOf m s.a=x.params.toNat:=by unfold parOf fnOf;rw[List.getD_eq_getElem?_getD,hxx];rfl
     rw[(hx0 (by omega)).1] at hv
     refine afterR_call _ _ _ _ _ w _ _ _ _ _ _ st hT hs e50 g off m.fns.length cap hv ha ?_ (by rw[hpar];omega)
     rw[(hx s.a x hxx).1,hpar]
     congr 2
     omega
    ·exact afterR_table _ _ _ _ _ w _ _ _ _ _ _ st hT hs hS.op e44 e45 e46 e50
end Go.Proofs.YtclkgoigmgkffaaGreatDoor
