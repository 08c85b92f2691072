/-
  Texts Vd Vg Vh.
-/
import Derived.PlainAid
import Derived.Test.YtgpamchpeamnfaaGreatDoorMA
set_option linter.unusedSimpArgs false
set_option linter.unusedVariables false
set_option maxRecDepth 100000
set_option maxHeartbeats 40000000
namespace Go.Proofs.YtgpamchpeamnfaaGreatDoor
namespace Flow
def lst (a b:UInt8):UInt8:=if a=b then a else if a=107∨b=107∨a=106∨b=106 then 106 else 97
def le (a b:UInt8):Prop:=lst a b=b
theorem eL {a b:UInt8}:le a b↔a=b∨b=106∨(b=97∧a≠107∧a≠106):=by
 unfold le lst
 by_cases h:a=b
 ·simp[h]
 ·rw[if_neg h]
  by_cases hk:a=107∨b=107∨a=106∨b=106
  ·rw[if_pos hk]
   constructor
   ·intro e;exact Or.inr (Or.inl e.symm)
   ·rintro (e | e | ⟨e,h1,h2⟩)
    ·exact absurd e h
    ·exact e.symm
    ·subst e
     rcases hk with e | e | e | e
     ·exact absurd e h1
     ·exact absurd e (by decide)
     ·exact absurd e h2
     ·exact absurd e (by decide)
  ·rw[if_neg hk]
   constructor
   ·intro e;exact Or.inr (Or.inr ⟨e.symm,fun x=>hk (Or.inl x),fun x=>hk (Or.inr (Or.inr (Or.inl x)))⟩)
   ·rintro (e | e | ⟨e,h1,h2⟩)
    ·exact absurd e h
    ·exact absurd (Or.inr (Or.inr (Or.inr e))) hk
    ·exact e.symm
theorem le_refl (a:UInt8):le a a:=eL.2 (Or.inl rfl)
theorem le_trans {a b c:UInt8}(h:le a b)(g:le b c):le a c:=by
 rw[eL] at *
 rcases h with rfl | rfl | ⟨rfl,h1,h2⟩
 ·exact g
 ·rcases g with rfl | rfl | ⟨rfl,g1,g2⟩
  ·exact Or.inr (Or.inl rfl)
  ·exact Or.inr (Or.inl rfl)
  ·exact absurd rfl g2
 ·rcases g with rfl | rfl | ⟨rfl,g1,g2⟩
  ·exact Or.inr (Or.inr ⟨rfl,h1,h2⟩)
  ·exact Or.inr (Or.inl rfl)
  ·exact Or.inr (Or.inr ⟨rfl,h1,h2⟩)
theorem aIa {a b:UInt8}(h:le a b)(g:le b a):a=b:=by
 rw[eL] at *
 rcases h with h | rfl | ⟨rfl,h1,h2⟩
 ·exact h
 ·rcases g with g | g | ⟨_,g1,g2⟩
  ·exact g.symm
  ·exact g
  ·exact absurd rfl g2
 ·rcases g with g | g | ⟨g,g1,g2⟩
  ·exact g.symm
  ·exact absurd g h2
  ·exact g
theorem aHr (a b:UInt8):lst a b=lst b a:=by
 unfold lst
 by_cases h:a=b
 ·rw[if_pos h,if_pos h.symm,h]
 ·rw[if_neg h,if_neg (show ¬ b=a from fun e=>h e.symm)]
  by_cases hk:a=107∨b=107∨a=106∨b=106
  ·rw[if_pos hk,if_pos (by rcases hk with e | e | e | e <;> simp[e])]
  ·rw[if_neg hk,if_neg (fun e=>hk (by rcases e with e | e | e | e <;> simp[e]))]
theorem aUx (a b:UInt8):le a (lst a b):=by
 rw[eL]
 unfold lst
 by_cases h:a=b
 ·rw[if_pos h];exact Or.inl rfl
 ·rw[if_neg h]
  by_cases hk:a=107∨b=107∨a=106∨b=106
  ·rw[if_pos hk];exact Or.inr (Or.inl rfl)
  ·rw[if_neg hk]
   exact Or.inr (Or.inr ⟨rfl,fun x=>hk (Or.inl x),fun x=>hk (Or.inr (Or.inr (Or.inl x)))⟩)
theorem aYg (a b:UInt8):le b (lst a b):=by rw[aHr];exact aUx b a
theorem bBr {a b c:UInt8}(h:le a c)(g:le b c):le (lst a b) c:=by
 by_cases e:a=b
 ·unfold lst;rw[if_pos e];exact h
 ·rw[eL] at h g
  rcases h with rfl | rfl | ⟨rfl,h1,h2⟩
  ·have:lst b a=a:=eL.2 g
   rw[aHr,this];exact le_refl a
  ·exact eL.2 (Or.inr (Or.inl rfl))
  ·rcases g with rfl | g | ⟨_,g1,g2⟩
   ·have:lst a 97=97:=eL.2 (Or.inr (Or.inr ⟨rfl,h1,h2⟩))
    rw[this];exact le_refl _
   ·exact absurd g (by decide)
   ·unfold lst
    rw[if_neg e,if_neg]
    ·exact le_refl _
    ·rintro (x | x | x | x)
     ·exact h1 x
     ·exact g1 x
     ·exact h2 x
     ·exact g2 x
def rk (a:UInt8):Nat:=if a=106 then 2 else if a=97 then 1 else 0
theorem bEr (a:UInt8):rk a≤2:=by unfold rk;split <;> (try split) <;> omega
theorem bAc {a b:UInt8}(h:le a b)(hne:a≠b):rk a<rk b:=by
 rw[eL] at h
 rcases h with h | rfl | ⟨rfl,h1,h2⟩
 ·exact absurd h hne
 ·unfold rk
  rw[if_neg hne,if_pos rfl]
  split <;> omega
 ·unfold rk
  rw[if_neg h2,if_neg hne]
  decide
theorem aXr {a b:UInt8}(h:le a b):rk a≤rk b:=by
 by_cases e:a=b
 ·rw[e];exact Nat.le_refl _
 ·exact Nat.le_of_lt (bAc h e)
def leS:List UInt8→List UInt8→Prop
 | [],[]=>True
 | a :: s,b :: t=>le a b∧leS s t
 | _,_=>False
def lQ (s t:List UInt8):List UInt8:=List.zipWith lst s t
theorem fH {s t:List UInt8}(h:leS s t):s.length=t.length:=by
 induction s generalizing t with
 | nil=>cases t with
  | nil=>rfl
  | cons=>exact h.elim
 | cons a s ih=>cases t with
  | nil=>exact h.elim
  | cons b t=>simp[ih h.2]
theorem fW (s:List UInt8):leS s s:=by
 induction s with
 | nil=>trivial
 | cons a s ih=>exact⟨le_refl a,ih⟩
theorem mK {s t u:List UInt8}(h:leS s t)(g:leS t u):leS s u:=by
 induction s generalizing t u with
 | nil=>cases t with
  | nil=>exact g
  | cons=>exact h.elim
 | cons a s ih=>cases t with
  | nil=>exact h.elim
  | cons b t=>cases u with
   | nil=>exact g.elim
   | cons c u=>exact⟨le_trans h.1 g.1,ih h.2 g.2⟩
theorem aDw {s t:List UInt8}(h:leS s t)(g:leS t s):s=t:=by
 induction s generalizing t with
 | nil=>cases t with
  | nil=>rfl
  | cons=>exact h.elim
 | cons a s ih=>cases t with
  | nil=>exact h.elim
  | cons b t=>rw[aIa h.1 g.1,ih h.2 g.2]
theorem aDz {s t:List UInt8}(h:s.length=t.length):(lQ s t).length=s.length:=by
 simp[lQ,h]
theorem P7 {s t:List UInt8}(h:s.length=t.length):leS s (lQ s t):=by
 induction s generalizing t with
 | nil=>cases t with
  | nil=>trivial
  | cons=>simp at h
 | cons a s ih=>cases t with
  | nil=>simp at h
  | cons b t=>exact⟨aUx a b,ih (by simpa using h)⟩
theorem yY {s t:List UInt8}(h:s.length=t.length):leS t (lQ s t):=by
 induction s generalizing t with
 | nil=>cases t with
  | nil=>trivial
  | cons=>simp at h
 | cons a s ih=>cases t with
  | nil=>simp at h
  | cons b t=>exact⟨aYg a b,ih (by simpa using h)⟩
theorem aIh {s t u:List UInt8}(h:leS s u)(g:leS t u):leS (lQ s t) u:=by
 induction s generalizing t u with
 | nil=>cases u with
  | nil=>cases t with
   | nil=>trivial
   | cons=>exact g.elim
  | cons=>exact h.elim
 | cons a s ih=>cases u with
  | nil=>exact h.elim
  | cons c u=>cases t with
   | nil=>exact g.elim
   | cons b t=>exact⟨bBr h.1 g.1,ih h.2 g.2⟩
theorem pH {s t u v:List UInt8}(h:leS s t)(g:leS u v):leS (s++u) (t++v):=by
 induction s generalizing t with
 | nil=>cases t with
  | nil=>exact g
  | cons=>exact h.elim
 | cons a s ih=>cases t with
  | nil=>exact h.elim
  | cons b t=>exact⟨h.1,ih h.2⟩
theorem aUy {s t:List UInt8}(h:leS s t)(n:Nat):leS (s.take n) (t.take n):=by
 induction s generalizing t n with
 | nil=>cases t with
  | nil=>simp[leS]
  | cons=>exact h.elim
 | cons a s ih=>cases t with
  | nil=>exact h.elim
  | cons b t=>cases n with
   | zero=>trivial
   | succ n=>exact⟨h.1,ih h.2 n⟩
theorem aIc {s t:List UInt8}(h:leS s t)(n:Nat):leS (s.drop n) (t.drop n):=by
 induction s generalizing t n with
 | nil=>cases t with
  | nil=>simp[leS]
  | cons=>exact h.elim
 | cons a s ih=>cases t with
  | nil=>exact h.elim
  | cons b t=>cases n with
   | zero=>exact h
   | succ n=>exact ih h.2 n
def rkS:List UInt8→Nat
 | []=>0
 | a :: s=>rk a+rkS s
theorem bBe (s:List UInt8):rkS s≤2*s.length:=by
 induction s with
 | nil=>simp[rkS]
 | cons a s ih=>have:=bEr a;simp only[rkS,List.length_cons];omega
theorem aTs {s t:List UInt8}(h:leS s t):rkS s≤rkS t:=by
 induction s generalizing t with
 | nil=>cases t with
  | nil=>exact Nat.le_refl _
  | cons=>exact h.elim
 | cons a s ih=>cases t with
  | nil=>exact h.elim
  | cons b t=>
   have:=aXr h.1
   have:=ih h.2
   simp only[rkS];omega
theorem bBd {s t:List UInt8}(h:leS s t)(hne:s≠t):rkS s<rkS t:=by
 induction s generalizing t with
 | nil=>cases t with
  | nil=>exact absurd rfl hne
  | cons=>exact h.elim
 | cons a s ih=>cases t with
  | nil=>exact h.elim
  | cons b t=>
   simp only[rkS]
   by_cases e:a=b
   ·have:=ih h.2 (fun x=>hne (by rw[e,x]))
    rw[e];omega
   ·have:=bAc h.1 e
    have:=aTs h.2
    omega
def pI:List UInt8→List UInt8→Bool
 | [],[]=>true
 | a :: s,b :: t=>decide (lst a b=b) && pI s t
 | _,_=>false
theorem rO {s t:List UInt8}:pI s t=true↔leS s t:=by
 induction s generalizing t with
 | nil=>cases t with
  | nil=>simp[pI,leS]
  | cons=>simp[pI,leS]
 | cons a s ih=>cases t with
  | nil=>simp[pI,leS]
  | cons b t=>simp[pI,leS,ih,le]
def lY:List (List UInt8):=[[],[],[],[],[97],[],[97],[110],[110,97],[],[],[116],[116,97],[116],[116],[],[],[107],[110,110],[110,110],[110,110],[110,110],[110,110],[110],[110],[116,116],[97],[97],[97],[97,97],[97,97],[97,97],[97,97],[97,97],[97,97],[116],[116],[116,116],[116],[116],[116,110,110],[116,116],[],[],[],[97],[97,97],[106],[],[110],[],[97],[],[110]]
def jV:List (List UInt8):=[[110],[116],[97],[97],[],[97],[],[97],[],[110],[110],[97],[],[110],[],[],[107],[107,116],[110],[110],[110],[110],[110],[110],[110],[116],[110],[116],[110],[110],[110],[110],[110],[110],[110],[110],[110],[116],[110],[110],[116],[110],[110],[110],[],[],[],[],[],[],[97],[],[],[]]
def iD (par:Nat→Nat) (op a:Nat):List UInt8:=
 if op=44 then List.replicate a 116 else if op=50 then List.replicate (par a) 97 else lY.getD op []
def pW (op:Nat) (top:List UInt8):List UInt8:=
 if op=45 then top++top else if op=46 then top.drop 1++top else jV.getD op []
def after (par:Nat→Nat) (op a:Nat) (st:List UInt8):Option (List UInt8 × List UInt8):=
 if st.length<(iD par op a).length then none
 else if pI (st.drop (st.length-(iD par op a).length)) (iD par op a)=true then
  if (st.take (st.length-(iD par op a).length)++pW op (st.drop (st.length-(iD par op a).length))).length≤1024 then
   some (st.take (st.length-(iD par op a).length)++pW op (st.drop (st.length-(iD par op a).length)),st.take (st.length-(iD par op a).length))
  else none
 else none
theorem aQz {op:Nat}{s t:List UInt8} (h:leS s t):leS (pW op s) (pW op t):=by
 unfold pW
 split
 ·exact pH h h
 ·split
  ·exact pH (aIc h 1) h
  ·exact fW _
theorem X5 {par:Nat→Nat}{op a:Nat}{s t:List UInt8}{o r:List UInt8} (h:leS s t) (ht:after par op a t=some (o,r)) :
  ∃ o' r',after par op a s=some (o',r')∧leS o' o∧leS r' r:=by
 have hl:=fH h
 unfold after at ht ⊢
 rw[hl]
 generalize (iD par op a)=w at *
 split at ht
 ·cases ht
 ·rename_i hw
  split at ht
  ·rename_i hs
   split at ht
   ·rename_i hm
    simp only[Option.some.injEq,Prod.mk.injEq] at ht
    obtain⟨rfl,rfl⟩:=ht
    have hd:=aIc h (t.length-w.length)
    have htk:=aUy h (t.length-w.length)
    have hg:=pH htk (aQz (op:=op) hd)
    have hs':pI (s.drop (t.length-w.length)) w=true:=rO.2 (mK hd (rO.1 hs))
    rw[if_neg hw,if_pos hs',if_pos (by rw[fH hg];exact hm)]
    exact⟨_,_,rfl,hg,htk⟩
   ·cases ht
  ·cases ht
theorem aEx {par:Nat→Nat}{op a:Nat}{s o r:List UInt8} (h:after par op a s=some (o,r)):o.length≤1024∧r.length≤s.length:=by
 unfold after at h
 split at h
 ·cases h
 ·split at h
  ·split at h
   ·rename_i hm
    simp only[Option.some.injEq,Prod.mk.injEq] at h
    obtain⟨rfl,rfl⟩:=h
    exact⟨hm,by rw[List.length_take];omega⟩
   ·cases h
  ·cases h
structure Stp where
 pl:Nat
 nx:Nat
 op:Nat
 a:Nat
 b:Nat
def far (op:Nat):Bool:=op==48 || op==49 || op==17
def cS (op:Nat):Bool:=op==48 || op==51 || op==52 || op==53
def dY:List Stp→Nat→Option Nat
 | [],_=>none
 | s :: l,p=>if s.pl=p then some 0 else (dY l p).map (·+1)
def Has (G:List (Option (List UInt8))) (i:Nat) (st:List UInt8):Prop:=∃ t,G[i]?=some (some t)∧leS st t
def oH (par:Nat→Nat) (l:List Stp) (G:List (Option (List UInt8))) (i:Nat):Prop:=
 ∀ st s,G[i]?=some (some st)→l[i]?=some s→∃ o r,after par s.op s.a st=some (o,r) ∧
  (far s.op=true→∃ k,dY l s.a=some k∧Has G k r)∧(cS s.op=false→Has G (i+1) o)
structure Sol (par:Nat→Nat) (l:List Stp) (G:List (Option (List UInt8))):Prop where
 size:G.length=l.length
 first:G[0]?=some (some [])
 each:∀ i,i<l.length→oH par l G i
def qM (G T:List (Option (List UInt8))):Prop:=∀ i st,G[i]?=some (some st)→Has T i st
def laid (G:List (Option (List UInt8))) (i:Nat) (st:List UInt8):List (Option (List UInt8)):=
 match G[i]? with
 | some (some t)=>G.set i (some (lQ t st))
 | _=>G.set i (some st)
theorem tT (G:List (Option (List UInt8)))(i:Nat)(st:List UInt8):(laid G i st).length=G.length:=by
 unfold laid;split <;> simp
theorem vC {G T:List (Option (List UInt8))}{i:Nat}{st:List UInt8} (h:qM G T) (hs:Has T i st):qM (laid G i st) T:=by
 intro j u hj
 unfold laid at hj
 split at hj
 ·rename_i t ht
  rw[List.getElem?_set] at hj
  split at hj
  ·rename_i e
   subst e
   split at hj
   ·simp only[Option.some.injEq] at hj
    subst hj
    obtain⟨a,ha,hl⟩:=h i t ht
    obtain⟨b,hb,hm⟩:=hs
    rw[ha] at hb
    simp only[Option.some.injEq] at hb
    subst hb
    exact⟨a,ha,aIh hl hm⟩
   ·cases hj
  ·exact h j u hj
 ·rw[List.getElem?_set] at hj
  split at hj
  ·rename_i e
   subst e
   split at hj
   ·simp only[Option.some.injEq] at hj
    subst hj
    exact hs
   ·cases hj
  ·exact h j u hj
theorem xB {G T:List (Option (List UInt8))}{i:Nat}{st t:List UInt8} (h:qM G T) (hs:Has T i st) (ht:G[i]?=some (some t)):t.length=st.length:=by
 obtain⟨a,ha,hl⟩:=h i t ht
 obtain⟨b,hb,hm⟩:=hs
 rw[ha] at hb
 simp only[Option.some.injEq] at hb
 subst hb
 rw[fH hl,fH hm]
theorem tU {G:List (Option (List UInt8))}{i:Nat}{st:List UInt8} (hi:i<G.length) (hh:∀ t,G[i]?=some (some t)→t.length=st.length):Has (laid G i st) i st:=by
 unfold laid
 split
 ·rename_i t ht
  exact⟨lQ t st,by rw[List.getElem?_set];simp[hi],yY (hh t ht)⟩
 ·exact⟨st,by rw[List.getElem?_set];simp[hi],fW st⟩
theorem yZ {G:List (Option (List UInt8))}{i:Nat}{st:List UInt8} (h:Has G i st):laid G i st=G:=by
 obtain⟨t,ht,hl⟩:=h
 have e:lQ t st=t:=aDw (aIh (fW t) hl) (P7 (fH hl).symm)
 unfold laid
 rw[ht]
 simp only[e]
 rw[Lgs] at ht
 obtain⟨hi,ht⟩:=ht
 rw[← ht,List.set_getElem_self]
def aHz:Option (List UInt8)→Nat
 | none=>3000
 | some st=>2*st.length-rkS st
def left (G:List (Option (List UInt8))):Nat:=(G.map aHz).sum
theorem aHx {G:List (Option (List UInt8))}{i:Nat}{x y:Option (List UInt8)} (hx:G[i]?=some x) (h:aHz y<aHz x):left (G.set i y)<left G:=by
 induction G generalizing i with
 | nil=>simp at hx
 | cons a G ih=>
  cases i with
  | zero=>
   simp only[List.getElem?_cons_zero,Option.some.injEq] at hx
   subst hx
   simp only[left,List.set_cons_zero,List.map_cons,List.sum_cons]
   omega
  | succ i=>
   simp only[List.getElem?_cons_succ] at hx
   have:=ih hx
   simp only[left,List.set_cons_succ,List.map_cons,List.sum_cons] at this ⊢
   omega
theorem aQk {G:List (Option (List UInt8))}{i:Nat}{st:List UInt8} (hi:i<G.length) (hst:st.length≤1024) (hh:∀ t,G[i]?=some (some t)→t.length=st.length) (hn:¬ Has G i st):left (laid G i st)<left G:=by
 unfold laid
 split
 ·rename_i t ht
  have hl:=hh t ht
  refine aHx ht ?_
  have h1:=P7 hl
  have h2:=bBe (lQ t st)
  have h3:=fH h1
  have h4:t≠lQ t st:=by
   intro e
   exact hn ⟨t,ht,by rw[e];exact yY hl⟩
  have h5:=bBd h1 h4
  simp only[aHz]
  omega
 ·rename_i hnone
  have:G[i]?=some none:=by
   cases hg:G[i]? with
   | none=>rw[List.getElem?_eq_none_iff] at hg;omega
   | some x=>
    cases x with
    | none=>rfl
    | some t=>exact absurd hg (hnone t)
  refine aHx this ?_
  simp only[aHz]
  omega
end Flow
namespace Flow
def Safe (par:Nat→Nat) (l:List Stp):Prop:=∃ T,Sol par l T
structure Low (par:Nat→Nat) (l:List Stp) (G:List (Option (List UInt8))):Prop where
 size:G.length=l.length
 low:∀ T,Sol par l T→qM G T
theorem sE (par:Nat→Nat):¬ Safe par []:=by
 rintro ⟨T,h⟩
 have h0:=h.first
 have hz:=h.size
 rw[List.length_nil,List.length_eq_zero_iff] at hz
 subst hz
 simp at h0
theorem aUt (par:Nat→Nat)(l:List Stp):Low par l (List.replicate l.length none):=by
 refine⟨by simp,?_⟩
 intro T _ i st hi
 rw[List.getElem?_replicate] at hi
 split at hi
 ·simp at hi
 ·cases hi
theorem Low.start (par:Nat→Nat)(l:List Stp):Low par l (laid (List.replicate l.length none) 0 []):=by
 refine⟨by rw[tT];simp,?_⟩
 intro T hT
 exact vC ((aUt par l).low T hT) ⟨[],hT.first,fW []⟩
theorem Low.says {par:Nat→Nat}{l:List Stp}{G:List (Option (List UInt8))} (h:Low par l G) {i:Nat}{st:List UInt8}{s:Stp} (hi:G[i]?=some (some st)) (hs:l[i]?=some s)
  {T:List (Option (List UInt8))} (hT:Sol par l T) :
  ∃ o r,after par s.op s.a st=some (o,r)∧(far s.op=true→∃ k,dY l s.a=some k∧Has T k r)∧(cS s.op=false→Has T (i+1) o):=by
 obtain⟨t,ht,hl⟩:=h.low T hT i st hi
 have hil:i<l.length:=by
  rw[Lgs] at hs
  exact hs.1
 obtain⟨o,r,ha,h1,h2⟩:=hT.each i hil t s ht hs
 obtain⟨o',r',ha',hlo,hlr⟩:=X5 hl ha
 refine⟨o',r',ha',?_,?_⟩
 ·intro hf
  obtain⟨k,hk,u,hu,hru⟩:=h1 hf
  exact⟨k,hk,u,hu,mK hlr hru⟩
 ·intro hf
  obtain⟨u,hu,hou⟩:=h2 hf
  exact⟨u,hu,mK hlo hou⟩
theorem Low.stuck {par:Nat→Nat}{l:List Stp}{G:List (Option (List UInt8))} (h:Low par l G) {i:Nat}{st:List UInt8}{s:Stp} (hi:G[i]?=some (some st)) (hs:l[i]?=some s)
  (ha:after par s.op s.a st=none):¬ Safe par l:=by
 rintro ⟨T,hT⟩
 obtain⟨o,r,ha',-⟩:=h.says hi hs hT
 rw[ha] at ha'
 cases ha'
theorem Low.farLow {par:Nat→Nat}{l:List Stp}{G:List (Option (List UInt8))} (h:Low par l G) {i k:Nat}{st o r:List UInt8}{s:Stp} (hi:G[i]?=some (some st)) (hs:l[i]?=some s)
  (ha:after par s.op s.a st=some (o,r)) (hf:far s.op=true) (hk:dY l s.a=some k):Low par l (laid G k r):=by
 refine⟨by rw[tT];exact h.size,?_⟩
 intro T hT
 obtain⟨o',r',ha',h1,-⟩:=h.says hi hs hT
 rw[ha] at ha'
 simp only[Option.some.injEq,Prod.mk.injEq] at ha'
 obtain⟨rfl,rfl⟩:=ha'
 obtain⟨k',hk',hh⟩:=h1 hf
 rw[hk] at hk'
 simp only[Option.some.injEq] at hk'
 subst hk'
 exact vC (h.low T hT) hh
theorem Low.farHigh {par:Nat→Nat}{l:List Stp}{G:List (Option (List UInt8))} (h:Low par l G) {i k:Nat}{st o r t:List UInt8}{s:Stp} (hi:G[i]?=some (some st)) (hs:l[i]?=some s)
  (ha:after par s.op s.a st=some (o,r)) (hf:far s.op=true) (hk:dY l s.a=some k) (ht:G[k]?=some (some t)) (hne:t.length≠r.length):¬ Safe par l:=by
 rintro ⟨T,hT⟩
 obtain⟨o',r',ha',h1,-⟩:=h.says hi hs hT
 rw[ha] at ha'
 simp only[Option.some.injEq,Prod.mk.injEq] at ha'
 obtain⟨rfl,rfl⟩:=ha'
 obtain⟨k',hk',hh⟩:=h1 hf
 rw[hk] at hk'
 simp only[Option.some.injEq] at hk'
 subst hk'
 exact hne (xB (h.low T hT) hh ht)
theorem Low.next {par:Nat→Nat}{l:List Stp}{G:List (Option (List UInt8))} (h:Low par l G) {G':List (Option (List UInt8))} (h':Low par l G') {i:Nat}{st o r:List UInt8}{s:Stp} (hi:G[i]?=some (some st)) (hs:l[i]?=some s)
  (ha:after par s.op s.a st=some (o,r)) (hf:cS s.op=false):Low par l (laid G' (i+1) o):=by
 refine⟨by rw[tT];exact h'.size,?_⟩
 intro T hT
 obtain⟨o',r',ha',-,h2⟩:=h.says hi hs hT
 rw[ha] at ha'
 simp only[Option.some.injEq,Prod.mk.injEq] at ha'
 obtain⟨rfl,rfl⟩:=ha'
 exact vC (h'.low T hT) (h2 hf)
theorem Low.nextHigh {par:Nat→Nat}{l:List Stp}{G:List (Option (List UInt8))} (h:Low par l G) {G':List (Option (List UInt8))} (h':Low par l G') {i:Nat}{st o r t:List UInt8}{s:Stp} (hi:G[i]?=some (some st)) (hs:l[i]?=some s)
  (ha:after par s.op s.a st=some (o,r)) (hf:cS s.op=false) (ht:G'[i+1]?=some (some t)) (hne:t.length≠o.length):¬ Safe par l:=by
 rintro ⟨T,hT⟩
 obtain⟨o',r',ha',-,h2⟩:=h.says hi hs hT
 rw[ha] at ha'
 simp only[Option.some.injEq,Prod.mk.injEq] at ha'
 obtain⟨rfl,rfl⟩:=ha'
 exact hne (xB (h'.low T hT) (h2 hf) ht)
theorem Low.nextEnd {par:Nat→Nat}{l:List Stp}{G:List (Option (List UInt8))} (h:Low par l G) {i:Nat}{st:List UInt8}{s:Stp} (hi:G[i]?=some (some st)) (hs:l[i]?=some s)
  (hf:cS s.op=false) (he:i+1=l.length):¬ Safe par l:=by
 rintro ⟨T,hT⟩
 obtain⟨o',r',ha',-,h2⟩:=h.says hi hs hT
 obtain⟨u,hu,-⟩:=h2 hf
 rw[Lgs] at hu
 have:=hu.1
 rw[hT.size] at this
 omega
theorem Has.mono {G H:List (Option (List UInt8))}{i:Nat}{st:List UInt8} (h:Has G i st) (hu:qM G H):Has H i st:=by
 obtain⟨t,ht,hl⟩:=h
 obtain⟨u,huu,hl'⟩:=hu i t ht
 exact⟨u,huu,mK hl hl'⟩
theorem qM.trans {G H K:List (Option (List UInt8))}(h:qM G H)(g:qM H K):qM G K:=
 fun i st hi=>Has.mono (h i st hi) g
theorem Z7 {G:List (Option (List UInt8))}{i:Nat}{st:List UInt8} (hh:∀ t,G[i]?=some (some t)→t.length=st.length):qM G (laid G i st):=by
 intro j u hj
 unfold laid
 split
 ·rename_i t ht
  by_cases e:i=j
  ·subst e
   rw[ht] at hj
   simp only[Option.some.injEq] at hj
   subst hj
   have hi:i<G.length:=by rw[Lgs] at ht;exact ht.1
   exact⟨lQ t st,by rw[List.getElem?_set];simp[hi],P7 (hh t ht)⟩
  ·exact⟨u,by rw[List.getElem?_set,if_neg e];exact hj,fW u⟩
 ·rename_i hn
  by_cases e:i=j
  ·subst e
   exact absurd hj (hn u)
  ·exact⟨u,by rw[List.getElem?_set,if_neg e];exact hj,fW u⟩
theorem aLi {G:List (Option (List UInt8))}{i j:Nat}{st:List UInt8} (h:i≠j):(laid G i st)[j]?=G[j]?:=by
 unfold laid
 split <;> rw[List.getElem?_set,if_neg h]
theorem aLk {G:List (Option (List UInt8))}{i:Nat}{st:List UInt8} (h0:G[0]?=some (some [])) (hi:i=0→st=[]):(laid G i st)[0]?=some (some []):=by
 by_cases e:i=0
 ·subst e
  rw[hi rfl,yZ ⟨[],h0,fW []⟩]
  exact h0
 ·rw[aLi e]
  exact h0
theorem oH.mono {par:Nat→Nat}{l:List Stp}{G H:List (Option (List UInt8))}{i:Nat} (h:oH par l G i) (hs:H[i]?=G[i]?) (hu:qM G H):oH par l H i:=by
 intro st s hi hl
 rw[hs] at hi
 obtain⟨o,r,ha,h1,h2⟩:=h st s hi hl
 refine⟨o,r,ha,?_,fun hf=>Has.mono (h2 hf) hu⟩
 intro hf
 obtain⟨k,hk,hh⟩:=h1 hf
 exact⟨k,hk,Has.mono hh hu⟩
theorem oH.of_none {par:Nat→Nat}{l:List Stp}{G:List (Option (List UInt8))}{i:Nat} (h:G[i]?=some none):oH par l G i:=by
 intro st s hi
 rw[h] at hi
 simp at hi
theorem oH.passed {par:Nat→Nat}{l:List Stp}{G:List (Option (List UInt8))}{i:Nat}{st o r:List UInt8}{s:Stp} (hi:G[i]?=some (some st)) (hs:l[i]?=some s)
  (ha:after par s.op s.a st=some (o,r)) (h1:far s.op=true→∃ k,dY l s.a=some k∧Has G k r) (h2:cS s.op=false→Has G (i+1) o):oH par l G i:=by
 intro st' s' hi' hs'
 rw[hi] at hi'
 rw[hs] at hs'
 simp only[Option.some.injEq] at hi' hs'
 subst hi'
 subst hs'
 exact⟨o,r,ha,h1,h2⟩
theorem rZ {par:Nat→Nat}{l:List Stp}{G:List (Option (List UInt8))} (hz:G.length=l.length) (h0:G[0]?=some (some [])) (h:∀ i,i<l.length→oH par l G i):Safe par l:=
 ⟨G,hz,h0,h⟩
end Flow
namespace Flow
def ab (x:Nat):UInt8:=if x=1 then 110 else if x=2 then 116 else if x=3 then 97 else if x=4 then 107 else 106
def uE (x:Nat):Prop:=0<x∧x<8
theorem uE.cases {x:Nat}(h:uE x):x=1∨x=2∨x=3∨x=4∨x=5∨x=6∨x=7:=by
 unfold uE at h
 omega
theorem uE.or {x y:Nat}(h:uE x)(g:uE y):uE (x ||| y):=by
 rcases h.cases with rfl | rfl | rfl | rfl | rfl | rfl | rfl <;> rcases g.cases with rfl | rfl | rfl | rfl | rfl | rfl | rfl <;> exact⟨by decide,by decide⟩
theorem bFx {x y:Nat}(h:uE x)(g:uE y):ab (x ||| y)=lst (ab x) (ab y):=by
 rcases h.cases with rfl | rfl | rfl | rfl | rfl | rfl | rfl <;> rcases g.cases with rfl | rfl | rfl | rfl | rfl | rfl | rfl <;> rfl
def aKb (x:Nat):Prop:=x=1∨x=2∨x=3∨x=4∨x=7
theorem bAo {x w:Nat}(h:uE x)(g:aKb w):x &&& (w ^^^ 15)=0↔le (ab x) (ab w):=by
 rcases g with rfl | rfl | rfl | rfl | rfl <;> rcases h.cases with rfl | rfl | rfl | rfl | rfl | rfl | rfl <;> (unfold le;decide)
def bc (x:Nat):Nat:=x % 2+x / 2 % 2+x / 4 % 2
theorem bFw (x:Nat):bc x≤3:=by unfold bc;omega
theorem bFv {x y:Nat}(h:uE x)(g:uE y):bc x≤bc (x ||| y)∧(x ||| y≠x→bc x<bc (x ||| y)):=by
 rcases h.cases with rfl | rfl | rfl | rfl | rfl | rfl | rfl <;> rcases g.cases with rfl | rfl | rfl | rfl | rfl | rfl | rfl <;> exact⟨by decide,by decide⟩
def bU (s:List Nat):Prop:=∀ x,x ∈ s→uE x
def abL (s:List Nat):List UInt8:=s.map ab
def orL (s t:List Nat):List Nat:=List.zipWith (· ||| ·) s t
theorem cR (s:List Nat):(abL s).length=s.length:=by simp[abL]
theorem pS (s t:List Nat):abL (s++t)=abL s++abL t:=by simp[abL]
theorem N5 {s t:List Nat}(h:s.length=t.length):(orL s t).length=s.length:=by simp[orL,h]
theorem bU.cons {x:Nat}{s:List Nat} (h:bU (x :: s)):uE x∧bU s:=⟨h x (by simp),fun y hy=>h y (by simp[hy])⟩
theorem bU.of_cons {x:Nat}{s:List Nat} (h:uE x) (g:bU s):bU (x :: s):=by
 intro y hy
 rcases List.mem_cons.1 hy with rfl | hy
 ·exact h
 ·exact g y hy
theorem bU.append {s t:List Nat}(h:bU s)(g:bU t):bU (s++t):=by
 intro y hy
 rcases List.mem_append.1 hy with hy | hy
 ·exact h y hy
 ·exact g y hy
theorem bU.nil:bU []:=by intro y hy;cases hy
theorem bU.left {s t:List Nat}(h:bU (s++t)):bU s:=fun y hy=>h y (List.mem_append.2 (Or.inl hy))
theorem aHe {s t:List Nat}(h:bU s)(g:bU t):bU (orL s t):=by
 induction s generalizing t with
 | nil=>simp[orL];exact bU.nil
 | cons x s ih=>cases t with
  | nil=>simp[orL];exact bU.nil
  | cons y t=>exact bU.of_cons (h.cons.1.or g.cons.1) (ih h.cons.2 g.cons.2)
theorem aWs {s t:List Nat}(h:bU s)(g:bU t):abL (orL s t)=lQ (abL s) (abL t):=by
 induction s generalizing t with
 | nil=>simp[orL,abL,lQ]
 | cons x s ih=>cases t with
  | nil=>simp[orL,abL,lQ]
  | cons y t=>
   have:=ih h.cons.2 g.cons.2
   simp only[orL,abL,lQ,List.zipWith_cons_cons,List.map_cons] at this ⊢
   rw[bFx h.cons.1 g.cons.1,this]
def bcL:List Nat→Nat
 | []=>0
 | x :: s=>bc x+bcL s
theorem bDe (s:List Nat):bcL s≤3*s.length:=by
 induction s with
 | nil=>simp[bcL]
 | cons x s ih=>have:=bFw x;simp only[bcL,List.length_cons];omega
theorem bDd {s t:List Nat}(h:bU s)(g:bU t)(hl:s.length=t.length):bcL s≤bcL (orL s t)∧(orL s t≠s→bcL s<bcL (orL s t)):=by
 induction s generalizing t with
 | nil=>cases t with
  | nil=>exact⟨Nat.le_refl _,fun e=>absurd rfl e⟩
  | cons=>simp at hl
 | cons x s ih=>cases t with
  | nil=>simp at hl
  | cons y t=>
   obtain⟨h1,h2⟩:=bFv h.cons.1 g.cons.1
   obtain⟨h3,h4⟩:=ih h.cons.2 g.cons.2 (by simpa using hl)
   have e:orL (x :: s) (y :: t)=(x ||| y) :: orL s t:=rfl
   rw[e]
   simp only[bcL]
   refine⟨by omega,fun hne=>?_⟩
   by_cases ex:x ||| y=x
   ·have:=h4 (fun es=>hne (by rw[ex,es]))
    omega
   ·have:=h2 ex
    omega
def pk:List Nat→Nat
 | []=>0
 | x :: s=>x+16*pk s
theorem aNn {s:List Nat}(h:∀ x,x ∈ s→x<16):pk s<16 ^ s.length:=by
 induction s with
 | nil=>simp[pk]
 | cons x s ih=>
  have h1:=h x (by simp)
  have h2:=ih (fun y hy=>h y (by simp[hy]))
  simp only[pk,List.length_cons,Nat.pow_succ]
  omega
theorem uL (s t:List Nat):pk (s++t)=pk s+16 ^ s.length*pk t:=by
 induction s with
 | nil=>simp[pk]
 | cons x s ih=>
  simp only[List.cons_append,pk,ih,List.length_cons,Nat.pow_succ]
  rw[Nat.mul_add,← Nat.mul_assoc,Nat.mul_comm 16 (16 ^ s.length)]
  omega
theorem aBi (n:Nat):16 ^ n=2 ^ (4*n):=by
 rw[show (16:Nat)=2 ^ 4 from rfl,← Nat.pow_mul]
theorem aXt {s:List Nat}{x:Nat} (h:∀ y,y ∈ s→y<16):pk s ||| (x <<< (4*s.length))=pk (s++[x]):=by
 have hl:=aNn h
 rw[aBi] at hl
 rw[uL,aBi]
 simp only[pk,Nat.mul_zero,Nat.add_zero]
 rw[Nat.or_comm,Nat.shiftLeft_eq,Nat.mul_comm x,← Nat.two_pow_add_eq_or_of_lt hl]
 omega
theorem bBl {s:List Nat}{x:Nat} (h:∀ y,y ∈ s→y<16) (hx:x<16):(pk (s++[x])) >>> (4*s.length) % 16=x:=by
 have hl:=aNn h
 rw[aBi] at hl
 rw[uL,aBi,Nat.shiftRight_eq_div_pow]
 simp only[pk,Nat.mul_zero,Nat.add_zero]
 rw[Nat.add_mul_div_left _ _ (Nat.two_pow_pos _),Nat.div_eq_of_lt hl]
 omega
theorem bEt {s t:List Nat}(h:∀ y,y ∈ s→y<16)(g:∀ y,y ∈ t→y<16)(hl:s.length=t.length):pk s ||| pk t=pk (orL s t):=by
 induction s generalizing t with
 | nil=>cases t with
  | nil=>rfl
  | cons=>simp at hl
 | cons x s ih=>cases t with
  | nil=>simp at hl
  | cons y t=>
   have hx:x<2 ^ 4:=h x (by simp)
   have hy:y<2 ^ 4:=g y (by simp)
   have:=ih (t:=t) (fun z hz=>h z (by simp[hz])) (fun z hz=>g z (by simp[hz])) (by simpa using hl)
   have e:pk (orL (x :: s) (y :: t))=(x ||| y)+16*pk (orL s t):=rfl
   rw[e,← this]
   simp only[pk]
   have hxy:x ||| y<2 ^ 4:=Nat.or_lt_two_pow hx hy
   rw[show 16=2 ^ 4 from rfl,Nat.add_comm x,Nat.add_comm y,Nat.add_comm (x ||| y)]
   rw[Nat.two_pow_add_eq_or_of_lt hx,Nat.two_pow_add_eq_or_of_lt hy,Nat.two_pow_add_eq_or_of_lt hxy]
   apply Nat.eq_of_testBit_eq
   intro i
   simp only[Nat.testBit_or,Nat.testBit_two_pow_mul]
   cases decide (4≤i) <;> simp[Bool.or_comm,Bool.or_left_comm,Bool.or_assoc]
theorem bBm {s t:List Nat}(h:∀ y,y ∈ s→y<16)(g:∀ y,y ∈ t→y<16)(hl:s.length=t.length)(e:pk s=pk t):s=t:=by
 induction s generalizing t with
 | nil=>cases t with
  | nil=>rfl
  | cons=>simp at hl
 | cons x s ih=>cases t with
  | nil=>simp at hl
  | cons y t=>
   have hx:=h x (by simp)
   have hy:=g y (by simp)
   simp only[pk] at e
   have e1:x=y:=by omega
   have e2:pk s=pk t:=by omega
   rw[e1,ih (t:=t) (fun z hz=>h z (by simp[hz])) (fun z hz=>g z (by simp[hz])) (by simpa using hl) e2]
def abG (G:List (Option (List Nat))):List (Option (List UInt8)):=G.map (Option.map abL)
theorem mP (G:List (Option (List Nat))):(abG G).length=G.length:=by simp[abG]
theorem qL (G:List (Option (List Nat)))(i:Nat):(abG G)[i]?=(G[i]?).map (Option.map abL):=by simp[abG]
theorem eM {G:List (Option (List Nat))}{i:Nat}{s:List Nat} (h:G[i]?=some (some s)):(abG G)[i]?=some (some (abL s)):=by
 rw[qL,h];rfl
theorem aJt {G:List (Option (List Nat))}{i:Nat}{t:List UInt8} (h:(abG G)[i]?=some (some t)):∃ s,G[i]?=some (some s)∧t=abL s:=by
 rw[qL] at h
 cases hg:G[i]? with
 | none=>rw[hg] at h;cases h
 | some x=>
  rw[hg] at h
  cases x with
  | none=>simp at h
  | some s=>
   simp only[Option.map_some,Option.some.injEq] at h
   exact⟨s,rfl,h.symm⟩
theorem aOo (G:List (Option (List Nat)))(i:Nat)(s:List Nat):abG (G.set i (some s))=(abG G).set i (some (abL s)):=by
 simp[abG,List.map_set]
def aCj (G:List (Option (List Nat))):Prop:=∀ (i:Nat) s,G[i]?=some (some s)→bU s
theorem aCj.set {G:List (Option (List Nat))}(h:aCj G){i:Nat}{s:List Nat} (hs:bU s):aCj (G.set i (some s)):=by
 intro j t hj
 rw[List.getElem?_set] at hj
 split at hj
 ·split at hj
  ·simp only[Option.some.injEq] at hj
   subst hj
   exact hs
  ·cases hj
 ·exact h j t hj
theorem aSp {G:List (Option (List Nat))}{i:Nat}{s:List Nat} (h:G[i]?=some none):abG (G.set i (some s))=laid (abG G) i (abL s):=by
 rw[aOo]
 unfold laid
 rw[qL,h]
 rfl
theorem aWt {G:List (Option (List Nat))}{i:Nat}{s t:List Nat} (h:G[i]?=some (some t)) (ht:bU t) (hs:bU s):abG (G.set i (some (orL t s)))=laid (abG G) i (abL s):=by
 rw[aOo,aWs ht hs]
 unfold laid
 rw[eM h]
theorem aIm {G:List (Option (List Nat))}{i:Nat}{s t:List Nat} (h:G[i]?=some (some t)) (ht:bU t) (hs:bU s) (hl:t.length=s.length) (e:orL t s=t):Has (abG G) i (abL s):=by
 refine⟨abL t,eM h,?_⟩
 have h1:leS (abL s) (lQ (abL t) (abL s)):=yY (by rw[cR,cR,hl])
 rw[← aWs ht hs,e] at h1
 exact h1
def O8:Option (List Nat)→Nat
 | none=>4000
 | some st=>3*st.length-bcL st
def lA (G:List (Option (List Nat))):Nat:=(G.map O8).sum
theorem aBr {G:List (Option (List Nat))}{i:Nat}{x y:Option (List Nat)} (hx:G[i]?=some x) (h:O8 y<O8 x):lA (G.set i y)<lA G:=by
 induction G generalizing i with
 | nil=>simp at hx
 | cons a G ih=>
  cases i with
  | zero=>
   simp only[List.getElem?_cons_zero,Option.some.injEq] at hx
   subst hx
   simp only[lA,List.set_cons_zero,List.map_cons,List.sum_cons]
   omega
  | succ i=>
   simp only[List.getElem?_cons_succ] at hx
   have:=ih hx
   simp only[lA,List.set_cons_succ,List.map_cons,List.sum_cons] at this ⊢
   omega
theorem aHy {G:List (Option (List Nat))}{i:Nat}{s:List Nat} (h:G[i]?=some none) (hs:s.length≤1024):lA (G.set i (some s))<lA G:=by
 refine aBr h ?_
 simp only[O8]
 omega
theorem aLh {G:List (Option (List Nat))}{i:Nat}{s t:List Nat} (h:G[i]?=some (some t)) (ht:bU t) (hs:bU s) (hl:t.length=s.length) (hne:orL t s≠t):lA (G.set i (some (orL t s)))<lA G:=by
 refine aBr h ?_
 simp only[O8]
 have h1:=(bDd ht hs hl).2 hne
 have h2:=bDe (orL t s)
 have h3:=N5 hl
 omega
end Flow
end Go.Proofs.YtgpamchpeamnfaaGreatDoor
