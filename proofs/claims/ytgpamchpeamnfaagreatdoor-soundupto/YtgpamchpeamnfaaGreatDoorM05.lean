/-
  Texts Vj Vk Vl Vm Vn If Il.
-/
import Derived.Test.YtgpamchpeamnfaaGreatDoorMA
import Derived.Test.YtgpamchpeamnfaaGreatDoorM00
import Derived.Test.YtgpamchpeamnfaaGreatDoorM01
import Derived.Test.YtgpamchpeamnfaaGreatDoorM04
import Derived.Test.YtgpamchpeamnfaaGreatDoorM03
set_option linter.unusedSimpArgs false
set_option linter.unusedVariables false
set_option maxRecDepth 100000
set_option maxHeartbeats 40000000
open _root_.Go.Proofs.Tryz
namespace Go.Proofs.YtgpamchpeamnfaaGreatDoor
namespace Flow
open Wire
def dH:List Nat:=[1,2,0,3,3,4,4,0,0,0,0,5,5,5,5,5,5,7,0,0,0,0,0,0,0,0,0,0,0,0,0,0,0,0,0,6,6,6,5,0,0,0,0,0,8,0,0,0,7,7,9,0,0,0]
def eZ (m:Mo) (locs:Nat) (sort:Nat):Nat:=
 if sort=1 then 2000000001 else if sort=2 then m.texts.length else if sort=3 then locs else if sort=4 then m.globs.toNat
 else if sort=5 then m.arrs.toNat else if sort=6 then m.pats.length else if sort=8 then 1001 else if sort=9 then m.fns.length else 34359738368
def low (sort:Nat):Nat:=if sort=8 then 1 else if sort=9 then 3 else 0
def nF (m:Mo) (locs:Nat) (sort n:Nat):Bool:=decide (low sort≤n) && decide (n<eZ m locs sort)
def jC (f op:Nat):Bool:=decide (op<54) && !(decide (op=51) && decide (f<3)) && !(decide (op=52) && decide (3≤f))
def eX (m:Mo) (locs:Nat) (c:List UInt8) (sort i:Nat):Option (Nat × Nat):=
 match num (c.drop i) with
 | none=>none
 | some (n,r)=>if nF m locs sort n=true then some (n,c.length-r.length) else none
def bH (m:Mo) (f locs:Nat) (c:List UInt8) (i:Nat):Nat ⊕ Stp:=
 if jC f (c.getD i 0).toNat=true then
  if dH.getD (c.getD i 0).toNat 0=0 then .inr ⟨i,i+1,(c.getD i 0).toNat,0,0⟩
  else match eX m locs c (dH.getD (c.getD i 0).toNat 0) (i+1) with
   | none=>.inl 10
   | some (n,j)=>
    if (c.getD i 0).toNat=38 then
     match eX m locs c 6 j with
     | none=>.inl 10
     | some (n2,k)=>.inr ⟨i,k,(c.getD i 0).toNat,n,n2⟩
    else .inr ⟨i,j,(c.getD i 0).toNat,n,0⟩
 else .inl 9
theorem xV (f:Nat)(first:Bool)(l:List UInt8)(n:Nat)(r:List UInt8)(h:qR f first l=some (n,r)):r.length<l.length:=by
 induction f generalizing first l n r with
 | zero=>simp[qR] at h
 | succ f ih=>
  cases l with
  | nil=>simp[qR] at h
  | cons c l=>
   simp only[qR] at h
   split at h
   ·split at h
    ·cases h
    ·simp only[Option.some.injEq,Prod.mk.injEq] at h
     obtain⟨-,rfl⟩:=h
     simp
   ·cases hq:qR f false l with
    | none=>rw[hq] at h;simp at h
    | some p=>
     rw[hq] at h
     simp only[Option.map_some,Option.some.injEq,Prod.mk.injEq] at h
     obtain⟨-,rfl⟩:=h
     have:=ih false l p.1 p.2 hq
     simp only[List.length_cons]
     omega
theorem kC {m:Mo}{locs:Nat}{c:List UInt8}{sort i n j:Nat} (h:eX m locs c sort i=some (n,j)):i<j∧j≤c.length∧nF m locs sort n=true:=by
 unfold eX at h
 split at h
 ·cases h
 ·rename_i n' r hn
  split at h
  ·rename_i hf
   simp only[Option.some.injEq,Prod.mk.injEq] at h
   obtain⟨rfl,rfl⟩:=h
   have:=xV 5 true _ _ _ hn
   rw[List.length_drop] at this
   exact⟨by omega,by omega,hf⟩
  ·cases h
theorem cW {m:Mo}{f locs:Nat}{c:List UInt8}{i:Nat}{s:Stp} (hi:i<c.length) (h:bH m f locs c i=.inr s) :
  s.pl=i∧i<s.nx∧s.nx≤c.length∧s.op=(c.getD i 0).toNat∧jC f s.op=true:=by
 unfold bH at h
 split at h
 ·rename_i hm
  split at h
  ·simp only[Sum.inr.injEq] at h
   subst h
   exact⟨rfl,by simp,by simp;omega,rfl,hm⟩
  ·split at h
   ·cases h
   ·rename_i n j hop
    have h1:=kC hop
    split at h
    ·split at h
     ·cases h
     ·rename_i n2 k hop2
      have h2:=kC hop2
      simp only[Sum.inr.injEq] at h
      subst h
      exact⟨rfl,by simp;omega,by simp;omega,rfl,hm⟩
    ·simp only[Sum.inr.injEq] at h
     subst h
     exact⟨rfl,by simp;omega,by simp;omega,rfl,hm⟩
 ·cases h
theorem pG {f op:Nat}(h:jC f op=true):op<54:=by
 unfold jC at h
 simp only[Bool.and_eq_true,decide_eq_true_eq] at h
 exact h.1.1
def dT (m:Mo) (f locs:Nat) (c:List UInt8):Nat→List Stp→Nat→Prop
 | i,[],j=>i=j
 | i,s :: l,j=>i<c.length∧bH m f locs c i=.inr s∧dT m f locs c s.nx l j
theorem dT.snoc {m:Mo}{f locs:Nat}{c:List UInt8}{i j:Nat}{l:List Stp} (h:dT m f locs c i l j) (hj:j<c.length) {s:Stp} (hs:bH m f locs c j=.inr s):dT m f locs c i (l++[s]) s.nx:=by
 induction l generalizing i with
 | nil=>
  have e:i=j:=h
  subst e
  exact⟨hj,hs,rfl⟩
 | cons a l ih=>exact⟨h.1,h.2.1,ih h.2.2⟩
theorem dT.le {m:Mo}{f locs:Nat}{c:List UInt8}{i j:Nat}{l:List Stp} (h:dT m f locs c i l j) (hi:i≤c.length):i+l.length≤j∧j≤c.length:=by
 induction l generalizing i with
 | nil=>
  have e:i=j:=h
  subst e
  exact⟨by simp,hi⟩
 | cons a l ih=>
  obtain⟨-,h1,h2,-⟩:=cW h.1 h.2.1
  obtain⟨h3,h4⟩:=ih h.2.2 h2
  exact⟨by simp only[List.length_cons];omega,h4⟩
def uC (m:Mo) (f locs:Nat) (c:List UInt8) (l:List Stp):Prop:=dT m f locs c 0 l c.length
def zO (m:Mo) (f locs:Nat) (c:List UInt8) (j e:Nat):Prop:=∃ l,dT m f locs c 0 l j∧j<c.length∧bH m f locs c j=.inl e
theorem aEq {m:Mo}{f locs:Nat}{c:List UInt8}{i:Nat}{l l':List Stp} (h:dT m f locs c i l c.length) (h':dT m f locs c i l' c.length):l=l':=by
 induction l generalizing i l' with
 | nil=>
  have e:i=c.length:=h
  cases l' with
  | nil=>rfl
  | cons a l'=>have:=h'.1;omega
 | cons a l ih=>
  cases l' with
  | nil=>
   have e:i=c.length:=h'
   have:=h.1
   omega
  | cons b l'=>
   have e:=h.2.1
   rw[h'.2.1] at e
   simp only[Sum.inr.injEq] at e
   subst e
   rw[ih h.2.2 h'.2.2]
theorem l7 {m:Mo}{f locs:Nat}{c:List UInt8}{i j j' e:Nat}{l l':List Stp} (h:dT m f locs c i l j) (hj:j<c.length) (hf:bH m f locs c j=.inl e) (h':dT m f locs c i l' j') (hj':j'=c.length∨(j'<c.length∧∃ e',bH m f locs c j'=.inl e')):l=l'∧j=j':=by
 induction l generalizing i l' with
 | nil=>
  have ei:i=j:=h
  subst ei
  cases l' with
  | nil=>exact⟨rfl,h'⟩
  | cons b l'=>
   have e:=h'.2.1
   rw[hf] at e
   cases e
 | cons a l ih=>
  cases l' with
  | nil=>
   have ei:i=j':=h'
   subst ei
   rcases hj' with q | ⟨_,e',q⟩
   ·have:=h.1;omega
   ·have e:=h.2.1
    rw[q] at e
    cases e
  | cons b l'=>
   have e:=h.2.1
   rw[h'.2.1] at e
   simp only[Sum.inr.injEq] at e
   subst e
   obtain⟨rfl,h2⟩:=ih h.2.2 h'.2.2
   exact⟨rfl,h2⟩
theorem rH {m:Mo}{f locs:Nat}{c:List UInt8}{l:List Stp}{j e:Nat} (h:uC m f locs c l) (g:zO m f locs c j e):False:=by
 obtain⟨l',h1,h2,h3⟩:=g
 have:=(l7 h1 h2 h3 h (Or.inl rfl)).2
 omega
theorem aAl {m:Mo}{f locs:Nat}{c:List UInt8}{j e j' e':Nat} (h:zO m f locs c j e) (g:zO m f locs c j' e'):j=j'∧e=e':=by
 obtain⟨l,h1,h2,h3⟩:=h
 obtain⟨l',g1,g2,g3⟩:=g
 obtain⟨-,rfl⟩:=l7 h1 h2 h3 g1 (Or.inr ⟨g2,e',g3⟩)
 rw[h3] at g3
 simp only[Sum.inl.injEq] at g3
 exact⟨rfl,g3⟩
def dE (l:List Stp):List Stp→Option Nat
 | []=>none
 | s :: r=>if far s.op=true∧dY l s.a=none then some s.pl else dE l r
def sO (par:Nat→Nat) (m:Mo) (f locs:Nat) (c:List UInt8) (p e:Nat):Prop:=
 (zO m f locs c p e)∨(∃ l,uC m f locs c l∧((∃ q,dE l l=some q∧p=q∧e=11)∨(dE l l=none∧p=0∧((Safe par l∧e=0)∨(¬ Safe par l∧e=12)))))
theorem X3 {par:Nat→Nat}{m:Mo}{f locs:Nat}{c:List UInt8}{p e p' e':Nat} (h:sO par m f locs c p e) (g:sO par m f locs c p' e'):p=p'∧e=e':=by
 rcases h with h | ⟨l,h,h2⟩
 ·rcases g with g | ⟨l',g,-⟩
  ·exact aAl h g
  ·exact (rH g h).elim
 ·rcases g with g | ⟨l',g,g2⟩
  ·exact (rH h g).elim
  ·have el:=aEq h g
   subst el
   rcases h2 with ⟨q,h3,h4,h5⟩ | ⟨h3,h4,h5⟩
   ·rcases g2 with ⟨q',g3,g4,g5⟩ | ⟨g3,g4,g5⟩
    ·rw[h3] at g3
     simp only[Option.some.injEq] at g3
     exact⟨by omega,by omega⟩
    ·rw[h3] at g3;cases g3
   ·rcases g2 with ⟨q',g3,g4,g5⟩ | ⟨g3,g4,g5⟩
    ·rw[h3] at g3;cases g3
    ·refine⟨by omega,?_⟩
     rcases h5 with ⟨a,b⟩ | ⟨a,b⟩ <;> rcases g5 with ⟨a',b'⟩ | ⟨a',b'⟩
     ·omega
     ·exact absurd a a'
     ·exact absurd a' a
     ·omega
theorem aMq {par:Nat→Nat}{m:Mo}{f locs:Nat}{c:List UInt8}{p:Nat} (h:sO par m f locs c p 0):p=0∧∃ l,uC m f locs c l∧dE l l=none∧Safe par l:=by
 rcases h with ⟨l,-,-,h⟩ | ⟨l,hr,h⟩
 ·exfalso
  unfold bH at h
  split at h
  ·split at h
   ·cases h
   ·split at h
    ·simp at h
    ·split at h
     ·split at h
      ·simp at h
      ·cases h
     ·cases h
  ·simp at h
 ·rcases h with ⟨q,-,-,h⟩ | ⟨h1,h2,h3⟩
  ·cases h
  ·rcases h3 with ⟨h3,-⟩ | ⟨-,h3⟩
   ·exact⟨h2,l,hr,h1,h3⟩
   ·cases h3
def nP:Nat→List Stp→Prop
 | _,[]=>True
 | i,s :: l=>i≤s.pl∧nP (s.pl+1) l
theorem dT.sorted {m:Mo}{f locs:Nat}{c:List UInt8}{i j:Nat}{l:List Stp} (h:dT m f locs c i l j) (hc:i≤c.length):nP i l:=by
 induction l generalizing i with
 | nil=>trivial
 | cons s l ih=>
  obtain⟨h0,h1,h2,-⟩:=cW h.1 h.2.1
  have:=ih h.2.2 h2
  refine⟨by omega,?_⟩
  have mono:∀ {a b:Nat}{l:List Stp},a≤b→nP b l→nP a l:=by
   intro a b l hab hs
   cases l with
   | nil=>trivial
   | cons x l=>exact⟨Nat.le_trans hab hs.1,hs.2⟩
  exact mono (by omega) this
theorem nP.get {i:Nat}{l:List Stp} (h:nP i l):∀ (k:Nat) (s:Stp),l[k]?=some s→i≤s.pl:=by
 induction l generalizing i with
 | nil=>intro k s hk;simp at hk
 | cons a l ih=>
  intro k s hk
  cases k with
  | zero=>
   simp only[List.getElem?_cons_zero,Option.some.injEq] at hk
   subst hk
   exact h.1
  | succ k=>
   simp only[List.getElem?_cons_succ] at hk
   have:=ih h.2 k s hk
   have:=h.1
   omega
theorem nP.lt {i:Nat}{l:List Stp} (h:nP i l):∀ (j k:Nat) (s t:Stp),j<k→l[j]?=some s→l[k]?=some t→s.pl<t.pl:=by
 induction l generalizing i with
 | nil=>intro j k s t _ hj;simp at hj
 | cons a l ih=>
  intro j k s t hjk hj hk
  cases k with
  | zero=>omega
  | succ k=>
   simp only[List.getElem?_cons_succ] at hk
   cases j with
   | zero=>
    simp only[List.getElem?_cons_zero,Option.some.injEq] at hj
    subst hj
    have:=nP.get h.2 k t hk
    omega
   | succ j=>
    simp only[List.getElem?_cons_succ] at hj
    exact ih h.2 j k s t (by omega) hj hk
theorem rK {l:List Stp}{p k:Nat} (h:dY l p=some k):∃ s,l[k]?=some s∧s.pl=p:=by
 induction l generalizing k with
 | nil=>cases h
 | cons a l ih=>
  simp only[dY] at h
  split at h
  ·rename_i e
   simp only[Option.some.injEq] at h
   subst h
   exact⟨a,rfl,e⟩
  ·cases hq:dY l p with
   | none=>rw[hq] at h;cases h
   | some q=>
    rw[hq] at h
    simp only[Option.map_some,Option.some.injEq] at h
    subst h
    exact ih hq
theorem aQd {l:List Stp}{p:Nat} (h:dY l p=none):∀ (k:Nat) (s:Stp),l[k]?=some s→s.pl≠p:=by
 induction l with
 | nil=>intro k s hk;simp at hk
 | cons a l ih=>
  simp only[dY] at h
  split at h
  ·cases h
  ·rename_i e
   have h':dY l p=none:=by
    cases hq:dY l p with
    | none=>rfl
    | some q=>rw[hq] at h;cases h
   intro k s hk
   cases k with
   | zero=>
    simp only[List.getElem?_cons_zero,Option.some.injEq] at hk
    subst hk
    exact e
   | succ k=>exact ih h' k s (by simpa using hk)
theorem aXz {i:Nat}{l:List Stp} (h:nP i l) {k p:Nat}{s:Stp} (hk:l[k]?=some s) (hp:s.pl=p):dY l p=some k:=by
 cases hq:dY l p with
 | none=>exact absurd hp (aQd hq k s hk)
 | some q=>
  obtain⟨t,ht,htp⟩:=rK hq
  rcases Nat.lt_trichotomy k q with c | c | c
  ·have:=h.lt k q s t c hk ht;omega
  ·rw[c]
  ·have:=h.lt q k t s c ht hk;omega
end Flow
namespace Flow
open Wire
theorem gU {par:Nat→Nat}{op a:Nat}{ks o r:List UInt8} (h:after par op a ks=some (o,r)) :
  ∃ top,ks=r++top∧leS top (iD par op a)∧o=r++pW op top∧o.length≤1024:=by
 unfold after at h
 split at h
 ·cases h
 ·rename_i hw
  split at h
  ·rename_i hs
   split at h
   ·rename_i hm
    simp only[Option.some.injEq,Prod.mk.injEq] at h
    obtain⟨rfl,rfl⟩:=h
    exact⟨ks.drop (ks.length-(iD par op a).length),(List.take_append_drop _ _).symm,rO.1 hs,rfl,hm⟩
   ·cases h
  ·cases h
theorem dU {t:List UInt8}{b:UInt8} (h:leS t [b]):∃ x,t=[x]∧le x b:=by
 cases t with
 | nil=>exact h.elim
 | cons x t=>cases t with
  | nil=>exact⟨x,rfl,h.1⟩
  | cons=>exact h.2.elim
theorem oC {t:List UInt8}{b c:UInt8} (h:leS t [b,c]):∃ x y,t=[x,y]∧le x b∧le y c:=by
 cases t with
 | nil=>exact h.elim
 | cons x t=>
  obtain⟨y,rfl,hy⟩:=dU h.2
  exact⟨x,y,rfl,h.1,hy⟩
theorem aQn {t:List UInt8}{b c d:UInt8} (h:leS t [b,c,d]):∃ x y z,t=[x,y,z]∧le x b∧le y c∧le z d:=by
 cases t with
 | nil=>exact h.elim
 | cons x t=>
  obtain⟨y,z,rfl,hy,hz⟩:=oC h.2
  exact⟨x,y,z,rfl,h.1,hy,hz⟩
theorem jL {t:List UInt8}(h:leS t []):t=[]:=by
 cases t with
 | nil=>rfl
 | cons=>exact h.elim
theorem aIb {t:List UInt8}{n:Nat}{b:UInt8} (h:leS t (List.replicate n b)):t.length=n∧∀ x,x ∈ t→le x b:=by
 induction n generalizing t with
 | zero=>rw[jL h];simp
 | succ n ih=>
  cases t with
  | nil=>exact h.elim
  | cons x t=>
   obtain⟨h1,h2⟩:=ih h.2
   refine⟨by simp[h1],?_⟩
   intro y hy
   rcases List.mem_cons.1 hy with rfl | hy
   ·exact h.1
   ·exact h2 y hy
def Met (x:UInt8):Prop:=x=110∨x=116∨x=97∨x=107
theorem qT {x:UInt8}(h:le x 110):x=110:=by
 rcases eL.1 h with h | h | ⟨h,-⟩
 ·exact h
 ·exact absurd h (by decide)
 ·exact absurd h (by decide)
theorem jU {x:UInt8}(h:le x 116):x=116:=by
 rcases eL.1 h with h | h | ⟨h,-⟩
 ·exact h
 ·exact absurd h (by decide)
 ·exact absurd h (by decide)
theorem aYh {x:UInt8}(h:le x 107):x=107:=by
 rcases eL.1 h with h | h | ⟨h,-⟩
 ·exact h
 ·exact absurd h (by decide)
 ·exact absurd h (by decide)
theorem lP {x:UInt8}(h:le x 97):x≠107:=by
 rcases eL.1 h with h | h | ⟨-,h,-⟩
 ·subst h;decide
 ·exact absurd h (by decide)
 ·exact h
theorem dT.behind {m:Mo}{f locs:Nat}{c:List UInt8}{i j k:Nat}{l:List Stp} (h:dT m f locs c i l j) {s t:Stp} (hs:l[k]?=some s) (ht:l[k+1]?=some t):t.pl=s.nx:=by
 induction l generalizing i k with
 | nil=>simp at hs
 | cons a l ih=>
  cases k with
  | zero=>
   simp only[List.getElem?_cons_zero,Option.some.injEq] at hs
   subst hs
   cases l with
   | nil=>simp at ht
   | cons b l=>
    simp only[Nat.zero_add,List.getElem?_cons_succ,List.getElem?_cons_zero,Option.some.injEq] at ht
    subst ht
    exact (cW h.2.2.1 h.2.2.2.1).1
  | succ k=>
   simp only[List.getElem?_cons_succ] at hs ht
   exact ih h.2.2 hs ht
theorem dT.first {m:Mo}{f locs:Nat}{c:List UInt8}{i j:Nat}{l:List Stp} (h:dT m f locs c i l j) {s:Stp} (hs:l[0]?=some s):s.pl=i:=by
 cases l with
 | nil=>simp at hs
 | cons a l=>
  simp only[List.getElem?_cons_zero,Option.some.injEq] at hs
  subst hs
  exact (cW h.1 h.2.1).1
theorem dT.decodes {m:Mo}{f locs:Nat}{c:List UInt8}{i j k:Nat}{l:List Stp} (h:dT m f locs c i l j) {s:Stp} (hs:l[k]?=some s):s.pl<c.length∧bH m f locs c s.pl=.inr s:=by
 induction l generalizing i k with
 | nil=>simp at hs
 | cons a l ih=>
  cases k with
  | zero=>
   simp only[List.getElem?_cons_zero,Option.some.injEq] at hs
   subst hs
   obtain⟨e,-⟩:=cW h.1 h.2.1
   rw[e]
   exact⟨h.1,h.2.1⟩
  | succ k=>
   simp only[List.getElem?_cons_succ] at hs
   exact ih h.2.2 hs
def aKa (l:List Stp) (G:List (Option (List UInt8))) (p:Nat) (ks:List UInt8):Prop:=
 ∃ (i:Nat) (s:Stp) (t:List UInt8),l[i]?=some s∧s.pl=p∧G[i]?=some (some t)∧leS ks t
theorem aLv {par:Nat→Nat}{m:Mo}{f locs:Nat}{c:List UInt8}{l:List Stp}{G:List (Option (List UInt8))} (hr:uC m f locs c l) (hG:Sol par l G):aKa l G 0 []:=by
 have h0:=hG.first
 have hi:0<l.length:=by
  rw[Lgs] at h0
  rw[← hG.size]
  exact h0.1
 have hs:l[0]?=some l[0]:=Lge hi
 exact⟨0,l[0],[],hs,dT.first hr hs,h0,fW []⟩
theorem aCa {par:Nat→Nat}{m:Mo}{f locs:Nat}{c:List UInt8}{l:List Stp}{G:List (Option (List UInt8))} (hr:uC m f locs c l) (hG:Sol par l G) {p:Nat}{ks:List UInt8} (h:aKa l G p ks) :
  ∃ s o r,p<c.length∧bH m f locs c p=.inr s∧s.pl=p∧after par s.op s.a ks=some (o,r) ∧
   (far s.op=true→aKa l G s.a r)∧(cS s.op=false→aKa l G s.nx o):=by
 obtain⟨i,s,t,h1,h2,h3,h4⟩:=h
 have hil:i<l.length:=by
  rw[Lgs] at h1
  exact h1.1
 obtain⟨o,r,ha,hf,hn⟩:=hG.each i hil t s h3 h1
 obtain⟨o',r',ha',hlo,hlr⟩:=X5 h4 ha
 obtain⟨hd1,hd2⟩:=dT.decodes hr h1
 rw[h2] at hd1 hd2
 refine⟨s,o',r',hd1,hd2,h2,ha',?_,?_⟩
 ·intro hfar
  obtain⟨k,hk,u,hu,hl⟩:=hf hfar
  obtain⟨s',hs',hp⟩:=rK hk
  exact⟨k,s',u,hs',hp,hu,mK hlr hl⟩
 ·intro hh
  obtain⟨u,hu,hl⟩:=hn hh
  have hi1:i+1<l.length:=by
   rw[Lgs] at hu
   rw[← hG.size]
   exact hu.1
  have hs':l[i+1]?=some l[i+1]:=Lge hi1
  exact⟨i+1,l[i+1],u,hs',dT.behind hr h1 hs',hu,mK hlo hl⟩
end Flow
namespace Mach
open Wire Flow
structure Val where
 kind:Nat
 n:Int
 s:ByteArray
def iP:ByteArray:=⟨#[]⟩
def nothing:Val:=⟨0,0,iP⟩
def whole (n:Int):Val:=⟨1,n,iP⟩
def words (s:ByteArray):Val:=⟨2,0,s⟩
def aMk (c:UInt8):Bool:=c==32 || c==9 || c==10
def bHm (c:UInt8):Bool:=decide (48≤c.toNat) && decide (c.toNat≤57)
def aGk:List UInt8→List UInt8
 | []=>[]
 | c :: l=>if aMk c=true then aGk l else c :: l
def more (n:Int) (c:UInt8):Int:=if 10*n+((c.toNat:Int)-48)>1000000000 then 1000000001 else 10*n+((c.toNat:Int)-48)
def aZe:Int→Nat→List UInt8→Int × Nat × List UInt8
 | n,k,[]=>(n,k,[])
 | n,k,c :: l=>if bHm c=true then aZe (more n c) (k+1) l else (n,k,c :: l)
def aNh:List UInt8→Bool × List UInt8
 | []=>(false,[])
 | c :: l=>if c=43 then (false,l) else if c=45 then (true,l) else (false,c :: l)
def aGs (l:List UInt8):Int × Nat × List UInt8:=
 ((if (aNh (aGk l)).1=true then -(aZe 0 0 (aNh (aGk l)).2).1 else (aZe 0 0 (aNh (aGk l)).2).1),(aZe 0 0 (aNh (aGk l)).2).2)
def aEm (n:Int):Int:=if n>1000000000 then 1000000000 else if n < -1000000000 then -1000000000 else n
def looks (s:ByteArray):Bool:=
 (aGs (bl s)).2.2.all aMk && decide (0<(aGs (bl s)).2.1) && decide (-1000000000≤(aGs (bl s)).1) && decide ((aGs (bl s)).1≤1000000000)
def aGq (s:ByteArray):Val:=if looks s=true then ⟨3,0,s⟩ else words s
def bHd (s:ByteArray):Int:=aEm (aGs (bl s)).1
def numV (v:Val):Int:=if v.kind=0 then 0 else if v.kind=1 then v.n else bHd v.s
def bCg (v:Val):Bool:=if v.kind=2 then decide (v.s.size≠0) else decide (numV v≠0)
def bFu:List UInt8→List UInt8→Int
 | [],[]=>0
 | [],_ :: _=>-1
 | _ :: _,[]=>1
 | a :: s,b :: t=>if a.toNat<b.toNat then -1 else if b.toNat<a.toNat then 1 else bFu s t
def cmpI (x y:Int):Int:=if x<y then -1 else if x>y then 1 else 0
def truth (b:Bool):Int:=if b=true then 1 else 0
structure Env where
 mo:Mo
 fnd:ByteArray→ByteArray→Int × Int
 swp:ByteArray→ByteArray→ByteArray→ByteArray
 spl:ByteArray→ByteArray→List ByteArray
 itoa:Int→ByteArray
 wr:Int→Int
def G7 (E:Env) (v:Val):ByteArray:=if v.kind=0 then iP else if v.kind=1 then E.itoa v.n else v.s
def bHn (E:Env) (a b:Val):Int:=
 if a.kind=2∨b.kind=2 then bFu (bl (G7 E a)) (bl (G7 E b)) else cmpI (numV a) (numV b)
def bFt (k:Nat) (c:Int):Bool:=
 if k=29 then decide (c<0) else if k=30 then decide (c≤0) else if k=31 then decide (c=0) else if k=32 then decide (c≠0) else if k=33 then decide (c>0) else decide (c ≥ 0)
def aGd (E:Env) (op:Nat) (x y:Int):Int × Nat:=
 if op=21∧y=0∨op=22∧y=0 then (0,3)
 else
  let n:=if op=18 then E.wr (x+y) else if op=19 then E.wr (x-y) else if op=20 then E.wr (x*y) else if op=21 then E.wr (x.tdiv y) else E.wr (x-E.wr (E.wr (x.tdiv y)*y))
  if n>1000000000∨n < -1000000000 then (0,4) else (n,0)
def D0 (a:Nat):Int:=if a % 2=0 then ((a / 2:Nat):Int) else -(((a+1) / 2:Nat):Int)
def S8 (a:List (ByteArray × Val)) (k:ByteArray):Bool:=a.any fun e=>decide (e.1=k)
def aYt:List (ByteArray × Val)→ByteArray→Val
 | [],_=>nothing
 | e :: a,k=>if e.1=k then e.2 else aYt a k
def yT:List (ByteArray × Val)→ByteArray→Val→List (ByteArray × Val)
 | [],k,v=>[(k,v)]
 | e :: a,k,v=>if e.1=k then (k,v) :: a else e :: yT a k v
def bAl (a:List (ByteArray × Val)) (k:ByteArray):List (ByteArray × Val):=a.filter fun e=>decide (e.1≠k)
def gJ (a:List (ByteArray × Val)):List ByteArray:=a.map Prod.fst
def sR (E:Env):Nat→List ByteArray→List (ByteArray × Val)
 | _,[]=>[]
 | i,s :: l=>(E.itoa ((i:Int)+1),aGq s) :: sR E (i+1) l
def aNw (a:List (ByteArray × Val)):List ByteArray→Option (ByteArray × List ByteArray)
 | []=>none
 | k :: l=>if S8 a k=true then some (k,l) else aNw a l
def lR:List UInt8→List UInt8→List ByteArray
 | f,[]=>if f=[] then [] else [⟨f.toArray⟩]
 | f,c :: l=>if aMk c=true then (if f=[] then lR [] l else ⟨f.toArray⟩ :: lR [] l) else lR (f++[c]) l
def cutF (s:ByteArray):List ByteArray:=lR [] (bl s)
def joinF:List ByteArray→List UInt8
 | []=>[]
 | [s]=>bl s
 | s :: t :: l=>bl s++32 :: joinF (t :: l)
def aKu (l:List ByteArray) (n:Nat) (s:ByteArray):List ByteArray:=(l++List.replicate (n-l.length) iP).set (n-1) s
structure Wd where
 recs:List ByteArray
 nr:Nat
 draws:List Int
 drawn:Nat
 rcd:ByteArray
 flds:List ByteArray
 out:ByteArray
 globs:List Val
 arrs:List (List (ByteArray × Val))
def nextR (w:Wd):Wd × Bool:=
 match w.recs[w.nr]? with
 | none=>(w,false)
 | some s=>({ w with nr:=w.nr+1,rcd:=s,flds:=cutF s },true)
def aEh (w:Wd) (n:Int):Val × Nat:=
 if n<0 then (nothing,5) else if n=0 then (aGq w.rcd,0) else if n≤(w.flds.length:Int) then (aGq (w.flds.getD (n.toNat-1) iP),0) else (nothing,0)
def mD (w:Wd) (n:Int) (s:ByteArray):Wd × Nat:=
 if n<0∨n>50 then (w,5)
 else if n=0 then ({ w with rcd:=s,flds:=cutF s },0)
 else if (joinF (aKu w.flds n.toNat s)).length>100 then (w,6)
 else ({ w with rcd:=⟨(joinF (aKu w.flds n.toNat s)).toArray⟩,flds:=aKu w.flds n.toNat s },0)
def vJ (w:Wd) (l:List ByteArray):Wd × Nat:=
 if w.out.size+(joinF l).length+1>1000 then (w,8) else ({ w with out:=⟨w.out.data++(joinF l++[10]).toArray⟩ },0)
def partL (m e:Int):Nat→List UInt8→List UInt8
 | _,[]=>[]
 | i,c :: l=>if m≤(i:Int)+1∧(i:Int)+1<e then c :: partL m e (i+1) l else partL m e (i+1) l
def Q9 (t:List UInt8):Nat→List UInt8→Nat
 | i,s=>if t.isPrefixOf s=true then i+1 else match s with
  | []=>0
  | _ :: s=>Q9 t (i+1) s
structure jY where
 list:Bool
 v:Val
 arr:Nat
 keys:List ByteArray
def cv (v:Val):jY:=⟨false,v,0,[]⟩
def c0:jY:=cv nothing
def kd (c:jY):UInt8:=if c.list=true then 107 else if c.v.kind=1 then 110 else if c.v.kind=2 then 116 else 97
structure Eff where
 w:Wd
 locs:List Val
 top:List jY
 st:Nat
 code:Int
 go:Option Nat
def Eff.put (w:Wd) (locs:List Val) (v:Val):Eff:=⟨w,locs,[cv v],0,0,none⟩
def Eff.bad (w:Wd) (locs:List Val) (st:Nat):Eff:=⟨w,locs,[],st,0,none⟩
def Eff.off (w:Wd) (locs:List Val) (st:Nat):Eff:=⟨w,locs,[],st,0,none⟩
def eff (E:Env) (w:Wd) (locs:List Val) (op a b:Nat) (top:List jY):Eff:=
 match op with
 | 0=>.put w locs (whole (D0 a))
 | 1=>.put w locs (words (E.mo.texts.getD a iP))
 | 2=>.put w locs nothing
 | 3=>.put w locs (locs.getD a nothing)
 | 4=>.off w (locs.set a (top.getD 0 c0).v) 0
 | 5=>.put w locs (w.globs.getD a nothing)
 | 6=>.off { w with globs:=w.globs.set a (top.getD 0 c0).v } locs 0
 | 7=>⟨w,locs,[cv (aEh w (top.getD 0 c0).v.n).1],(aEh w (top.getD 0 c0).v.n).2,0,none⟩
 | 8=>.off (mD w (top.getD 0 c0).v.n (G7 E (top.getD 1 c0).v)).1 locs (mD w (top.getD 0 c0).v.n (G7 E (top.getD 1 c0).v)).2
 | 9=>.put w locs (whole (w.flds.length:Int))
 | 10=>.put w locs (whole (w.nr:Int))
 | 11=>if S8 (w.arrs.getD a []) (top.getD 0 c0).v.s=true then .put w locs (aYt (w.arrs.getD a []) (top.getD 0 c0).v.s)
   else if 30≤(w.arrs.getD a []).length then .bad w locs 7
   else .put { w with arrs:=w.arrs.set a (yT (w.arrs.getD a []) (top.getD 0 c0).v.s nothing) } locs nothing
 | 12=>if S8 (w.arrs.getD a []) (top.getD 0 c0).v.s=false∧30≤(w.arrs.getD a []).length then .bad w locs 7
   else .off { w with arrs:=w.arrs.set a (yT (w.arrs.getD a []) (top.getD 0 c0).v.s (top.getD 1 c0).v) } locs 0
 | 13=>.put w locs (whole (truth (S8 (w.arrs.getD a []) (top.getD 0 c0).v.s)))
 | 14=>.off { w with arrs:=w.arrs.set a (bAl (w.arrs.getD a []) (top.getD 0 c0).v.s) } locs 0
 | 15=>.off { w with arrs:=w.arrs.set a [] } locs 0
 | 16=>⟨w,locs,[⟨true,nothing,a,gJ (w.arrs.getD a [])⟩],0,0,none⟩
 | 17=>match aNw (w.arrs.getD (top.getD 0 c0).arr []) (top.getD 0 c0).keys with
  | none=>⟨w,locs,[],0,0,some a⟩
  | some (k,l)=>⟨w,locs,[⟨true,(top.getD 0 c0).v,(top.getD 0 c0).arr,l⟩,cv (words k)],0,0,none⟩
 | 18 | 19 | 20 | 21 | 22=>⟨w,locs,[cv (whole (aGd E op (top.getD 0 c0).v.n (top.getD 1 c0).v.n).1)],(aGd E op (top.getD 0 c0).v.n (top.getD 1 c0).v.n).2,0,none⟩
 | 23=>.put w locs (whole (E.wr (-(top.getD 0 c0).v.n)))
 | 24=>.put w locs (whole (truth (decide ((top.getD 0 c0).v.n=0))))
 | 25=>if (top.getD 0 c0).v.s.size+(top.getD 1 c0).v.s.size>100 then .bad w locs 6
   else .put w locs (words ((top.getD 0 c0).v.s++(top.getD 1 c0).v.s))
 | 26=>.put w locs (whole (numV (top.getD 0 c0).v))
 | 27=>.put w locs (words (G7 E (top.getD 0 c0).v))
 | 28=>.put w locs (whole (truth (bCg (top.getD 0 c0).v)))
 | 29 | 30 | 31 | 32 | 33 | 34=>.put w locs (whole (truth (bFt op (bHn E (top.getD 0 c0).v (top.getD 1 c0).v))))
 | 35=>.put w locs (whole ((E.fnd (E.mo.pats.getD a iP) (top.getD 0 c0).v.s).1+1))
 | 36=>.put w locs (whole (if (E.fnd (E.mo.pats.getD a iP) (top.getD 0 c0).v.s).1<0 then -1 else (E.fnd (E.mo.pats.getD a iP) (top.getD 0 c0).v.s).2))
 | 37=>if (E.swp (E.mo.pats.getD a iP) (top.getD 0 c0).v.s (top.getD 1 c0).v.s).size>100 then .bad w locs 6
   else .put w locs (words (E.swp (E.mo.pats.getD a iP) (top.getD 0 c0).v.s (top.getD 1 c0).v.s))
 | 38=>if (E.spl (E.mo.pats.getD b iP) (top.getD 0 c0).v.s).length>30 then .bad w locs 7
   else .put { w with arrs:=w.arrs.set a (sR E 0 (E.spl (E.mo.pats.getD b iP) (top.getD 0 c0).v.s)) } locs (whole ((E.spl (E.mo.pats.getD b iP) (top.getD 0 c0).v.s).length:Int))
 | 39=>.put w locs (whole ((top.getD 0 c0).v.s.size:Int))
 | 40=>.put w locs (words ⟨(partL (top.getD 1 c0).v.n (E.wr ((top.getD 1 c0).v.n+(top.getD 2 c0).v.n)) 0 (bl (top.getD 0 c0).v.s)).toArray⟩)
 | 41=>.put w locs (whole (Q9 (bl (top.getD 1 c0).v.s) 0 (bl (top.getD 0 c0).v.s):Int))
 | 42=>.put (nextR w).1 locs (whole (truth (nextR w).2))
 | 43=>match w.draws[w.drawn]? with
  | none=>.put w locs (whole 0)
  | some n=>.put { w with drawn:=w.drawn+1 } locs (whole n)
 | 44=>.off (vJ w (top.map fun c=>c.v.s)).1 locs (vJ w (top.map fun c=>c.v.s)).2
 | 45=>⟨w,locs,[top.getD 0 c0,top.getD 0 c0],0,0,none⟩
 | 46=>⟨w,locs,[top.getD 1 c0,top.getD 0 c0,top.getD 1 c0],0,0,none⟩
 | 47=>.off w locs 0
 | 48=>⟨w,locs,[],0,0,some a⟩
 | 49=>⟨w,locs,[],0,0,if (top.getD 0 c0).v.n=0 then some a else none⟩
 | 53=>⟨w,locs,[],2,(top.getD 0 c0).v.n,none⟩
 | _=>.off w locs 0
end Mach
namespace Mach
open Wire Flow
end Mach
namespace Mach
open Wire Flow
structure Frm where
 f:Nat
 at_:Nat
 locs:List Val
 stk:List jY
structure St where
 w:Wd
 frs:List Frm
 st:Nat
 code:Int
 used:Nat
def T6 (m:Mo) (f:Nat):Wire.Fn:=m.fns.getD f ⟨0,0,iP⟩
def qY (m:Mo) (f:Nat):List UInt8:=bl (T6 m f).code
def lO (m:Mo) (f:Nat):Nat:=(T6 m f).locs.toNat
def bD (m:Mo) (f:Nat):Nat:=(T6 m f).params.toNat
def enter (m:Mo) (f:Nat) (args:List Val):Frm:=⟨f,0,args++List.replicate (lO m f-args.length) nothing,[]⟩
def over (m:Mo) (s:St) (f:Nat):St:=
 if f=2 then { s with st:=1 }
 else if (nextR s.w).2=true then { s with w:=(nextR s.w).1,frs:=[enter m 1 []] }
 else { s with frs:=[enter m 2 []] }
def does (E:Env) (s:St) (low:List Frm) (fr:Frm) (i:Stp) (rest top:List jY):St:=
 if i.op=50 then
  if 20<low.length+1 then { s with st:=9,used:=s.used+1 }
  else { s with used:=s.used+1,frs:=low++[⟨fr.f,i.nx,fr.locs,rest⟩,enter E.mo i.a (top.map jY.v)] }
 else if i.op=51 then
  match low.getLast? with
  | none=>s
  | some g=>{ s with used:=s.used+1,frs:=low.dropLast++[⟨g.f,g.at_,g.locs,g.stk++[cv (top.getD 0 c0).v]⟩] }
 else if i.op=52 then over E.mo { s with used:=s.used+1 } fr.f
 else if (eff E s.w fr.locs i.op i.a i.b top).st≠0 then
  { s with w:=(eff E s.w fr.locs i.op i.a i.b top).w,st:=(eff E s.w fr.locs i.op i.a i.b top).st,code:=(eff E s.w fr.locs i.op i.a i.b top).code,used:=s.used+1 }
 else
  { s with w:=(eff E s.w fr.locs i.op i.a i.b top).w,used:=s.used+1,frs:=low++[⟨fr.f,((eff E s.w fr.locs i.op i.a i.b top).go).getD i.nx,(eff E s.w fr.locs i.op i.a i.b top).locs,rest++(eff E s.w fr.locs i.op i.a i.b top).top⟩] }
structure sT (E:Env) (s:St) (low:List Frm) (fr:Frm) (i:Stp) (rest top:List jY):Prop where
 frs:s.frs=low++[fr]
 at_:fr.at_<(qY E.mo fr.f).length
 dec:bH E.mo fr.f (lO E.mo fr.f) (qY E.mo fr.f) fr.at_=.inr i
 stk:fr.stk=rest++top
 takes:leS (top.map kd) (iD (bD E.mo) i.op i.a)
 high:rest.length+(pW i.op (top.map kd)).length≤1024
def aMx (m:Mo) (f:Nat):Prop:=∃ l,uC m f (lO m f) (qY m f) l∧dE l l=none∧Flow.Safe (bD m) l
def kM (m:Mo) (f at_:Nat) (ks:List UInt8):Prop:=∃ l G,uC m f (lO m f) (qY m f) l∧Sol (bD m) l G∧aKa l G at_ ks
theorem aMx.begin {m:Mo}{f:Nat} (h:aMx m f):kM m f 0 []:=by
 obtain⟨l,h1,h2,G,h3⟩:=h
 exact⟨l,G,h1,h3,aLv h1 h3⟩
structure Inv (m:Mo) (frs:List Frm):Prop where
 some_:frs≠[]
 kinds:∀ i g,frs[i]?=some g→(i=0↔g.f<3)
 fns:∀ g ∈ frs,g.f<m.fns.length∧g.locs.length=lO m g.f
 on:∀ g,frs.getLast?=some g→kM m g.f g.at_ (g.stk.map kd)∧g.stk.length≤1024
 low:∀ g ∈ frs.dropLast,kM m g.f g.at_ (g.stk.map kd++[97])∧g.stk.length+1≤1024
end Mach
open Go.RowKit
open Wire Flow Mach
structure uA (m:Mo) (s:Stp):Prop where
 op:s.op<54
 pr:s.op=44→s.a≤1000
 ca:s.op=50→s.a<m.fns.length
 aa:s.a≤34359738368
structure aOs (m:Mo):Prop where
 n:m.fns.length≤1000
 p:∀ x ∈ m.fns,0≤x.params∧x.params≤8∧0≤x.locs∧x.locs≤1000∧x.code.size≤20000
theorem aMu (mv:Value)(m:Mo)(w:World)(s:Stp)(st:List UInt8)(hT:nQ w)(hM:eR w mv m)(hF:aOs m)(hS:uA m s)(hs:st.length≤1024) :
  Calls prog 110 #[mv,t8 s.pl s.nx s.op s.a s.b,.string (wdK st)] w fun e w'=>kS (bD m) s.op s.a st e∧Fr [] w w':=by
 obtain⟨tv,pv,fv,rfl,h1,h2,h3⟩:=hM.is
 by_cases e45:s.op=45
 ·exact aMt _ _ _ _ _ w _ _ _ _ _ _ st hT hs e45
 ·by_cases e46:s.op=46
  ·exact aEy _ _ _ _ _ w _ _ _ _ _ _ st hT hs e46
  ·by_cases e44:s.op=44
   ·exact aFa _ _ _ _ _ w _ _ _ _ _ _ st hT hs e44 (by have:=hS.pr e44;omega)
   ·by_cases e50:s.op=50
    ·have ha:=hS.ca e50
     obtain⟨a0,cap,g,off,hv,hc,hx0,hx⟩:=h3
     obtain⟨x,hxx⟩:∃ x,m.fns[s.a]?=some x:=⟨_,Lge ha⟩
     have hp:=hF.p x (List.mem_of_getElem? hxx)
     have hpar:bD m s.a=x.params.toNat:=by unfold bD T6;rw[List.getD_eq_getElem?_getD,hxx];rfl
     rw[(hx0 (by omega)).1] at hv
     refine aJs _ _ _ _ _ w _ _ _ _ _ _ st hT hs e50 g off m.fns.length cap hv ha ?_ (by rw[hpar];omega)
     rw[(hx s.a x hxx).1,hpar]
     congr 2
     omega
    ·exact aEz _ _ _ _ _ w _ _ _ _ _ _ st hT hs hS.op e44 e45 e46 e50
def vH (n:Nat):Int:=if n % 2=0 then ((n / 2:Nat):Int) else -(((n+1) / 2:Nat):Int)
theorem zX (n:Nat)(w:World)(hn:n≤34359738368):Calls prog 53 #[.int .i64 n] w fun e w'=>e=.returned (.int .i64 (vH n))∧w'=w:=by
 have h2:(n:Int).tmod 2=((n % 2:Nat):Int):=by rw[Int.tmod_eq_emod_of_nonneg (by omega)];omega
 have h3:(n:Int).tdiv 2=((n / 2:Nat):Int):=by rw[Int.tdiv_eq_ediv_of_nonneg (by omega)];omega
 have h4:((n:Int)+1).tdiv 2=(((n+1) / 2:Nat):Int):=by rw[Int.tdiv_eq_ediv_of_nonneg (by omega)];omega
 by_cases h:n % 2=0
 ·have hr:vH n=((n / 2:Nat):Int):=by unfold vH;rw[if_pos h]
  rw[hr]
  rw[h] at h2
  have hb:n / 2≤34359738368:=by omega
  generalize n / 2=q at *
  clear h h4 hr
  go_enter func53,ntmps53
  go_wp2
  go_ret
  exact⟨rfl,rfl⟩
 ·have hr:vH n = -(((n+1) / 2:Nat):Int):=by unfold vH;rw[if_neg h]
  rw[hr]
  rw[show n % 2=1 by omega] at h2
  have hb:(n+1) / 2≤34359738368:=by omega
  generalize (n+1) / 2=q at *
  clear h h3 hr
  go_enter func53,ntmps53
  go_wp2
  go_ret
  exact⟨rfl,rfl⟩
theorem sK {p:Prop}[Decidable p]{m:Mo}{locs sort n:Nat} (h:p↔low sort≤n∧n<eZ m locs sort):decide p=nF m locs sort n:=by
 unfold nF
 rw[← Bool.decide_and,decide_eq_decide]
 exact h
theorem aZd (mv:Value)(m:Mo)(w:World)(locs sort n:Nat)(hM:eR w mv m)(ho:sort=1)(hn:n<34359738368)(hl:locs≤1000000)(hz1:m.texts.length≤2000000)(hz2:m.pats.length≤2000000)(hz3:m.fns.length≤2000000)(hg:0≤m.globs∧m.globs≤2000000)(ha:0≤m.arrs∧m.arrs≤2000000) :
  Calls prog 52 #[mv,.int .i64 locs,.int .i64 sort,.int .i64 n] w fun e w'=>e=.returned (.bool (nF m locs sort n))∧Fr [] w w':=by
 obtain⟨tv,pv,fv,rfl,h1,h2,h3⟩:=hM.is
 obtain⟨ta,tc,tg,to_,rfl,tl,tha,thx⟩:=h1
 obtain⟨pa,pc,pg,po,rfl,pl,pha,phx⟩:=h2
 obtain⟨fa,fc,fg,fo,rfl,fl,fha,fhx⟩:=h3
 have f0:Hid (∀ o,Fr [] w (w.alloc o)):=fun o=>(Fr.refl [] w).alloc o
 have q1:((sort:Int)==1)=true:=by subst ho;rfl
 have HS:Hid _:=fun W:World=>zX n W (by omega)
 have hR:decide (-1000000000≤vH n∧vH n≤1000000000)=nF m locs sort n:=sK (by unfold vH;simp only[low,eZ,ho];simp only[Nat.reduceEqDiff,if_true,if_false];split <;> omega)
 rw[← hR]
 have hb:-34359738368≤vH n∧vH n≤34359738368:=by unfold vH;split <;> omega
 generalize vH n=v at *
 clear hR ho hM thx tha phx pha fhx fha
 by_cases c1:-1000000000≤v
 ·by_cases c2:v≤1000000000
  ·rw[decide_eq_true (AI c1 c2)]
   go_enter func52,ntmps52
   go_wp2_with fail
   refine (HS.out _).mono ?_
   rintro e w1 ⟨rfl,rfl⟩
   go_wp2
   go_ret
   exact⟨rfl,f0.out _⟩
  ·rw[decide_eq_false (fun h=>c2 h.2)]
   have HC:Hid (decide (v≤1000000000)=false):=decide_eq_false c2
   go_enter func52,ntmps52
   go_wp2_with fail
   refine (HS.out _).mono ?_
   rintro e w1 ⟨rfl,rfl⟩
   go_wp2
   go_ret
   refine⟨?_,f0.out _⟩
   show Ending.returned (.bool (decide (v≤1000000000)))=_
   rw[HC.out]
 ·rw[decide_eq_false (fun h=>c1 h.1)]
  go_enter func52,ntmps52
  go_wp2_with fail
  refine (HS.out _).mono ?_
  rintro e w1 ⟨rfl,rfl⟩
  go_wp2
  go_ret
  exact⟨rfl,f0.out _⟩
theorem aCb (mv:Value)(m:Mo)(w:World)(locs sort n:Nat)(hM:eR w mv m)(ho:1≤sort∧sort≤9)(hn:n<34359738368)(hl:locs≤1000000)(hz1:m.texts.length≤2000000)(hz2:m.pats.length≤2000000)(hz3:m.fns.length≤2000000)(hg:0≤m.globs∧m.globs≤2000000)(ha:0≤m.arrs∧m.arrs≤2000000) :
  Calls prog 52 #[mv,.int .i64 locs,.int .i64 sort,.int .i64 n] w fun e w'=>e=.returned (.bool (nF m locs sort n))∧Fr [] w w':=by
 rcases Nat.lt_or_ge 1 sort with h1 | h1
 ·obtain⟨tv,pv,fv,rfl,h1,h2,h3⟩:=hM.is
  obtain⟨ta,tc,tg,to_,rfl,tl,tha,thx⟩:=h1
  obtain⟨pa,pc,pg,po,rfl,pl,pha,phx⟩:=h2
  obtain⟨fa,fc,fg,fo,rfl,fl,fha,fhx⟩:=h3
  have f0:Hid (∀ o,Fr [] w (w.alloc o)):=fun o=>(Fr.refl [] w).alloc o
  clear hM thx tha phx pha fhx fha
  obtain rfl | rfl | rfl | rfl | rfl | rfl | rfl | rfl:sort=2∨sort=3∨sort=4∨sort=5∨sort=6∨sort=7∨sort=8∨sort=9:=by omega
  all_goals
   first
    | (rw[← sK (p:=n<m.texts.length) (by simp only[low,eZ];simp only[Nat.reduceEqDiff,if_true,if_false];omega)];generalize hD:decide (n<m.texts.length)=D)
    | (rw[← sK (p:=n<locs) (by simp only[low,eZ];simp only[Nat.reduceEqDiff,if_true,if_false];omega)];generalize hD:decide (n<locs)=D)
    | (rw[← sK (p:=(n:Int)<m.globs) (by simp only[low,eZ];simp only[Nat.reduceEqDiff,if_true,if_false];omega)];generalize hD:decide ((n:Int)<m.globs)=D)
    | (rw[← sK (p:=(n:Int)<m.arrs) (by simp only[low,eZ];simp only[Nat.reduceEqDiff,if_true,if_false];omega)];generalize hD:decide ((n:Int)<m.arrs)=D)
    | (rw[← sK (p:=n<m.pats.length) (by simp only[low,eZ];simp only[Nat.reduceEqDiff,if_true,if_false];omega)];generalize hD:decide (n<m.pats.length)=D)
    | rw[← sK (p:=True) ⟨fun _=>(by simp only[low,eZ];simp only[Nat.reduceEqDiff,if_true,if_false];omega),fun _=>trivial⟩,decide_true]
    | (rw[← sK (p:=(1:Int)≤(n:Int)∧(n:Int)≤1000) (by simp only[low,eZ];simp only[Nat.reduceEqDiff,if_true,if_false];omega)];by_cases c1:(1:Int)≤(n:Int) <;> by_cases c2:(n:Int)≤1000 <;> simp only[c1,c2,and_self,and_true,and_false,false_and,decide_true,decide_false])
    | (rw[← sK (p:=(3:Int)≤(n:Int)∧(n:Int)<(m.fns.length:Int)) (by simp only[low,eZ];simp only[Nat.reduceEqDiff,if_true,if_false];omega)];by_cases c1:(3:Int)≤(n:Int) <;> by_cases c2:(n:Int)<(m.fns.length:Int) <;> simp only[c1,c2,and_self,and_true,and_false,false_and,decide_true,decide_false])
  all_goals
   go_enter func52,ntmps52
   go_wp2
   go_ret
   exact⟨rfl,f0.out _⟩
 ·exact aZd mv m w locs sort n hM (by omega) hn hl hz1 hz2 hz3 hg ha
end Go.Proofs.YtgpamchpeamnfaaGreatDoor
