import Derived.PlainAid
import Derived.Test.YtlokkgajpjafmaaGreatDoorMA
set_option linter.unusedSimpArgs false
set_option linter.unusedVariables false
set_option maxRecDepth 100000
set_option maxHeartbeats 40000000
namespace Go.Proofs.YtlokkgajpjafmaaGreatDoor
namespace Wire
def kS:Nat→Nat→LB
 | 0,_=>[]
 | f+1,n=>if n<128 then [UInt8.ofNat n] else UInt8.ofNat (128+n % 128) :: kS f (n / 128)
def bM (n:Nat):LB:=kS 10 n
theorem rB (f g n:Nat)(hf:n<128 ^ f)(hg:n<128 ^ g)(h0:0<f)(h1:0<g):kS f n=kS g n:=by
 induction f generalizing g n with
 | zero=>omega
 | succ f ih=>
  cases g with
  | zero=>omega
  | succ g=>
   simp only[kS];by_cases h:n<128
   ·simp only[if_pos h]
   simp only[if_neg h];congr 1;have a:n / 128<128 ^ f:=by rw[Nat.pow_succ] at hf;omega
   have b:n / 128<128 ^ g:=by rw[Nat.pow_succ] at hg;omega
   refine ih g _ a b ?_ ?_
   ·cases f with
    | zero=>simp at a;omega
    | succ f=>omega
   cases g with
   | zero=>simp at b;omega
   | succ g=>omega
theorem aHx {n:Nat}(h:n<128):bM n=[UInt8.ofNat n]:=by simp only[bM,kS,if_pos h]
theorem aHy {n:Nat}(h:128≤n)(hb:n<128 ^ 9):bM n=UInt8.ofNat (128+n % 128) :: bM (n / 128):=by
 unfold bM;rw[kS,if_neg (by omega)];congr 1;have e:(128:Nat) ^ 9=9223372036854775808:=by decide
 exact rB 9 10 _ (by omega) (by
  have:(128:Nat) ^ 10=1180591620717411303424:=by decide
  omega) (by omega) (by omega)
def mA:Nat→Bool→LB→Option (Nat × LB)
 | 0,_,_=>none
 | _+1,_,[]=>none
 | f+1,first,c :: r=>
  if c.toNat<128 then (if c.toNat=0∧first=false then none else some (c.toNat,r))
  else (mA f false r).map fun p=>(c.toNat-128+128*p.1,p.2)
def num (l:LB):Option (Nat × LB):=mA 5 true l
theorem aEv (f:Nat)(first:Bool)(n:Nat)(r:LB)(h0:0<f)(h:n<128 ^ f)(hz:first=false→n≠0):mA f first (kS f n++r)=some (n,r):=by
 induction f generalizing first n with
 | zero=>omega
 | succ f ih=>
  rw[kS];by_cases hn:n<128
  ·rw[if_pos hn];have e:(UInt8.ofNat n).toNat=n:=by simp[UInt8.toNat_ofNat];omega
   simp only[List.cons_append,List.nil_append,mA,e,if_pos hn];rw[if_neg];rintro ⟨a,b⟩;exact hz b a
  rw[if_neg hn];have e:(UInt8.ofNat (128+n % 128)).toNat=128+n % 128:=by simp[UInt8.toNat_ofNat];omega
  have a:n / 128<128 ^ f:=by rw[Nat.pow_succ] at h;omega
  have a0:0<f:=by
   cases f with
   | zero=>simp at a;omega
   | succ f=>omega
  simp only[List.cons_append,mA,e];rw[if_neg (by omega),ih false (n / 128) a0 a (by omega)];simp only[Option.map_some];congr 2;omega
theorem aJx (f:Nat)(first:Bool)(l:LB)(n:Nat)(r:LB)(h:mA f first l=some (n,r)) :
  l=kS f n++r∧n<128 ^ f∧(first=false→n≠0)∧0<f:=by
 induction f generalizing first l n r with
 | zero=>simp[mA] at h
 | succ f ih=>
  cases l with
  | nil=>simp[mA] at h
  | cons c t=>
   rw[mA] at h;by_cases hc:c.toNat<128
   ·rw[if_pos hc] at h;by_cases hz:c.toNat=0∧first=false
    ·rw[if_pos hz] at h;simp at h
    rw[if_neg hz] at h;simp only[Option.some.injEq,Prod.mk.injEq] at h;obtain⟨rfl,rfl⟩:=h;refine⟨?_,?_,?_,by omega⟩
    ·rw[kS,if_pos hc];simp
    ·have:0<128 ^ f:=Nat.pow_pos (by omega);rw[Nat.pow_succ];omega
    intro hf h0;exact hz ⟨h0,hf⟩
   rw[if_neg hc] at h;cases hr:mA f false t with
   | none=>rw[hr] at h;simp at h
   | some p=>
    obtain⟨m,s⟩:=p;rw[hr] at h;simp only[Option.map_some,Option.some.injEq,Prod.mk.injEq] at h;obtain⟨rfl,rfl⟩:=h;obtain⟨a,b,d,e⟩:=ih false t m s hr;have hm:=d rfl;have hc2:c.toNat<256:=c.toNat_lt;refine⟨?_,?_,?_,by omega⟩
    ·rw[kS,if_neg (by omega)];have e1:(c.toNat-128+128*m) % 128=c.toNat-128:=by omega
     have e2:(c.toNat-128+128*m) / 128=m:=by omega
     rw[e1,e2,show 128+(c.toNat-128)=c.toNat by omega,a];simp
    ·rw[Nat.pow_succ];omega
    intro _;omega
theorem aWo:(128:Nat) ^ 5=34359738368:=by decide
theorem aYv:(128:Nat) ^ 9=9223372036854775808:=by decide
theorem aVp:(128:Nat) ^ 10=1180591620717411303424:=by decide
theorem aOh {n:Nat}(h:n<34359738368)(r:LB):num (bM n++r)=some (n,r):=by
 have h5:=aWo;have h10:=aVp;unfold num bM;rw[rB 10 5 n (by omega) (by omega) (by omega) (by omega)];exact aEv 5 true n r (by omega) (by omega) (by simp)
theorem aBb {l:LB}{n:Nat}{r:LB} (h:num l=some (n,r)):l=bM n++r∧n<34359738368:=by
 have h5:=aWo;have h10:=aVp;obtain⟨a,b,-,-⟩:=aJx 5 true l n r h;refine⟨?_,by omega⟩;unfold bM;rw[rB 10 5 n (by omega) (by omega) (by omega) (by omega)];exact a
def vO (s:Nat) (c:UInt8):Nat:=(257*s+c.toNat+1) % 1000003
def rV (s:Nat) (l:LB):Nat:=l.foldl vO s
def aSa (l:LB):Nat:=rV 1 l
def oM (l:LB):LB:=[UInt8.ofNat (aSa l % 256),UInt8.ofNat (aSa l / 256 % 256),UInt8.ofNat (aSa l / 65536)]
end Wire
namespace Wire
structure Fn where
 params:Int
 locs:Int
 code:BA
structure Mo where
 texts:LY
 pats:LY
 globs:Int
 arrs:Int
 fns:List Fn
def bl (s:BA):LB:=s.data.toList
theorem aO (s:BA):(bl s).length=s.size:=by
 show s.data.toList.length=s.data.size;exact Array.length_toList
theorem aDm (l:LB):bl ⟨l.toArray⟩=l:=by simp[bl]
theorem A7 (s:BA):(⟨(bl s).toArray⟩:BA)=s:=by simp[bl]
theorem aSy (l:LB):(⟨l.toArray⟩:BA).size=l.length:=by simp[ByteArray.size]
theorem aRe {s t:BA}(h:bl s=bl t):s=t:=by rw[← A7 s,← A7 t,h]
def fQ (s:BA):LB:=bM s.size++bl s
def fK (l:LY):LB:=l.flatMap fQ
def bS (l:LY):LB:=bM l.length++fK l
def fnB (f:Fn):LB:=bM f.params.toNat++(bM f.locs.toNat++fQ f.code)
def mP (l:List Fn):LB:=l.flatMap fnB
def pD (l:List Fn):LB:=bM l.length++mP l
def eB (k:Nat) (c:LB):LB:=UInt8.ofNat k :: (bM c.length++c)
def body (m:Mo):LB:=
 71 :: 76 :: 1 :: (eB 1 (bS m.texts)++(eB 2 (bS m.pats)++(eB 3 (bM m.globs.toNat)++(eB 4 (bM m.arrs.toNat)++eB 5 (pD m.fns)))))
def written (m:Mo):LB:=body m++oM (body m)
def fO (f:Fn) (i:Nat):Bool:=
 decide (0≤f.params) && decide (f.params≤8) && decide (f.params≤f.locs) && decide (f.locs≤16) && decide (f.code.size≤20000) && (decide (2<i) || decide (f.params=0))
def aS:List Fn→Nat→Bool
 | [],_=>true
 | f :: r,i=>fO f i && aS r (i+1)
def dI (ip:BA→Bool) (m:Mo):Bool:=
 decide (m.texts.length≤1000) && decide (m.pats.length≤1000) && decide (3≤m.fns.length) && decide (m.fns.length≤1000) &&
 decide (0≤m.globs) && decide (m.globs≤1000) && decide (0≤m.arrs) && decide (m.arrs≤1000) &&
 m.texts.all (fun s=>decide (s.size≤100)) && m.pats.all (fun s=>decide (s.size≤50) && ip s) && aS m.fns 0
def bnd {α β:Type} (x:(Nat × Nat) ⊕ α) (f:α→(Nat × Nat) ⊕ β):(Nat × Nat) ⊕ β:=
 match x with
 | .inl e=>.inl e
 | .inr a=>f a
def N9 (least most base:Nat) (c:LB):(Nat × Nat) ⊕ (Nat × LB):=
 match num c with
 | none=>.inl (6,base-c.length)
 | some (n,r)=>if n<least∨most<n then .inl (4,base-c.length) else .inr (n,r)
def aYc (most base:Nat) (c:LB):(Nat × Nat) ⊕ (BA × LB):=
 bnd (N9 0 most base c) fun p=>if p.2.length<p.1 then .inl (7,base-c.length) else .inr (⟨(p.2.take p.1).toArray⟩,p.2.drop p.1)
def fnR (i base:Nat) (c:LB):(Nat × Nat) ⊕ (Fn × LB):=
 bnd (N9 0 (if i<3 then 0 else 8) base c) fun p=>
 bnd (N9 p.1 16 base p.2) fun q=>
 bnd (aYc 20000 base q.2) fun s=>.inr (⟨(p.1:Int),(q.1:Int),s.1⟩,s.2)
def aXs (base:Nat):Nat→Nat→LB→(Nat × Nat) ⊕ (List Fn × LB)
 | 0,_,c=>.inr ([],c)
 | k+1,i,c=>bnd (fnR i base c) fun p=>bnd (aXs base k (i+1) p.2) fun q=>.inr (p.1 :: q.1,q.2)
end Wire
namespace Wire
theorem yJ {f:Fn}{i:Nat}:fO f i=true↔0≤f.params∧f.params≤8∧f.params≤f.locs∧f.locs≤16∧f.code.size≤20000∧(2<i∨f.params=0):=by
 unfold fO;simp only[Bool.and_eq_true,Bool.or_eq_true,decide_eq_true_eq,and_assoc]
theorem within_iff {ip:BA→Bool}{m:Mo}:dI ip m=true↔m.texts.length≤1000∧m.pats.length≤1000∧3≤m.fns.length∧m.fns.length≤1000∧0≤m.globs∧m.globs≤1000∧0≤m.arrs∧m.arrs≤1000 ∧
  (∀ s ∈ m.texts,s.size≤100)∧(∀ s ∈ m.pats,s.size≤50∧ip s=true)∧aS m.fns 0=true:=by
 unfold dI;simp only[Bool.and_eq_true,decide_eq_true_eq,List.all_eq_true,and_assoc]
theorem Z8 (k:Nat)(c:LB):(eB k c).length=1+(bM c.length).length+c.length:=by simp[eB];omega
theorem aDi (m:Mo):(body m).length=3+(eB 1 (bS m.texts)).length+(eB 2 (bS m.pats)).length+(eB 3 (bM m.globs.toNat)).length+(eB 4 (bM m.arrs.toNat)).length+(eB 5 (pD m.fns)).length:=by
 simp[body];omega
end Wire
namespace Flow
def lst (a b:UInt8):UInt8:=if a=b then a else if a=107∨b=107∨a=106∨b=106 then 106 else 97
def le (a b:UInt8):Prop:=lst a b=b
theorem dR {a b:UInt8}:le a b↔a=b∨b=106∨(b=97∧a≠107∧a≠106):=by
 unfold le lst;by_cases h:a=b
 ·simp[h]
 rw[if_neg h];by_cases hk:a=107∨b=107∨a=106∨b=106
 ·rw[if_pos hk];constructor
  ·intro e;exact Or.inr (Or.inl e.symm)
  rintro (e | e | ⟨e,h1,h2⟩)
  ·exact absurd e h
  ·exact e.symm
  subst e;rcases hk with e | e | e | e
  ·exact absurd e h1
  ·exact absurd e (by decide)
  ·exact absurd e h2
  exact absurd e (by decide)
 rw[if_neg hk];constructor
 ·intro e;exact Or.inr (Or.inr ⟨e.symm,fun x=>hk (Or.inl x),fun x=>hk (Or.inr (Or.inr (Or.inl x)))⟩)
 rintro (e | e | ⟨e,h1,h2⟩)
 ·exact absurd e h
 ·exact absurd (Or.inr (Or.inr (Or.inr e))) hk
 exact e.symm
theorem le_refl (a:UInt8):le a a:=dR.2 (Or.inl rfl)
theorem le_trans {a b c:UInt8}(h:le a b)(g:le b c):le a c:=by
 rw[dR] at *;rcases h with rfl | rfl | ⟨rfl,h1,h2⟩
 ·exact g
 ·rcases g with rfl | rfl | ⟨rfl,g1,g2⟩
  ·exact Or.inr (Or.inl rfl)
  ·exact Or.inr (Or.inl rfl)
  exact absurd rfl g2
 rcases g with rfl | rfl | ⟨rfl,g1,g2⟩
 ·exact Or.inr (Or.inr ⟨rfl,h1,h2⟩)
 ·exact Or.inr (Or.inl rfl)
 exact Or.inr (Or.inr ⟨rfl,h1,h2⟩)
theorem aBk {a b:UInt8}(h:le a b)(g:le b a):a=b:=by
 rw[dR] at *;rcases h with h | rfl | ⟨rfl,h1,h2⟩
 ·exact h
 ·rcases g with g | g | ⟨_,g1,g2⟩
  ·exact g.symm
  ·exact g
  exact absurd rfl g2
 rcases g with g | g | ⟨g,g1,g2⟩
 ·exact g.symm
 ·exact absurd g h2
 exact g
theorem aBg (a b:UInt8):lst a b=lst b a:=by
 unfold lst;by_cases h:a=b
 ·rw[if_pos h,if_pos h.symm,h]
 rw[if_neg h,if_neg (show ¬ b=a from fun e=>h e.symm)];by_cases hk:a=107∨b=107∨a=106∨b=106
 ·rw[if_pos hk,if_pos (by rcases hk with e | e | e | e <;> simp[e])]
 rw[if_neg hk,if_neg (fun e=>hk (by rcases e with e | e | e | e <;> simp[e]))]
theorem aOv (a b:UInt8):le a (lst a b):=by
 rw[dR];unfold lst;by_cases h:a=b
 ·rw[if_pos h];exact Or.inl rfl
 rw[if_neg h];by_cases hk:a=107∨b=107∨a=106∨b=106
 ·rw[if_pos hk];exact Or.inr (Or.inl rfl)
 rw[if_neg hk];exact Or.inr (Or.inr ⟨rfl,fun x=>hk (Or.inl x),fun x=>hk (Or.inr (Or.inr (Or.inl x)))⟩)
theorem aTd (a b:UInt8):le b (lst a b):=by rw[aBg];exact aOv b a
theorem aWw {a b c:UInt8}(h:le a c)(g:le b c):le (lst a b) c:=by
 by_cases e:a=b
 ·unfold lst;rw[if_pos e];exact h
 rw[dR] at h g;rcases h with rfl | rfl | ⟨rfl,h1,h2⟩
 ·have:lst b a=a:=dR.2 g;rw[aBg,this];exact le_refl a
 ·exact dR.2 (Or.inr (Or.inl rfl))
 rcases g with rfl | g | ⟨_,g1,g2⟩
 ·have:lst a 97=97:=dR.2 (Or.inr (Or.inr ⟨rfl,h1,h2⟩));rw[this];exact le_refl _
 ·exact absurd g (by decide)
 unfold lst;rw[if_neg e,if_neg]
 ·exact le_refl _
 rintro (x | x | x | x)
 ·exact h1 x
 ·exact g1 x
 ·exact h2 x
 exact g2 x
def rk (a:UInt8):Nat:=if a=106 then 2 else if a=97 then 1 else 0
def leS:LB→LB→Prop
 | [],[]=>True
 | a :: s,b :: t=>le a b∧leS s t
 | _,_=>False
def nX (s t:LB):LB:=List.zipWith lst s t
theorem eI {s t:LB}(h:leS s t):s.length=t.length:=by
 induction s generalizing t with
 | nil=>cases t with
  | nil=>rfl
  | cons=>exact h.elim
 | cons a s ih=>cases t with
  | nil=>exact h.elim
  | cons b t=>simp[ih h.2]
theorem eD (s:LB):leS s s:=by
 induction s with
 | nil=>trivial
 | cons a s ih=>exact⟨le_refl a,ih⟩
theorem iF {s t u:LB}(h:leS s t)(g:leS t u):leS s u:=by
 induction s generalizing t u with
 | nil=>cases t with
  | nil=>exact g
  | cons=>exact h.elim
 | cons a s ih=>cases t with
  | nil=>exact h.elim
  | cons b t=>cases u with
   | nil=>exact g.elim
   | cons c u=>exact⟨le_trans h.1 g.1,ih h.2 g.2⟩
theorem O7 {s t:LB}(h:leS s t)(g:leS t s):s=t:=by
 induction s generalizing t with
 | nil=>cases t with
  | nil=>rfl
  | cons=>exact h.elim
 | cons a s ih=>cases t with
  | nil=>exact h.elim
  | cons b t=>rw[aBk h.1 g.1,ih h.2 g.2]
theorem aBl {s t:LB}(h:s.length=t.length):leS s (nX s t):=by
 induction s generalizing t with
 | nil=>cases t with
  | nil=>trivial
  | cons=>simp at h
 | cons a s ih=>cases t with
  | nil=>simp at h
  | cons b t=>exact⟨aOv a b,ih (by simpa using h)⟩
theorem A9 {s t:LB}(h:s.length=t.length):leS t (nX s t):=by
 induction s generalizing t with
 | nil=>cases t with
  | nil=>trivial
  | cons=>simp at h
 | cons a s ih=>cases t with
  | nil=>simp at h
  | cons b t=>exact⟨aTd a b,ih (by simpa using h)⟩
theorem aCb {s t u:LB}(h:leS s u)(g:leS t u):leS (nX s t) u:=by
 induction s generalizing t u with
 | nil=>cases u with
  | nil=>cases t with
   | nil=>trivial
   | cons=>exact g.elim
  | cons=>exact h.elim
 | cons a s ih=>cases u with
  | nil=>exact h.elim
  | cons c u=>cases t with
   | nil=>exact g.elim
   | cons b t=>exact⟨aWw h.1 g.1,ih h.2 g.2⟩
theorem kJ {s t u v:LB}(h:leS s t)(g:leS u v):leS (s++u) (t++v):=by
 induction s generalizing t with
 | nil=>cases t with
  | nil=>exact g
  | cons=>exact h.elim
 | cons a s ih=>cases t with
  | nil=>exact h.elim
  | cons b t=>exact⟨h.1,ih h.2⟩
theorem aOw {s t:LB}(h:leS s t)(n:Nat):leS (s.take n) (t.take n):=by
 induction s generalizing t n with
 | nil=>cases t with
  | nil=>simp[leS]
  | cons=>exact h.elim
 | cons a s ih=>cases t with
  | nil=>exact h.elim
  | cons b t=>cases n with
   | zero=>trivial
   | succ n=>exact⟨h.1,ih h.2 n⟩
theorem aBm {s t:LB}(h:leS s t)(n:Nat):leS (s.drop n) (t.drop n):=by
 induction s generalizing t n with
 | nil=>cases t with
  | nil=>simp[leS]
  | cons=>exact h.elim
 | cons a s ih=>cases t with
  | nil=>exact h.elim
  | cons b t=>cases n with
   | zero=>exact h
   | succ n=>exact ih h.2 n
def rkS:LB→Nat
 | []=>0
 | a :: s=>rk a+rkS s
def nO:LB→LB→Bool
 | [],[]=>true
 | a :: s,b :: t=>decide (lst a b=b) && nO s t
 | _,_=>false
theorem fV {s t:LB}:nO s t=true↔leS s t:=by
 induction s generalizing t with
 | nil=>cases t with
  | nil=>simp[nO,leS]
  | cons=>simp[nO,leS]
 | cons a s ih=>cases t with
  | nil=>simp[nO,leS]
  | cons b t=>simp[nO,leS,ih,le]
def aMh:List (LB):=[[],[],[],[],[97],[],[97],[110],[110,97],[],[],[116],[116,97],[116],[116],[],[],[107],[110,110],[110,110],[110,110],[110,110],[110,110],[110],[110],[116,116],[97],[97],[97],[97,97],[97,97],[97,97],[97,97],[97,97],[97,97],[116],[116],[116,116],[116],[116],[116,110,110],[116,116],[],[],[],[97],[97,97],[106],[],[110],[],[97],[],[110]]
def aPs:List (LB):=[[110],[116],[97],[97],[],[97],[],[97],[],[110],[110],[97],[],[110],[],[],[107],[107,116],[110],[110],[110],[110],[110],[110],[110],[116],[110],[116],[110],[110],[110],[110],[110],[110],[110],[110],[110],[116],[110],[110],[116],[110],[110],[110],[],[],[],[],[],[],[97],[],[],[]]
def mF (par:NN) (op a:Nat):LB:=
 if op=44 then List.replicate a 116 else if op=50 then List.replicate (par a) 97 else aMh.getD op []
def sN (op:Nat) (top:LB):LB:=
 if op=45 then top++top else if op=46 then top.drop 1++top else aPs.getD op []
def after (par:NN) (op a:Nat) (st:LB):Option (LB × LB):=
 if st.length<(mF par op a).length then none
 else if nO (st.drop (st.length-(mF par op a).length)) (mF par op a)=true then
  if (st.take (st.length-(mF par op a).length)++sN op (st.drop (st.length-(mF par op a).length))).length≤1024 then
   some (st.take (st.length-(mF par op a).length)++sN op (st.drop (st.length-(mF par op a).length)),st.take (st.length-(mF par op a).length))
  else none
 else none
theorem aKr {op:Nat}{s t:LB} (h:leS s t):leS (sN op s) (sN op t):=by
 unfold sN;split
 ·exact kJ h h
 split
 ·exact kJ (aBm h 1) h
 exact eD _
theorem zC {par:NN}{op a:Nat}{s t:LB}{o r:LB} (h:leS s t) (ht:after par op a t=some (o,r)) :
  ∃ o' r',after par op a s=some (o',r')∧leS o' o∧leS r' r:=by
 have hl:=eI h;unfold after at ht ⊢;rw[hl];generalize (mF par op a)=w at *;split at ht
 ·cases ht
 ·rename_i hw
  split at ht
  ·rename_i hs
   split at ht
   ·rename_i hm
    simp only[Option.some.injEq,Prod.mk.injEq] at ht;obtain⟨rfl,rfl⟩:=ht;have hd:=aBm h (t.length-w.length);have htk:=aOw h (t.length-w.length);have hg:=kJ htk (aKr (op:=op) hd);have hs':nO (s.drop (t.length-w.length)) w=true:=fV.2 (iF hd (fV.1 hs));rw[if_neg hw,if_pos hs',if_pos (by rw[eI hg];exact hm)];exact⟨_,_,rfl,hg,htk⟩
   cases ht
  cases ht
structure Stp where
 pl:Nat
 nx:Nat
 op:Nat
 a:Nat
 b:Nat
def far (op:Nat):Bool:=op==48 || op==49 || op==17
def dS (op:Nat):Bool:=op==48 || op==51 || op==52 || op==53
def eW:List Stp→Nat→Option Nat
 | [],_=>none
 | s :: l,p=>if s.pl=p then some 0 else (eW l p).map (·+1)
def Has (G:List (Option (LB))) (i:Nat) (st:LB):Prop:=∃ t,G[i]?=some (some t)∧leS st t
def rM (par:NN) (l:List Stp) (G:List (Option (LB))) (i:Nat):Prop:=
 ∀ st s,G[i]?=some (some st)→l[i]?=some s→∃ o r,after par s.op s.a st=some (o,r) ∧
  (far s.op=true→∃ k,eW l s.a=some k∧Has G k r)∧(dS s.op=false→Has G (i+1) o)
structure Sol (par:NN) (l:List Stp) (G:List (Option (LB))):Prop where
 size:G.length=l.length
 first:G[0]?=some (some [])
 each:∀ i,i<l.length→rM par l G i
def oB (G T:List (Option (LB))):Prop:=∀ i st,G[i]?=some (some st)→Has T i st
def laid (G:List (Option (LB))) (i:Nat) (st:LB):List (Option (LB)):=
 match G[i]? with
 | some (some t)=>G.set i (some (nX t st))
 | _=>G.set i (some st)
theorem oZ (G:List (Option (LB)))(i:Nat)(st:LB):(laid G i st).length=G.length:=by
 unfold laid;split <;> simp
theorem qM {G T:List (Option (LB))}{i:Nat}{st:LB} (h:oB G T) (hs:Has T i st):oB (laid G i st) T:=by
 intro j u hj;unfold laid at hj;split at hj
 ·rename_i t ht
  rw[List.getElem?_set] at hj;split at hj
  ·rename_i e
   subst e;split at hj
   ·simp only[Option.some.injEq] at hj;subst hj;obtain⟨a,ha,hl⟩:=h i t ht;obtain⟨b,hb,hm⟩:=hs;rw[ha] at hb;simp only[Option.some.injEq] at hb;subst hb;exact⟨a,ha,aCb hl hm⟩
   cases hj
  exact h j u hj
 rw[List.getElem?_set] at hj;split at hj
 ·rename_i e
  subst e;split at hj
  ·simp only[Option.some.injEq] at hj;subst hj;exact hs
  cases hj
 exact h j u hj
theorem rQ {G T:List (Option (LB))}{i:Nat}{st t:LB} (h:oB G T) (hs:Has T i st) (ht:G[i]?=some (some t)):t.length=st.length:=by
 obtain⟨a,ha,hl⟩:=h i t ht;obtain⟨b,hb,hm⟩:=hs;rw[ha] at hb;simp only[Option.some.injEq] at hb;subst hb;rw[eI hl,eI hm]
theorem yM {G:List (Option (LB))}{i:Nat}{st:LB} (hi:i<G.length) (hh:∀ t,G[i]?=some (some t)→t.length=st.length):Has (laid G i st) i st:=by
 unfold laid;split
 ·rename_i t ht
  exact⟨nX t st,by rw[List.getElem?_set];simp[hi],A9 (hh t ht)⟩
 exact⟨st,by rw[List.getElem?_set];simp[hi],eD st⟩
theorem B7 {G:List (Option (LB))}{i:Nat}{st:LB} (h:Has G i st):laid G i st=G:=by
 obtain⟨t,ht,hl⟩:=h;have e:nX t st=t:=O7 (aCb (eD t) hl) (aBl (eI hl).symm);unfold laid;rw[ht];simp only[e];rw[Lgs] at ht;obtain⟨hi,ht⟩:=ht;rw[← ht,List.set_getElem_self]
def aZd:Option (LB)→Nat
 | none=>3000
 | some st=>2*st.length-rkS st
def left (G:List (Option (LB))):Nat:=(G.map aZd).sum
end Flow
namespace Flow
def Safe (par:NN) (l:List Stp):Prop:=∃ T,Sol par l T
structure Low (par:NN) (l:List Stp) (G:List (Option (LB))):Prop where
 size:G.length=l.length
 low:∀ T,Sol par l T→oB G T
theorem O0 (par:NN):¬ Safe par []:=by
 rintro ⟨T,h⟩;have h0:=h.first;have hz:=h.size;rw[List.length_nil,List.length_eq_zero_iff] at hz;subst hz;simp at h0
theorem aOq (par:NN)(l:List Stp):Low par l (List.replicate l.length none):=by
 refine⟨by simp,?_⟩;intro T _ i st hi;rw[List.getElem?_replicate] at hi;split at hi
 ·simp at hi
 cases hi
theorem Low.start (par:NN)(l:List Stp):Low par l (laid (List.replicate l.length none) 0 []):=by
 refine⟨by rw[oZ];simp,?_⟩;intro T hT;exact qM ((aOq par l).low T hT) ⟨[],hT.first,eD []⟩
theorem Low.says {par:NN}{l:List Stp}{G:List (Option (LB))} (h:Low par l G) {i:Nat}{st:LB}{s:Stp} (hi:G[i]?=some (some st)) (hs:l[i]?=some s)
  {T:List (Option (LB))} (hT:Sol par l T) :
  ∃ o r,after par s.op s.a st=some (o,r)∧(far s.op=true→∃ k,eW l s.a=some k∧Has T k r)∧(dS s.op=false→Has T (i+1) o):=by
 obtain⟨t,ht,hl⟩:=h.low T hT i st hi;have hil:i<l.length:=by
  rw[Lgs] at hs;exact hs.1
 obtain⟨o,r,ha,h1,h2⟩:=hT.each i hil t s ht hs;obtain⟨o',r',ha',hlo,hlr⟩:=zC hl ha;refine⟨o',r',ha',?_,?_⟩
 ·intro hf;obtain⟨k,hk,u,hu,hru⟩:=h1 hf;exact⟨k,hk,u,hu,iF hlr hru⟩
 intro hf;obtain⟨u,hu,hou⟩:=h2 hf;exact⟨u,hu,iF hlo hou⟩
theorem Low.stuck {par:NN}{l:List Stp}{G:List (Option (LB))} (h:Low par l G) {i:Nat}{st:LB}{s:Stp} (hi:G[i]?=some (some st)) (hs:l[i]?=some s)
  (ha:after par s.op s.a st=none):¬ Safe par l:=by
 rintro ⟨T,hT⟩;obtain⟨o,r,ha',-⟩:=h.says hi hs hT;rw[ha] at ha';cases ha'
theorem Low.farLow {par:NN}{l:List Stp}{G:List (Option (LB))} (h:Low par l G) {i k:Nat}{st o r:LB}{s:Stp} (hi:G[i]?=some (some st)) (hs:l[i]?=some s)
  (ha:after par s.op s.a st=some (o,r)) (hf:far s.op=true) (hk:eW l s.a=some k):Low par l (laid G k r):=by
 refine⟨by rw[oZ];exact h.size,?_⟩;intro T hT;obtain⟨o',r',ha',h1,-⟩:=h.says hi hs hT;rw[ha] at ha';simp only[Option.some.injEq,Prod.mk.injEq] at ha';obtain⟨rfl,rfl⟩:=ha';obtain⟨k',hk',hh⟩:=h1 hf;rw[hk] at hk';simp only[Option.some.injEq] at hk';subst hk';exact qM (h.low T hT) hh
theorem Low.farHigh {par:NN}{l:List Stp}{G:List (Option (LB))} (h:Low par l G) {i k:Nat}{st o r t:LB}{s:Stp} (hi:G[i]?=some (some st)) (hs:l[i]?=some s)
  (ha:after par s.op s.a st=some (o,r)) (hf:far s.op=true) (hk:eW l s.a=some k) (ht:G[k]?=some (some t)) (hne:t.length≠r.length):¬ Safe par l:=by
 rintro ⟨T,hT⟩;obtain⟨o',r',ha',h1,-⟩:=h.says hi hs hT;rw[ha] at ha';simp only[Option.some.injEq,Prod.mk.injEq] at ha';obtain⟨rfl,rfl⟩:=ha';obtain⟨k',hk',hh⟩:=h1 hf;rw[hk] at hk';simp only[Option.some.injEq] at hk';subst hk';exact hne (rQ (h.low T hT) hh ht)
theorem Low.next {par:NN}{l:List Stp}{G:List (Option (LB))} (h:Low par l G) {G':List (Option (LB))} (h':Low par l G') {i:Nat}{st o r:LB}{s:Stp} (hi:G[i]?=some (some st)) (hs:l[i]?=some s)
  (ha:after par s.op s.a st=some (o,r)) (hf:dS s.op=false):Low par l (laid G' (i+1) o):=by
 refine⟨by rw[oZ];exact h'.size,?_⟩;intro T hT;obtain⟨o',r',ha',-,h2⟩:=h.says hi hs hT;rw[ha] at ha';simp only[Option.some.injEq,Prod.mk.injEq] at ha';obtain⟨rfl,rfl⟩:=ha';exact qM (h'.low T hT) (h2 hf)
theorem Low.nextHigh {par:NN}{l:List Stp}{G:List (Option (LB))} (h:Low par l G) {G':List (Option (LB))} (h':Low par l G') {i:Nat}{st o r t:LB}{s:Stp} (hi:G[i]?=some (some st)) (hs:l[i]?=some s)
  (ha:after par s.op s.a st=some (o,r)) (hf:dS s.op=false) (ht:G'[i+1]?=some (some t)) (hne:t.length≠o.length):¬ Safe par l:=by
 rintro ⟨T,hT⟩;obtain⟨o',r',ha',-,h2⟩:=h.says hi hs hT;rw[ha] at ha';simp only[Option.some.injEq,Prod.mk.injEq] at ha';obtain⟨rfl,rfl⟩:=ha';exact hne (rQ (h'.low T hT) (h2 hf) ht)
theorem Low.nextEnd {par:NN}{l:List Stp}{G:List (Option (LB))} (h:Low par l G) {i:Nat}{st:LB}{s:Stp} (hi:G[i]?=some (some st)) (hs:l[i]?=some s)
  (hf:dS s.op=false) (he:i+1=l.length):¬ Safe par l:=by
 rintro ⟨T,hT⟩;obtain⟨o',r',ha',-,h2⟩:=h.says hi hs hT;obtain⟨u,hu,-⟩:=h2 hf;rw[Lgs] at hu;have:=hu.1;rw[hT.size] at this;omega
theorem Has.mono {G H:List (Option (LB))}{i:Nat}{st:LB} (h:Has G i st) (hu:oB G H):Has H i st:=by
 obtain⟨t,ht,hl⟩:=h;obtain⟨u,huu,hl'⟩:=hu i t ht;exact⟨u,huu,iF hl hl'⟩
theorem oB.trans {G H K:List (Option (LB))}(h:oB G H)(g:oB H K):oB G K:=
 fun i st hi=>Has.mono (h i st hi) g
theorem zQ {G:List (Option (LB))}{i:Nat}{st:LB} (hh:∀ t,G[i]?=some (some t)→t.length=st.length):oB G (laid G i st):=by
 intro j u hj;unfold laid;split
 ·rename_i t ht
  by_cases e:i=j
  ·subst e;rw[ht] at hj;simp only[Option.some.injEq] at hj;subst hj;have hi:i<G.length:=by rw[Lgs] at ht;exact ht.1
   exact⟨nX t st,by rw[List.getElem?_set];simp[hi],aBl (hh t ht)⟩
  exact⟨u,by rw[List.getElem?_set,if_neg e];exact hj,eD u⟩
 ·rename_i hn
  by_cases e:i=j
  ·subst e;exact absurd hj (hn u)
  exact⟨u,by rw[List.getElem?_set,if_neg e];exact hj,eD u⟩
theorem aFb {G:List (Option (LB))}{i j:Nat}{st:LB} (h:i≠j):(laid G i st)[j]?=G[j]?:=by
 unfold laid;split <;> rw[List.getElem?_set,if_neg h]
theorem aFd {G:List (Option (LB))}{i:Nat}{st:LB} (h0:G[0]?=some (some [])) (hi:i=0→st=[]):(laid G i st)[0]?=some (some []):=by
 by_cases e:i=0
 ·subst e;rw[hi rfl,B7 ⟨[],h0,eD []⟩];exact h0
 rw[aFb e];exact h0
theorem rM.mono {par:NN}{l:List Stp}{G H:List (Option (LB))}{i:Nat} (h:rM par l G i) (hs:H[i]?=G[i]?) (hu:oB G H):rM par l H i:=by
 intro st s hi hl;rw[hs] at hi;obtain⟨o,r,ha,h1,h2⟩:=h st s hi hl;refine⟨o,r,ha,?_,fun hf=>Has.mono (h2 hf) hu⟩;intro hf;obtain⟨k,hk,hh⟩:=h1 hf;exact⟨k,hk,Has.mono hh hu⟩
theorem rM.of_none {par:NN}{l:List Stp}{G:List (Option (LB))}{i:Nat} (h:G[i]?=some none):rM par l G i:=by
 intro st s hi;rw[h] at hi;simp at hi
theorem rM.passed {par:NN}{l:List Stp}{G:List (Option (LB))}{i:Nat}{st o r:LB}{s:Stp} (hi:G[i]?=some (some st)) (hs:l[i]?=some s)
  (ha:after par s.op s.a st=some (o,r)) (h1:far s.op=true→∃ k,eW l s.a=some k∧Has G k r) (h2:dS s.op=false→Has G (i+1) o):rM par l G i:=by
 intro st' s' hi' hs';rw[hi] at hi';rw[hs] at hs';simp only[Option.some.injEq] at hi' hs';subst hi';subst hs';exact⟨o,r,ha,h1,h2⟩
theorem L6 {par:NN}{l:List Stp}{G:List (Option (LB))} (hz:G.length=l.length) (h0:G[0]?=some (some [])) (h:∀ i,i<l.length→rM par l G i):Safe par l:=
 ⟨G,hz,h0,h⟩
end Flow
namespace Flow
open Wire
def eP:LN:=[1,2,0,3,3,4,4,0,0,0,0,5,5,5,5,5,5,7,0,0,0,0,0,0,0,0,0,0,0,0,0,0,0,0,0,6,6,6,5,0,0,0,0,0,8,0,0,0,7,7,9,0,0,0]
def dQ (m:Mo) (locs:Nat) (sort:Nat):Nat:=
 if sort=1 then 2000000001 else if sort=2 then m.texts.length else if sort=3 then locs else if sort=4 then m.globs.toNat
 else if sort=5 then m.arrs.toNat else if sort=6 then m.pats.length else if sort=8 then 1001 else if sort=9 then m.fns.length else 34359738368
def low (sort:Nat):Nat:=if sort=8 then 1 else if sort=9 then 3 else 0
def pE (m:Mo) (locs:Nat) (sort n:Nat):Bool:=decide (low sort≤n) && decide (n<dQ m locs sort)
def fT (f op:Nat):Bool:=decide (op<54) && !(decide (op=51) && decide (f<3)) && !(decide (op=52) && decide (3≤f))
def iT (m:Mo) (locs:Nat) (c:LB) (sort i:Nat):Option (Nat × Nat):=
 match num (c.drop i) with
 | none=>none
 | some (n,r)=>if pE m locs sort n=true then some (n,c.length-r.length) else none
def bH (m:Mo) (f locs:Nat) (c:LB) (i:Nat):Nat ⊕ Stp:=
 if fT f (c.getD i 0).toNat=true then
  if eP.getD (c.getD i 0).toNat 0=0 then .inr ⟨i,i+1,(c.getD i 0).toNat,0,0⟩
  else match iT m locs c (eP.getD (c.getD i 0).toNat 0) (i+1) with
   | none=>.inl 10
   | some (n,j)=>
    if (c.getD i 0).toNat=38 then
     match iT m locs c 6 j with
     | none=>.inl 10
     | some (n2,k)=>.inr ⟨i,k,(c.getD i 0).toNat,n,n2⟩
    else .inr ⟨i,j,(c.getD i 0).toNat,n,0⟩
 else .inl 9
theorem sL (f:Nat)(first:Bool)(l:LB)(n:Nat)(r:LB)(h:mA f first l=some (n,r)):r.length<l.length:=by
 induction f generalizing first l n r with
 | zero=>simp[mA] at h
 | succ f ih=>
  cases l with
  | nil=>simp[mA] at h
  | cons c l=>
   simp only[mA] at h;split at h
   ·split at h
    ·cases h
    simp only[Option.some.injEq,Prod.mk.injEq] at h;obtain⟨-,rfl⟩:=h;simp
   cases hq:mA f false l with
   | none=>rw[hq] at h;simp at h
   | some p=>
    rw[hq] at h;simp only[Option.map_some,Option.some.injEq,Prod.mk.injEq] at h;obtain⟨-,rfl⟩:=h;have:=ih false l p.1 p.2 hq;simp only[List.length_cons];omega
theorem fS {m:Mo}{locs:Nat}{c:LB}{sort i n j:Nat} (h:iT m locs c sort i=some (n,j)):i<j∧j≤c.length∧pE m locs sort n=true:=by
 unfold iT at h;split at h
 ·cases h
 ·rename_i n' r hn
  split at h
  ·rename_i hf
   simp only[Option.some.injEq,Prod.mk.injEq] at h;obtain⟨rfl,rfl⟩:=h;have:=sL 5 true _ _ _ hn;rw[List.length_drop] at this;exact⟨by omega,by omega,hf⟩
  cases h
theorem cE {m:Mo}{f locs:Nat}{c:LB}{i:Nat}{s:Stp} (hi:i<c.length) (h:bH m f locs c i=.inr s) :
  s.pl=i∧i<s.nx∧s.nx≤c.length∧s.op=(c.getD i 0).toNat∧fT f s.op=true:=by
 unfold bH at h;split at h
 ·rename_i hm
  split at h
  ·simp only[Sum.inr.injEq] at h;subst h;exact⟨rfl,by simp,by simp;omega,rfl,hm⟩
  split at h
  ·cases h
  ·rename_i n j hop
   have h1:=fS hop;split at h
   ·split at h
    ·cases h
    ·rename_i n2 k hop2
     have h2:=fS hop2;simp only[Sum.inr.injEq] at h;subst h;exact⟨rfl,by simp;omega,by simp;omega,rfl,hm⟩
   simp only[Sum.inr.injEq] at h;subst h;exact⟨rfl,by simp;omega,by simp;omega,rfl,hm⟩
 cases h
theorem oY {f op:Nat}(h:fT f op=true):op<54:=by
 unfold fT at h;simp only[Bool.and_eq_true,decide_eq_true_eq] at h;exact h.1.1
def cF (m:Mo) (f locs:Nat) (c:LB):Nat→List Stp→Nat→Prop
 | i,[],j=>i=j
 | i,s :: l,j=>i<c.length∧bH m f locs c i=.inr s∧cF m f locs c s.nx l j
theorem cF.snoc {m:Mo}{f locs:Nat}{c:LB}{i j:Nat}{l:List Stp} (h:cF m f locs c i l j) (hj:j<c.length) {s:Stp} (hs:bH m f locs c j=.inr s):cF m f locs c i (l++[s]) s.nx:=by
 induction l generalizing i with
 | nil=>
  have e:i=j:=h;subst e;exact⟨hj,hs,rfl⟩
 | cons a l ih=>exact⟨h.1,h.2.1,ih h.2.2⟩
theorem cF.le {m:Mo}{f locs:Nat}{c:LB}{i j:Nat}{l:List Stp} (h:cF m f locs c i l j) (hi:i≤c.length):i+l.length≤j∧j≤c.length:=by
 induction l generalizing i with
 | nil=>
  have e:i=j:=h;subst e;exact⟨by simp,hi⟩
 | cons a l ih=>
  obtain⟨-,h1,h2,-⟩:=cE h.1 h.2.1;obtain⟨h3,h4⟩:=ih h.2.2 h2;exact⟨by simp only[List.length_cons];omega,h4⟩
def eO (m:Mo) (f locs:Nat) (c:LB) (l:List Stp):Prop:=cF m f locs c 0 l c.length
def zJ (m:Mo) (f locs:Nat) (c:LB) (j e:Nat):Prop:=∃ l,cF m f locs c 0 l j∧j<c.length∧bH m f locs c j=.inl e
theorem jT {m:Mo}{f locs:Nat}{c:LB}{i:Nat}{l l':List Stp} (h:cF m f locs c i l c.length) (h':cF m f locs c i l' c.length):l=l':=by
 induction l generalizing i l' with
 | nil=>
  have e:i=c.length:=h;cases l' with
  | nil=>rfl
  | cons a l'=>have:=h'.1;omega
 | cons a l ih=>
  cases l' with
  | nil=>
   have e:i=c.length:=h';have:=h.1;omega
  | cons b l'=>
   have e:=h.2.1;rw[h'.2.1] at e;simp only[Sum.inr.injEq] at e;subst e;rw[ih h.2.2 h'.2.2]
theorem uW {m:Mo}{f locs:Nat}{c:LB}{i j j' e:Nat}{l l':List Stp} (h:cF m f locs c i l j) (hj:j<c.length) (hf:bH m f locs c j=.inl e) (h':cF m f locs c i l' j') (hj':j'=c.length∨(j'<c.length∧∃ e',bH m f locs c j'=.inl e')):l=l'∧j=j':=by
 induction l generalizing i l' with
 | nil=>
  have ei:i=j:=h;subst ei;cases l' with
  | nil=>exact⟨rfl,h'⟩
  | cons b l'=>
   have e:=h'.2.1;rw[hf] at e;cases e
 | cons a l ih=>
  cases l' with
  | nil=>
   have ei:i=j':=h';subst ei;rcases hj' with q | ⟨_,e',q⟩
   ·have:=h.1;omega
   have e:=h.2.1;rw[q] at e;cases e
  | cons b l'=>
   have e:=h.2.1;rw[h'.2.1] at e;simp only[Sum.inr.injEq] at e;subst e;obtain⟨rfl,h2⟩:=ih h.2.2 h'.2.2;exact⟨rfl,h2⟩
theorem iE {m:Mo}{f locs:Nat}{c:LB}{l:List Stp}{j e:Nat} (h:eO m f locs c l) (g:zJ m f locs c j e):False:=by
 obtain⟨l',h1,h2,h3⟩:=g;have:=(uW h1 h2 h3 h (Or.inl rfl)).2;omega
theorem i8 {m:Mo}{f locs:Nat}{c:LB}{j e j' e':Nat} (h:zJ m f locs c j e) (g:zJ m f locs c j' e'):j=j'∧e=e':=by
 obtain⟨l,h1,h2,h3⟩:=h;obtain⟨l',g1,g2,g3⟩:=g;obtain⟨-,rfl⟩:=uW h1 h2 h3 g1 (Or.inr ⟨g2,e',g3⟩);rw[h3] at g3;simp only[Sum.inl.injEq] at g3;exact⟨rfl,g3⟩
def eU (l:List Stp):List Stp→Option Nat
 | []=>none
 | s :: r=>if far s.op=true∧eW l s.a=none then some s.pl else eU l r
def tJ (par:NN) (m:Mo) (f locs:Nat) (c:LB) (p e:Nat):Prop:=
 (zJ m f locs c p e)∨(∃ l,eO m f locs c l∧((∃ q,eU l l=some q∧p=q∧e=11)∨(eU l l=none∧p=0∧((Safe par l∧e=0)∨(¬ Safe par l∧e=12)))))
theorem zB {par:NN}{m:Mo}{f locs:Nat}{c:LB}{p e p' e':Nat} (h:tJ par m f locs c p e) (g:tJ par m f locs c p' e'):p=p'∧e=e':=by
 rcases h with h | ⟨l,h,h2⟩
 ·rcases g with g | ⟨l',g,-⟩
  ·exact i8 h g
  exact (iE g h).elim
 rcases g with g | ⟨l',g,g2⟩
 ·exact (iE h g).elim
 have el:=jT h g;subst el;rcases h2 with ⟨q,h3,h4,h5⟩ | ⟨h3,h4,h5⟩
 ·rcases g2 with ⟨q',g3,g4,g5⟩ | ⟨g3,g4,g5⟩
  ·rw[h3] at g3;simp only[Option.some.injEq] at g3;exact⟨by omega,by omega⟩
  rw[h3] at g3;cases g3
 rcases g2 with ⟨q',g3,g4,g5⟩ | ⟨g3,g4,g5⟩
 ·rw[h3] at g3;cases g3
 refine⟨by omega,?_⟩;rcases h5 with ⟨a,b⟩ | ⟨a,b⟩ <;> rcases g5 with ⟨a',b'⟩ | ⟨a',b'⟩
 ·omega
 ·exact absurd a a'
 ·exact absurd a' a
 omega
def jC:Nat→List Stp→Prop
 | _,[]=>True
 | i,s :: l=>i≤s.pl∧jC (s.pl+1) l
theorem cF.sorted {m:Mo}{f locs:Nat}{c:LB}{i j:Nat}{l:List Stp} (h:cF m f locs c i l j) (hc:i≤c.length):jC i l:=by
 induction l generalizing i with
 | nil=>trivial
 | cons s l ih=>
  obtain⟨h0,h1,h2,-⟩:=cE h.1 h.2.1;have:=ih h.2.2 h2;refine⟨by omega,?_⟩;have mono:∀ {a b:Nat}{l:List Stp},a≤b→jC b l→jC a l:=by
   intro a b l hab hs;cases l with
   | nil=>trivial
   | cons x l=>exact⟨Nat.le_trans hab hs.1,hs.2⟩
  exact mono (by omega) this
theorem jC.get {i:Nat}{l:List Stp} (h:jC i l):∀ (k:Nat) (s:Stp),l[k]?=some s→i≤s.pl:=by
 induction l generalizing i with
 | nil=>intro k s hk;simp at hk
 | cons a l ih=>
  intro k s hk;cases k with
  | zero=>
   simp only[List.getElem?_cons_zero,Option.some.injEq] at hk;subst hk;exact h.1
  | succ k=>
   simp only[List.getElem?_cons_succ] at hk;have:=ih h.2 k s hk;have:=h.1;omega
theorem jC.lt {i:Nat}{l:List Stp} (h:jC i l):∀ (j k:Nat) (s t:Stp),j<k→l[j]?=some s→l[k]?=some t→s.pl<t.pl:=by
 induction l generalizing i with
 | nil=>intro j k s t _ hj;simp at hj
 | cons a l ih=>
  intro j k s t hjk hj hk;cases k with
  | zero=>omega
  | succ k=>
   simp only[List.getElem?_cons_succ] at hk;cases j with
   | zero=>
    simp only[List.getElem?_cons_zero,Option.some.injEq] at hj;subst hj;have:=jC.get h.2 k t hk;omega
   | succ j=>
    simp only[List.getElem?_cons_succ] at hj;exact ih h.2 j k s t (by omega) hj hk
theorem jX {l:List Stp}{p k:Nat} (h:eW l p=some k):∃ s,l[k]?=some s∧s.pl=p:=by
 induction l generalizing k with
 | nil=>cases h
 | cons a l ih=>
  simp only[eW] at h;split at h
  ·rename_i e
   simp only[Option.some.injEq] at h;subst h;exact⟨a,rfl,e⟩
  cases hq:eW l p with
  | none=>rw[hq] at h;cases h
  | some q=>
   rw[hq] at h;simp only[Option.map_some,Option.some.injEq] at h;subst h;exact ih hq
theorem aJv {l:List Stp}{p:Nat} (h:eW l p=none):∀ (k:Nat) (s:Stp),l[k]?=some s→s.pl≠p:=by
 induction l with
 | nil=>intro k s hk;simp at hk
 | cons a l ih=>
  simp only[eW] at h;split at h
  ·cases h
  ·rename_i e
   have h':eW l p=none:=by
    cases hq:eW l p with
    | none=>rfl
    | some q=>rw[hq] at h;cases h
   intro k s hk;cases k with
   | zero=>
    simp only[List.getElem?_cons_zero,Option.some.injEq] at hk;subst hk;exact e
   | succ k=>exact ih h' k s (by simpa using hk)
theorem aSt {i:Nat}{l:List Stp} (h:jC i l) {k p:Nat}{s:Stp} (hk:l[k]?=some s) (hp:s.pl=p):eW l p=some k:=by
 cases hq:eW l p with
 | none=>exact absurd hp (aJv hq k s hk)
 | some q=>
  obtain⟨t,ht,htp⟩:=jX hq;rcases Nat.lt_trichotomy k q with c | c | c
  ·have:=h.lt k q s t c hk ht;omega
  ·rw[c]
  have:=h.lt q k t s c ht hk;omega
end Flow
namespace Flow
open Wire
theorem aDu {par:NN}{op a:Nat}{ks o r:LB} (h:after par op a ks=some (o,r)) :
  ∃ top,ks=r++top∧leS top (mF par op a)∧o=r++sN op top∧o.length≤1024:=by
 unfold after at h;split at h
 ·cases h
 ·rename_i hw
  split at h
  ·rename_i hs
   split at h
   ·rename_i hm
    simp only[Option.some.injEq,Prod.mk.injEq] at h;obtain⟨rfl,rfl⟩:=h;exact⟨ks.drop (ks.length-(mF par op a).length),(List.take_append_drop _ _).symm,fV.1 hs,rfl,hm⟩
   cases h
  cases h
theorem aOu {x:UInt8}(h:le x 110):x=110:=by
 rcases dR.1 h with h | h | ⟨h,-⟩
 ·exact h
 ·exact absurd h (by decide)
 exact absurd h (by decide)
theorem aOt {x:UInt8}(h:le x 116):x=116:=by
 rcases dR.1 h with h | h | ⟨h,-⟩
 ·exact h
 ·exact absurd h (by decide)
 exact absurd h (by decide)
theorem aTe {x:UInt8}(h:le x 107):x=107:=by
 rcases dR.1 h with h | h | ⟨h,-⟩
 ·exact h
 ·exact absurd h (by decide)
 exact absurd h (by decide)
theorem aWx {x:UInt8}(h:le x 97):x≠107:=by
 rcases dR.1 h with h | h | ⟨-,h,-⟩
 ·subst h;decide
 ·exact absurd h (by decide)
 exact h
theorem cF.behind {m:Mo}{f locs:Nat}{c:LB}{i j k:Nat}{l:List Stp} (h:cF m f locs c i l j) {s t:Stp} (hs:l[k]?=some s) (ht:l[k+1]?=some t):t.pl=s.nx:=by
 induction l generalizing i k with
 | nil=>simp at hs
 | cons a l ih=>
  cases k with
  | zero=>
   simp only[List.getElem?_cons_zero,Option.some.injEq] at hs;subst hs;cases l with
   | nil=>simp at ht
   | cons b l=>
    simp only[Nat.zero_add,List.getElem?_cons_succ,List.getElem?_cons_zero,Option.some.injEq] at ht;subst ht;exact (cE h.2.2.1 h.2.2.2.1).1
  | succ k=>
   simp only[List.getElem?_cons_succ] at hs ht;exact ih h.2.2 hs ht
theorem cF.first {m:Mo}{f locs:Nat}{c:LB}{i j:Nat}{l:List Stp} (h:cF m f locs c i l j) {s:Stp} (hs:l[0]?=some s):s.pl=i:=by
 cases l with
 | nil=>simp at hs
 | cons a l=>
  simp only[List.getElem?_cons_zero,Option.some.injEq] at hs;subst hs;exact (cE h.1 h.2.1).1
theorem cF.decodes {m:Mo}{f locs:Nat}{c:LB}{i j k:Nat}{l:List Stp} (h:cF m f locs c i l j) {s:Stp} (hs:l[k]?=some s):s.pl<c.length∧bH m f locs c s.pl=.inr s:=by
 induction l generalizing i k with
 | nil=>simp at hs
 | cons a l ih=>
  cases k with
  | zero=>
   simp only[List.getElem?_cons_zero,Option.some.injEq] at hs;subst hs;obtain⟨e,-⟩:=cE h.1 h.2.1;rw[e];exact⟨h.1,h.2.1⟩
  | succ k=>
   simp only[List.getElem?_cons_succ] at hs;exact ih h.2.2 hs
def aEd (l:List Stp) (G:List (Option (LB))) (p:Nat) (ks:LB):Prop:=
 ∃ (i:Nat) (s:Stp) (t:LB),l[i]?=some s∧s.pl=p∧G[i]?=some (some t)∧leS ks t
theorem aEd.lower {l:List Stp}{G:List (Option (LB))}{p:Nat}{ks ks':LB} (h:aEd l G p ks) (hl:leS ks' ks):aEd l G p ks':=by
 obtain⟨i,s,t,h1,h2,h3,h4⟩:=h;exact⟨i,s,t,h1,h2,h3,iF hl h4⟩
theorem aFn {par:NN}{m:Mo}{f locs:Nat}{c:LB}{l:List Stp}{G:List (Option (LB))} (hr:eO m f locs c l) (hG:Sol par l G):aEd l G 0 []:=by
 have h0:=hG.first;have hi:0<l.length:=by
  rw[Lgs] at h0;rw[← hG.size];exact h0.1
 have hs:l[0]?=some l[0]:=Lge hi;exact⟨0,l[0],[],hs,cF.first hr hs,h0,eD []⟩
theorem aKy {par:NN}{m:Mo}{f locs:Nat}{c:LB}{l:List Stp}{G:List (Option (LB))} (hr:eO m f locs c l) (hG:Sol par l G) {p:Nat}{ks:LB} (h:aEd l G p ks) :
  ∃ s o r,p<c.length∧bH m f locs c p=.inr s∧s.pl=p∧after par s.op s.a ks=some (o,r) ∧
   (far s.op=true→aEd l G s.a r)∧(dS s.op=false→aEd l G s.nx o):=by
 obtain⟨i,s,t,h1,h2,h3,h4⟩:=h;have hil:i<l.length:=by
  rw[Lgs] at h1;exact h1.1
 obtain⟨o,r,ha,hf,hn⟩:=hG.each i hil t s h3 h1;obtain⟨o',r',ha',hlo,hlr⟩:=zC h4 ha;obtain⟨hd1,hd2⟩:=cF.decodes hr h1;rw[h2] at hd1 hd2;refine⟨s,o',r',hd1,hd2,h2,ha',?_,?_⟩
 ·intro hfar;obtain⟨k,hk,u,hu,hl⟩:=hf hfar;obtain⟨s',hs',hp⟩:=jX hk;exact⟨k,s',u,hs',hp,hu,iF hlr hl⟩
 intro hh;obtain⟨u,hu,hl⟩:=hn hh;have hi1:i+1<l.length:=by
  rw[Lgs] at hu;rw[← hG.size];exact hu.1
 have hs':l[i+1]?=some l[i+1]:=Lge hi1;exact⟨i+1,l[i+1],u,hs',cF.behind hr h1 hs',hu,iF hlo hl⟩
end Flow
namespace Mach
open Wire Flow
structure Val where
 kind:Nat
 n:Int
 s:BA
def cU:BA:=⟨#[]⟩
def nothing:Val:=⟨0,0,cU⟩
def whole (n:Int):Val:=⟨1,n,cU⟩
def dZ (s:BA):Val:=⟨2,0,s⟩
def fG (c:UInt8):Bool:=c==32 || c==9 || c==10
def aLm (c:UInt8):Bool:=decide (48≤c.toNat) && decide (c.toNat≤57)
def jG:LB→LB
 | []=>[]
 | c :: l=>if fG c=true then jG l else c :: l
def more (n:Int) (c:UInt8):Int:=if 10*n+((c.toNat:Int)-48)>1000000000 then 1000000001 else 10*n+((c.toNat:Int)-48)
def oJ:Int→Nat→LB→Int × Nat × LB
 | n,k,[]=>(n,k,[])
 | n,k,c :: l=>if aLm c=true then oJ (more n c) (k+1) l else (n,k,c :: l)
def oP:LB→Bool × LB
 | []=>(false,[])
 | c :: l=>if c=43 then (false,l) else if c=45 then (true,l) else (false,c :: l)
def dG (l:LB):Int × Nat × LB:=
 ((if (oP (jG l)).1=true then -(oJ 0 0 (oP (jG l)).2).1 else (oJ 0 0 (oP (jG l)).2).1),(oJ 0 0 (oP (jG l)).2).2)
def gX (n:Int):Int:=if n>1000000000 then 1000000000 else if n < -1000000000 then -1000000000 else n
def looks (s:BA):Bool:=
 (dG (bl s)).2.2.all fG && decide (0<(dG (bl s)).2.1) && decide (-1000000000≤(dG (bl s)).1) && decide ((dG (bl s)).1≤1000000000)
def dF (s:BA):Val:=if looks s=true then ⟨3,0,s⟩ else dZ s
def aOi (s:BA):Int:=gX (dG (bl s)).1
def numV (v:Val):Int:=if v.kind=0 then 0 else if v.kind=1 then v.n else aOi v.s
def pB (v:Val):Bool:=if v.kind=2 then decide (v.s.size≠0) else decide (numV v≠0)
def aUx:LB→LB→Int
 | [],[]=>0
 | [],_ :: _=>-1
 | _ :: _,[]=>1
 | a :: s,b :: t=>if a.toNat<b.toNat then -1 else if b.toNat<a.toNat then 1 else aUx s t
def cmpI (x y:Int):Int:=if x<y then -1 else if x>y then 1 else 0
def eZ (b:Bool):Int:=if b=true then 1 else 0
structure Env where
 mo:Mo
 fnd:BA→BA→Int × Int
 swp:BA→BA→BA→BA
 spl:BA→BA→LY
 itoa:Int→BA
 wr:Int→Int
def aD (E:Env) (v:Val):BA:=if v.kind=0 then cU else if v.kind=1 then E.itoa v.n else v.s
def aQm (E:Env) (a b:Val):Int:=
 if a.kind=2∨b.kind=2 then aUx (bl (aD E a)) (bl (aD E b)) else cmpI (numV a) (numV b)
def aDa (k:Nat) (c:Int):Bool:=
 if k=29 then decide (c<0) else if k=30 then decide (c≤0) else if k=31 then decide (c=0) else if k=32 then decide (c≠0) else if k=33 then decide (c>0) else decide (c ≥ 0)
def iR (E:Env) (op:Nat) (x y:Int):Int × Nat:=
 if op=21∧y=0∨op=22∧y=0 then (0,3)
 else
  let n:=if op=18 then E.wr (x+y) else if op=19 then E.wr (x-y) else if op=20 then E.wr (x*y) else if op=21 then E.wr (x.tdiv y) else E.wr (x-E.wr (E.wr (x.tdiv y)*y))
  if n>1000000000∨n < -1000000000 then (0,4) else (n,0)
def eH (a:Nat):Int:=if a % 2=0 then ((a / 2:Nat):Int) else -(((a+1) / 2:Nat):Int)
def bI (a:List (BA × Val)) (k:BA):Bool:=a.any fun e=>decide (e.1=k)
def iH:List (BA × Val)→BA→Val
 | [],_=>nothing
 | e :: a,k=>if e.1=k then e.2 else iH a k
def cT:List (BA × Val)→BA→Val→List (BA × Val)
 | [],k,v=>[(k,v)]
 | e :: a,k,v=>if e.1=k then (k,v) :: a else e :: cT a k v
def gP (a:List (BA × Val)) (k:BA):List (BA × Val):=a.filter fun e=>decide (e.1≠k)
def aM (a:List (BA × Val)):LY:=a.map Prod.fst
def cH (E:Env):Nat→LY→List (BA × Val)
 | _,[]=>[]
 | i,s :: l=>(E.itoa ((i:Int)+1),dF s) :: cH E (i+1) l
def dJ (a:List (BA × Val)):LY→Option (BA × LY)
 | []=>none
 | k :: l=>if bI a k=true then some (k,l) else dJ a l
def cJ:LB→LB→LY
 | f,[]=>if f=[] then [] else [⟨f.toArray⟩]
 | f,c :: l=>if fG c=true then (if f=[] then cJ [] l else ⟨f.toArray⟩ :: cJ [] l) else cJ (f++[c]) l
def cutF (s:BA):LY:=cJ [] (bl s)
def joinF:LY→LB
 | []=>[]
 | [s]=>bl s
 | s :: t :: l=>bl s++32 :: joinF (t :: l)
def jQ (l:LY) (n:Nat) (s:BA):LY:=(l++List.replicate (n-l.length) cU).set (n-1) s
structure Wd where
 recs:LY
 nr:Nat
 draws:List Int
 drawn:Nat
 rcd:BA
 flds:LY
 out:BA
 globs:List Val
 arrs:List (List (BA × Val))
def nextR (w:Wd):Wd × Bool:=
 match w.recs[w.nr]? with
 | none=>(w,false)
 | some s=>({ w with nr:=w.nr+1,rcd:=s,flds:=cutF s },true)
def dL (w:Wd) (n:Int):Val × Nat:=
 if n<0 then (nothing,5) else if n=0 then (dF w.rcd,0) else if n≤(w.flds.length:Int) then (dF (w.flds.getD (n.toNat-1) cU),0) else (nothing,0)
def bO (w:Wd) (n:Int) (s:BA):Wd × Nat:=
 if n<0∨n>50 then (w,5)
 else if n=0 then ({ w with rcd:=s,flds:=cutF s },0)
 else if (joinF (jQ w.flds n.toNat s)).length>100 then (w,6)
 else ({ w with rcd:=⟨(joinF (jQ w.flds n.toNat s)).toArray⟩,flds:=jQ w.flds n.toNat s },0)
def fN (w:Wd) (l:LY):Wd × Nat:=
 if w.out.size+(joinF l).length+1>1000 then (w,8) else ({ w with out:=⟨w.out.data++(joinF l++[10]).toArray⟩ },0)
def partL (m e:Int):Nat→LB→LB
 | _,[]=>[]
 | i,c :: l=>if m≤(i:Int)+1∧(i:Int)+1<e then c :: partL m e (i+1) l else partL m e (i+1) l
def kK (t:LB):Nat→LB→Nat
 | i,s=>if t.isPrefixOf s=true then i+1 else match s with
  | []=>0
  | _ :: s=>kK t (i+1) s
structure aJ where
 list:Bool
 v:Val
 arr:Nat
 keys:LY
def cv (v:Val):aJ:=⟨false,v,0,[]⟩
def c0:aJ:=cv nothing
def kd (c:aJ):UInt8:=if c.list=true then 107 else if c.v.kind=1 then 110 else if c.v.kind=2 then 116 else 97
structure Eff where
 w:Wd
 locs:List Val
 top:List aJ
 st:Nat
 code:Int
 go:Option Nat
def Eff.put (w:Wd) (locs:List Val) (v:Val):Eff:=⟨w,locs,[cv v],0,0,none⟩
def Eff.bad (w:Wd) (locs:List Val) (st:Nat):Eff:=⟨w,locs,[],st,0,none⟩
def Eff.off (w:Wd) (locs:List Val) (st:Nat):Eff:=⟨w,locs,[],st,0,none⟩
def eff (E:Env) (w:Wd) (locs:List Val) (op a b:Nat) (top:List aJ):Eff:=
 match op with
 | 0=>.put w locs (whole (eH a))
 | 1=>.put w locs (dZ (E.mo.texts.getD a cU))
 | 2=>.put w locs nothing
 | 3=>.put w locs (locs.getD a nothing)
 | 4=>.off w (locs.set a (top.getD 0 c0).v) 0
 | 5=>.put w locs (w.globs.getD a nothing)
 | 6=>.off { w with globs:=w.globs.set a (top.getD 0 c0).v } locs 0
 | 7=>⟨w,locs,[cv (dL w (top.getD 0 c0).v.n).1],(dL w (top.getD 0 c0).v.n).2,0,none⟩
 | 8=>.off (bO w (top.getD 0 c0).v.n (aD E (top.getD 1 c0).v)).1 locs (bO w (top.getD 0 c0).v.n (aD E (top.getD 1 c0).v)).2
 | 9=>.put w locs (whole (w.flds.length:Int))
 | 10=>.put w locs (whole (w.nr:Int))
 | 11=>if bI (w.arrs.getD a []) (top.getD 0 c0).v.s=true then .put w locs (iH (w.arrs.getD a []) (top.getD 0 c0).v.s)
   else if 30≤(w.arrs.getD a []).length then .bad w locs 7
   else .put { w with arrs:=w.arrs.set a (cT (w.arrs.getD a []) (top.getD 0 c0).v.s nothing) } locs nothing
 | 12=>if bI (w.arrs.getD a []) (top.getD 0 c0).v.s=false∧30≤(w.arrs.getD a []).length then .bad w locs 7
   else .off { w with arrs:=w.arrs.set a (cT (w.arrs.getD a []) (top.getD 0 c0).v.s (top.getD 1 c0).v) } locs 0
 | 13=>.put w locs (whole (eZ (bI (w.arrs.getD a []) (top.getD 0 c0).v.s)))
 | 14=>.off { w with arrs:=w.arrs.set a (gP (w.arrs.getD a []) (top.getD 0 c0).v.s) } locs 0
 | 15=>.off { w with arrs:=w.arrs.set a [] } locs 0
 | 16=>⟨w,locs,[⟨true,nothing,a,aM (w.arrs.getD a [])⟩],0,0,none⟩
 | 17=>match dJ (w.arrs.getD (top.getD 0 c0).arr []) (top.getD 0 c0).keys with
  | none=>⟨w,locs,[],0,0,some a⟩
  | some (k,l)=>⟨w,locs,[⟨true,(top.getD 0 c0).v,(top.getD 0 c0).arr,l⟩,cv (dZ k)],0,0,none⟩
 | 18 | 19 | 20 | 21 | 22=>⟨w,locs,[cv (whole (iR E op (top.getD 0 c0).v.n (top.getD 1 c0).v.n).1)],(iR E op (top.getD 0 c0).v.n (top.getD 1 c0).v.n).2,0,none⟩
 | 23=>.put w locs (whole (E.wr (-(top.getD 0 c0).v.n)))
 | 24=>.put w locs (whole (eZ (decide ((top.getD 0 c0).v.n=0))))
 | 25=>if (top.getD 0 c0).v.s.size+(top.getD 1 c0).v.s.size>100 then .bad w locs 6
   else .put w locs (dZ ((top.getD 0 c0).v.s++(top.getD 1 c0).v.s))
 | 26=>.put w locs (whole (numV (top.getD 0 c0).v))
 | 27=>.put w locs (dZ (aD E (top.getD 0 c0).v))
 | 28=>.put w locs (whole (eZ (pB (top.getD 0 c0).v)))
 | 29 | 30 | 31 | 32 | 33 | 34=>.put w locs (whole (eZ (aDa op (aQm E (top.getD 0 c0).v (top.getD 1 c0).v))))
 | 35=>.put w locs (whole ((E.fnd (E.mo.pats.getD a cU) (top.getD 0 c0).v.s).1+1))
 | 36=>.put w locs (whole (if (E.fnd (E.mo.pats.getD a cU) (top.getD 0 c0).v.s).1<0 then -1 else (E.fnd (E.mo.pats.getD a cU) (top.getD 0 c0).v.s).2))
 | 37=>if (E.swp (E.mo.pats.getD a cU) (top.getD 0 c0).v.s (top.getD 1 c0).v.s).size>100 then .bad w locs 6
   else .put w locs (dZ (E.swp (E.mo.pats.getD a cU) (top.getD 0 c0).v.s (top.getD 1 c0).v.s))
 | 38=>if (E.spl (E.mo.pats.getD b cU) (top.getD 0 c0).v.s).length>30 then .bad w locs 7
   else .put { w with arrs:=w.arrs.set a (cH E 0 (E.spl (E.mo.pats.getD b cU) (top.getD 0 c0).v.s)) } locs (whole ((E.spl (E.mo.pats.getD b cU) (top.getD 0 c0).v.s).length:Int))
 | 39=>.put w locs (whole ((top.getD 0 c0).v.s.size:Int))
 | 40=>.put w locs (dZ ⟨(partL (top.getD 1 c0).v.n (E.wr ((top.getD 1 c0).v.n+(top.getD 2 c0).v.n)) 0 (bl (top.getD 0 c0).v.s)).toArray⟩)
 | 41=>.put w locs (whole (kK (bl (top.getD 1 c0).v.s) 0 (bl (top.getD 0 c0).v.s):Int))
 | 42=>.put (nextR w).1 locs (whole (eZ (nextR w).2))
 | 43=>match w.draws[w.drawn]? with
  | none=>.put w locs (whole 0)
  | some n=>.put { w with drawn:=w.drawn+1 } locs (whole n)
 | 44=>.off (fN w (top.map fun c=>c.v.s)).1 locs (fN w (top.map fun c=>c.v.s)).2
 | 45=>⟨w,locs,[top.getD 0 c0,top.getD 0 c0],0,0,none⟩
 | 46=>⟨w,locs,[top.getD 1 c0,top.getD 0 c0,top.getD 1 c0],0,0,none⟩
 | 47=>.off w locs 0
 | 48=>⟨w,locs,[],0,0,some a⟩
 | 49=>⟨w,locs,[],0,0,if (top.getD 0 c0).v.n=0 then some a else none⟩
 | 53=>⟨w,locs,[],2,(top.getD 0 c0).v.n,none⟩
 | _=>.off w locs 0
theorem aZe (v:Val):kd (cv v)=if v.kind=1 then 110 else if v.kind=2 then 116 else 97:=rfl
theorem qX (v:Val):le (kd (cv v)) 97:=by
 rw[aZe];split
 ·exact dR.2 (Or.inr (Or.inr ⟨rfl,by decide,by decide⟩))
 split
 ·exact dR.2 (Or.inr (Or.inr ⟨rfl,by decide,by decide⟩))
 exact le_refl _
theorem aTu {c:aJ}(h:kd c=107):c.list=true:=by
 unfold kd at h;split at h
 ·assumption
 split at h
 ·exact absurd h (by decide)
 split at h
 ·exact absurd h (by decide)
 exact absurd h (by decide)
theorem aPc {c:aJ}(h:kd c=110):c.list=false∧c.v.kind=1:=by
 unfold kd at h;split at h
 ·exact absurd h (by decide)
 ·rename_i hl
  split at h
  ·rename_i hk;exact⟨by simpa using hl,hk⟩
  split at h
  ·exact absurd h (by decide)
  exact absurd h (by decide)
theorem aPb {c:aJ}(h:kd c=116):c.list=false∧c.v.kind=2:=by
 unfold kd at h;split at h
 ·exact absurd h (by decide)
 ·rename_i hl
  split at h
  ·exact absurd h (by decide)
  split at h
  ·rename_i hk;exact⟨by simpa using hl,hk⟩
  exact absurd h (by decide)
theorem aXb {c:aJ}(h:kd c≠107):c.list=false:=by
 unfold kd at h;split at h
 ·exact absurd rfl h
 ·rename_i hl;simpa using hl
end Mach
namespace Mach
open Wire Flow
theorem cC {top:List aJ}{b:UInt8} (h:leS (top.map kd) [b]):∃ c,top=[c]∧le (kd c) b:=by
 cases top with
 | nil=>exact h.elim
 | cons c t=>cases t with
  | nil=>exact⟨c,rfl,h.1⟩
  | cons=>exact h.2.elim
theorem iM {top:List aJ}{a b:UInt8} (h:leS (top.map kd) [a,b]):∃ c d,top=[c,d]∧le (kd c) a∧le (kd d) b:=by
 cases top with
 | nil=>exact h.elim
 | cons c t=>
  obtain⟨d,rfl,hd⟩:=cC h.2;exact⟨c,d,rfl,h.1,hd⟩
theorem aIq {top:List aJ}{a b e:UInt8} (h:leS (top.map kd) [a,b,e]):∃ c d f,top=[c,d,f]∧le (kd c) a∧le (kd d) b∧le (kd f) e:=by
 cases top with
 | nil=>exact h.elim
 | cons c t=>
  obtain⟨d,f,rfl,hd,hf⟩:=iM h.2;exact⟨c,d,f,rfl,h.1,hd,hf⟩
theorem aLi {E:Env}{w:Wd}{locs:List Val}{par:NN}:∀ {op a b:Nat}{top:List aJ},op<54→op≠50→op≠51→op≠52→leS (top.map kd) (mF par op a)→(eff E w locs op a b top).st=0 →
  ((eff E w locs op a b top).go=none∧dS op=false∧leS ((eff E w locs op a b top).top.map kd) (sN op (top.map kd))) ∨
  (far op=true∧(eff E w locs op a b top).go=some a∧(eff E w locs op a b top).top=[]):=by
 intro op a b top hop h50 h51 h52 hk hst
 match op,hop with
 | 0,_=>
  exact Or.inl ⟨rfl,rfl,le_refl _,trivial⟩
 | 1,_=>
  exact Or.inl ⟨rfl,rfl,le_refl _,trivial⟩
 | 2,_=>
  exact Or.inl ⟨rfl,rfl,qX _,trivial⟩
 | 3,_=>
  exact Or.inl ⟨rfl,rfl,qX _,trivial⟩
 | 4,_=>
  exact Or.inl ⟨rfl,rfl,trivial⟩
 | 5,_=>
  exact Or.inl ⟨rfl,rfl,qX _,trivial⟩
 | 6,_=>
  exact Or.inl ⟨rfl,rfl,trivial⟩
 | 7,_=>
  exact Or.inl ⟨rfl,rfl,qX _,trivial⟩
 | 8,_=>
  exact Or.inl ⟨rfl,rfl,trivial⟩
 | 9,_=>
  exact Or.inl ⟨rfl,rfl,le_refl _,trivial⟩
 | 10,_=>
  exact Or.inl ⟨rfl,rfl,le_refl _,trivial⟩
 | 11,_=>
  simp only[eff] at hst ⊢
  split
  ·exact Or.inl ⟨rfl,rfl,qX _,trivial⟩
  ·rename_i h1
   rw[if_neg h1] at hst
   split
   ·rename_i h2
    rw[if_pos h2] at hst
    cases hst
   ·exact Or.inl ⟨rfl,rfl,qX _,trivial⟩
 | 12,_=>
  simp only[eff] at hst ⊢
  split
  ·rename_i h1
   rw[if_pos h1] at hst
   cases hst
  ·exact Or.inl ⟨rfl,rfl,trivial⟩
 | 13,_=>
  exact Or.inl ⟨rfl,rfl,le_refl _,trivial⟩
 | 14,_=>
  exact Or.inl ⟨rfl,rfl,trivial⟩
 | 15,_=>
  exact Or.inl ⟨rfl,rfl,trivial⟩
 | 16,_=>
  exact Or.inl ⟨rfl,rfl,le_refl _,trivial⟩
 | 17,_=>
  simp only[eff]
  split
  ·exact Or.inr ⟨rfl,rfl,rfl⟩
  ·exact Or.inl ⟨rfl,rfl,le_refl _,le_refl _,trivial⟩
 | 18,_=>
  exact Or.inl ⟨rfl,rfl,le_refl _,trivial⟩
 | 19,_=>
  exact Or.inl ⟨rfl,rfl,le_refl _,trivial⟩
 | 20,_=>
  exact Or.inl ⟨rfl,rfl,le_refl _,trivial⟩
 | 21,_=>
  exact Or.inl ⟨rfl,rfl,le_refl _,trivial⟩
 | 22,_=>
  exact Or.inl ⟨rfl,rfl,le_refl _,trivial⟩
 | 23,_=>
  exact Or.inl ⟨rfl,rfl,le_refl _,trivial⟩
 | 24,_=>
  exact Or.inl ⟨rfl,rfl,le_refl _,trivial⟩
 | 25,_=>
  simp only[eff] at hst ⊢
  split
  ·rename_i h1
   rw[if_pos h1] at hst
   cases hst
  ·exact Or.inl ⟨rfl,rfl,le_refl _,trivial⟩
 | 26,_=>
  exact Or.inl ⟨rfl,rfl,le_refl _,trivial⟩
 | 27,_=>
  exact Or.inl ⟨rfl,rfl,le_refl _,trivial⟩
 | 28,_=>
  exact Or.inl ⟨rfl,rfl,le_refl _,trivial⟩
 | 29,_=>
  exact Or.inl ⟨rfl,rfl,le_refl _,trivial⟩
 | 30,_=>
  exact Or.inl ⟨rfl,rfl,le_refl _,trivial⟩
 | 31,_=>
  exact Or.inl ⟨rfl,rfl,le_refl _,trivial⟩
 | 32,_=>
  exact Or.inl ⟨rfl,rfl,le_refl _,trivial⟩
 | 33,_=>
  exact Or.inl ⟨rfl,rfl,le_refl _,trivial⟩
 | 34,_=>
  exact Or.inl ⟨rfl,rfl,le_refl _,trivial⟩
 | 35,_=>
  exact Or.inl ⟨rfl,rfl,le_refl _,trivial⟩
 | 36,_=>
  exact Or.inl ⟨rfl,rfl,le_refl _,trivial⟩
 | 37,_=>
  simp only[eff] at hst ⊢
  split
  ·rename_i h1
   rw[if_pos h1] at hst
   cases hst
  ·exact Or.inl ⟨rfl,rfl,le_refl _,trivial⟩
 | 38,_=>
  simp only[eff] at hst ⊢
  split
  ·rename_i h1
   rw[if_pos h1] at hst
   cases hst
  ·exact Or.inl ⟨rfl,rfl,le_refl _,trivial⟩
 | 39,_=>
  exact Or.inl ⟨rfl,rfl,le_refl _,trivial⟩
 | 40,_=>
  exact Or.inl ⟨rfl,rfl,le_refl _,trivial⟩
 | 41,_=>
  exact Or.inl ⟨rfl,rfl,le_refl _,trivial⟩
 | 42,_=>
  exact Or.inl ⟨rfl,rfl,le_refl _,trivial⟩
 | 43,_=>
  simp only[eff]
  split
  ·exact Or.inl ⟨rfl,rfl,le_refl _,trivial⟩
  ·exact Or.inl ⟨rfl,rfl,le_refl _,trivial⟩
 | 44,_=>
  exact Or.inl ⟨rfl,rfl,trivial⟩
 | 45,_=>
  obtain⟨c,rfl,h1⟩:=cC hk
  exact Or.inl ⟨rfl,rfl,le_refl _,le_refl _,trivial⟩
 | 46,_=>
  obtain⟨c,d,rfl,h1,h2⟩:=iM hk
  exact Or.inl ⟨rfl,rfl,le_refl _,le_refl _,le_refl _,trivial⟩
 | 47,_=>
  exact Or.inl ⟨rfl,rfl,trivial⟩
 | 48,_=>
  exact Or.inr ⟨rfl,rfl,rfl⟩
 | 49,_=>
  by_cases h1:(top.getD 0 c0).v.n=0
  ·exact Or.inr ⟨rfl,by simp only[eff];rw[if_pos h1],rfl⟩
  ·exact Or.inl ⟨by simp only[eff];rw[if_neg h1],rfl,trivial⟩
 | 50,_=>
  exact absurd rfl h50
 | 51,_=>
  exact absurd rfl h51
 | 52,_=>
  exact absurd rfl h52
 | 53,_=>
  cases hst
 | n+54,h=>exact absurd h (by omega)
end Mach
end Go.Proofs.YtlokkgajpjafmaaGreatDoor
