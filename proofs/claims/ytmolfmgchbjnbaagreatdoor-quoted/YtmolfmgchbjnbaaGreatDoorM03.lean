import Derived.PlainAid
import Derived.Test.YtmolfmgchbjnbaaGreatDoorMA
set_option linter.unusedSimpArgs false
set_option linter.unusedVariables false
set_option linter.unusedSectionVars false
set_option maxRecDepth 100000
set_option maxHeartbeats 40000000
namespace Go.Proofs.YtmolfmgchbjnbaaGreatDoor
namespace Wire
def digsF:Nat→Nat→LB
 | 0,_=>[]
 | f+1,n=>if n<128 then [UInt8.ofNat n] else UInt8.ofNat (128+n % 128) :: digsF f (n / 128)
def digs (n:Nat):LB:=digsF 10 n
theorem digsF_fuel (f g n:Nat)(hf:n<128 ^ f)(hg:n<128 ^ g)(h0:0<f)(h1:0<g):digsF f n=digsF g n:=by
 induction f generalizing g n with
 | zero=>omega
 | succ f ih=>
  cases g with
  | zero=>omega
  | succ g=>
   simp only[digsF];by_cases h:n<128
   ·simp only[if_pos h]
   simp only[if_neg h];congr 1;have a:n / 128<128 ^ f:=by rw[Nat.pow_succ] at hf;omega
   have b:n / 128<128 ^ g:=by rw[Nat.pow_succ] at hg;omega
   refine ih g _ a b ?_ ?_
   ·cases f with
    | zero=>simp at a;omega
    | succ f=>omega
   cases g with
   | zero=>simp at b;omega
   | succ g=>omega
theorem digs_lt {n:Nat}(h:n<128):digs n=[UInt8.ofNat n]:=by simp only[digs,digsF,if_pos h]
theorem digs_ge {n:Nat}(h:128≤n)(hb:n<128 ^ 9):digs n=UInt8.ofNat (128+n % 128) :: digs (n / 128):=by
 unfold digs;rw[digsF,if_neg (by omega)];congr 1;have e:(128:Nat) ^ 9=9223372036854775808:=by decide
 exact digsF_fuel 9 10 _ (by omega) (by
  have:(128:Nat) ^ 10=1180591620717411303424:=by decide
  omega) (by omega) (by omega)
def numF:Nat→Bool→LB→Option (Nat × LB)
 | 0,_,_=>none
 | _+1,_,[]=>none
 | f+1,first,c :: r=>
  if c.toNat<128 then (if c.toNat=0∧first=false then none else some (c.toNat,r))
  else (numF f false r).map fun p=>(c.toNat-128+128*p.1,p.2)
def num (l:LB):Option (Nat × LB):=numF 5 true l
theorem numF_digsF (f:Nat)(first:Bool)(n:Nat)(r:LB)(h0:0<f)(h:n<128 ^ f)(hz:first=false→n≠0):numF f first (digsF f n++r)=some (n,r):=by
 induction f generalizing first n with
 | zero=>omega
 | succ f ih=>
  rw[digsF];by_cases hn:n<128
  ·rw[if_pos hn];have e:(UInt8.ofNat n).toNat=n:=by simp[UInt8.toNat_ofNat];omega
   simp only[List.cons_append,List.nil_append,numF,e,if_pos hn];rw[if_neg];rintro ⟨a,b⟩;exact hz b a
  rw[if_neg hn];have e:(UInt8.ofNat (128+n % 128)).toNat=128+n % 128:=by simp[UInt8.toNat_ofNat];omega
  have a:n / 128<128 ^ f:=by rw[Nat.pow_succ] at h;omega
  have a0:0<f:=by
   cases f with
   | zero=>simp at a;omega
   | succ f=>omega
  simp only[List.cons_append,numF,e];rw[if_neg (by omega),ih false (n / 128) a0 a (by omega)];simp only[Option.map_some];congr 2;omega
theorem numF_some (f:Nat)(first:Bool)(l:LB)(n:Nat)(r:LB)(h:numF f first l=some (n,r)) :
  l=digsF f n++r∧n<128 ^ f∧(first=false→n≠0)∧0<f:=by
 induction f generalizing first l n r with
 | zero=>simp[numF] at h
 | succ f ih=>
  cases l with
  | nil=>simp[numF] at h
  | cons c t=>
   rw[numF] at h;by_cases hc:c.toNat<128
   ·rw[if_pos hc] at h;by_cases hz:c.toNat=0∧first=false
    ·rw[if_pos hz] at h;simp at h
    rw[if_neg hz] at h;simp only[Option.some.injEq,Prod.mk.injEq] at h;obtain⟨rfl,rfl⟩:=h;refine⟨?_,?_,?_,by omega⟩
    ·rw[digsF,if_pos hc];simp
    ·have:0<128 ^ f:=Nat.pow_pos (by omega);rw[Nat.pow_succ];omega
    intro hf h0;exact hz ⟨h0,hf⟩
   rw[if_neg hc] at h;cases hr:numF f false t with
   | none=>rw[hr] at h;simp at h
   | some p=>
    obtain⟨m,s⟩:=p;rw[hr] at h;simp only[Option.map_some,Option.some.injEq,Prod.mk.injEq] at h;obtain⟨rfl,rfl⟩:=h;obtain⟨a,b,d,e⟩:=ih false t m s hr;have hm:=d rfl;have hc2:c.toNat<256:=c.toNat_lt;refine⟨?_,?_,?_,by omega⟩
    ·rw[digsF,if_neg (by omega)];have e1:(c.toNat-128+128*m) % 128=c.toNat-128:=by omega
     have e2:(c.toNat-128+128*m) / 128=m:=by omega
     rw[e1,e2,show 128+(c.toNat-128)=c.toNat by omega,a];simp
    ·rw[Nat.pow_succ];omega
    intro _;omega
theorem pow5:(128:Nat) ^ 5=34359738368:=by decide
theorem pow9:(128:Nat) ^ 9=9223372036854775808:=by decide
theorem pow10:(128:Nat) ^ 10=1180591620717411303424:=by decide
theorem num_digs {n:Nat}(h:n<34359738368)(r:LB):num (digs n++r)=some (n,r):=by
 have h5:=pow5;have h10:=pow10;unfold num digs;rw[digsF_fuel 10 5 n (by omega) (by omega) (by omega) (by omega)];exact numF_digsF 5 true n r (by omega) (by omega) (by simp)
theorem num_some {l:LB}{n:Nat}{r:LB} (h:num l=some (n,r)):l=digs n++r∧n<34359738368:=by
 have h5:=pow5;have h10:=pow10;obtain⟨a,b,-,-⟩:=numF_some 5 true l n r h;refine⟨?_,by omega⟩;unfold digs;rw[digsF_fuel 10 5 n (by omega) (by omega) (by omega) (by omega)];exact a
def sumStep (s:Nat) (c:UInt8):Nat:=(257*s+c.toNat+1) % 1000003
def sumFrom (s:Nat) (l:LB):Nat:=l.foldl sumStep s
def sumN (l:LB):Nat:=sumFrom 1 l
def sum3 (l:LB):LB:=[UInt8.ofNat (sumN l % 256),UInt8.ofNat (sumN l / 256 % 256),UInt8.ofNat (sumN l / 65536)]
end Wire
namespace Wire
structure Fn where
 params:Int
 locs:Int
 code:BA
structure Mo where
 texts:LY
 pats:LY
 globs:Int
 arrs:Int
 fns:List Fn
def bl (s:BA):LB:=s.data.toList
theorem bl_length (s:BA):(bl s).length=s.size:=by
 show s.data.toList.length=s.data.size;exact Array.length_toList
theorem bl_mk (l:LB):bl ⟨l.toArray⟩=l:=by simp[bl]
theorem mk_bl (s:BA):(⟨(bl s).toArray⟩:BA)=s:=by simp[bl]
theorem mk_size (l:LB):(⟨l.toArray⟩:BA).size=l.length:=by simp[ByteArray.size]
theorem bl_inj {s t:BA}(h:bl s=bl t):s=t:=by rw[← mk_bl s,← mk_bl t,h]
def textB (s:BA):LB:=digs s.size++bl s
def textsB (l:LY):LB:=l.flatMap textB
def listing (l:LY):LB:=digs l.length++textsB l
def fnB (f:Fn):LB:=digs f.params.toNat++(digs f.locs.toNat++textB f.code)
def fnsB (l:List Fn):LB:=l.flatMap fnB
def fnsL (l:List Fn):LB:=digs l.length++fnsB l
def sect (k:Nat) (c:LB):LB:=UInt8.ofNat k :: (digs c.length++c)
def body (m:Mo):LB:=
 71 :: 76 :: 1 :: (sect 1 (listing m.texts)++(sect 2 (listing m.pats)++(sect 3 (digs m.globs.toNat)++(sect 4 (digs m.arrs.toNat)++sect 5 (fnsL m.fns)))))
def written (m:Mo):LB:=body m++sum3 (body m)
def lawful (f:Fn) (i:Nat):Bool:=
 decide (0≤f.params) && decide (f.params≤8) && decide (f.params≤f.locs) && decide (f.locs≤16) && decide (f.code.size≤20000) && (decide (2<i) || decide (f.params=0))
def lawfulAll:List Fn→Nat→Bool
 | [],_=>true
 | f :: r,i=>lawful f i && lawfulAll r (i+1)
def within (ip:BA→Bool) (m:Mo):Bool:=
 decide (m.texts.length≤1000) && decide (m.pats.length≤1000) && decide (3≤m.fns.length) && decide (m.fns.length≤1000) &&
 decide (0≤m.globs) && decide (m.globs≤1000) && decide (0≤m.arrs) && decide (m.arrs≤1000) &&
 m.texts.all (fun s=>decide (s.size≤100)) && m.pats.all (fun s=>decide (s.size≤50) && ip s) && lawfulAll m.fns 0
end Wire
namespace Wire
theorem lawful_iff {f:Fn}{i:Nat}:lawful f i=true↔0≤f.params∧f.params≤8∧f.params≤f.locs∧f.locs≤16∧f.code.size≤20000∧(2<i∨f.params=0):=by
 unfold lawful;simp only[Bool.and_eq_true,Bool.or_eq_true,decide_eq_true_eq,and_assoc]
theorem within_iff {ip:BA→Bool}{m:Mo}:within ip m=true↔m.texts.length≤1000∧m.pats.length≤1000∧3≤m.fns.length∧m.fns.length≤1000∧0≤m.globs∧m.globs≤1000∧0≤m.arrs∧m.arrs≤1000 ∧
  (∀ s ∈ m.texts,s.size≤100)∧(∀ s ∈ m.pats,s.size≤50∧ip s=true)∧lawfulAll m.fns 0=true:=by
 unfold within;simp only[Bool.and_eq_true,decide_eq_true_eq,List.all_eq_true,and_assoc]
theorem sect_length (k:Nat)(c:LB):(sect k c).length=1+(digs c.length).length+c.length:=by simp[sect];omega
theorem body_length (m:Mo):(body m).length=3+(sect 1 (listing m.texts)).length+(sect 2 (listing m.pats)).length+(sect 3 (digs m.globs.toNat)).length+(sect 4 (digs m.arrs.toNat)).length+(sect 5 (fnsL m.fns)).length:=by
 simp[body];omega
end Wire
namespace Wire
def accN (c:LB):Nat→Nat
 | 0=>0
 | i+1=>accN c i+(c.getD i 0).toNat % 128*128 ^ i
theorem accN_lt (c:LB)(i:Nat):accN c i<128 ^ i:=by
 induction i with
 | zero=>simp[accN]
 | succ i ih=>
  have h:(c.getD i 0).toNat % 128≤127:=by omega
  have h2:=Nat.mul_le_mul_right (128 ^ i) h;simp only[accN,Nat.pow_succ];omega
theorem drop_at {c:LB}{i:Nat} (h:i<c.length):c.drop i=c.getD i 0 :: c.drop (i+1):=by
 rw[List.drop_eq_getElem_cons h];simp[List.getD_eq_getElem?_getD,h]
theorem num_walk (c:LB)(i:Nat)(hi:i≤5)(hl:i≤c.length)(h:∀ j,j<i→128≤(c.getD j 0).toNat) :
  num c=(numF (5-i) (decide (i=0)) (c.drop i)).map fun p=>(accN c i+128 ^ i*p.1,p.2):=by
 induction i with
 | zero=>
  simp only[num,accN,List.drop_zero,Nat.sub_zero,decide_true,Nat.pow_zero,Nat.one_mul,Nat.zero_add];cases numF 5 true c <;> rfl
 | succ i ih=>
  rw[ih (by omega) (by omega) (fun j hj=>h j (by omega)),drop_at (by omega)];have h0:=h i (by omega);have hb:=(c.getD i 0).toNat_lt;rw[show 5-i=(5-(i+1))+1 by omega];simp only[numF];rw[if_neg (by omega),Option.map_map];have e:(decide (i+1=0))=false:=by simp
  rw[e];congr 1;funext p;simp only[Function.comp,accN,Prod.mk.injEq,and_true];have e2:(c.getD i 0).toNat-128=(c.getD i 0).toNat % 128:=by omega
  rw[e2,Nat.mul_add,Nat.pow_succ,Nat.mul_assoc,Nat.mul_comm (128 ^ i) ((c.getD i 0).toNat % 128)];omega
theorem num_stop {c:LB}{i:Nat} (hi:i<5) (hl:i<c.length) (h:∀ j,j<i→128≤(c.getD j 0).toNat) (h0:(c.getD i 0).toNat<128) :
  num c=if 0<i∧(c.getD i 0).toNat=0 then none else some (accN c (i+1),c.drop (i+1)):=by
 rw[num_walk c i (by omega) (by omega) h,drop_at hl,show 5-i=(5-(i+1))+1 by omega];simp only[numF];rw[if_pos h0];have hm:(c.getD i 0).toNat % 128=(c.getD i 0).toNat:=by omega
 by_cases hz:0<i∧(c.getD i 0).toNat=0
 ·rw[if_pos hz,if_pos ⟨hz.2,by have:=hz.1;simp;omega⟩];rfl
 rw[if_neg hz,if_neg (by rintro ⟨a,b⟩;exact hz ⟨by simp at b;omega,a⟩)];simp only[Option.map_some,accN,hm,Nat.mul_comm]
theorem num_end {c:LB}{i:Nat} (hi:i≤5) (hl:i≤c.length) (h:∀ j,j<i→128≤(c.getD j 0).toNat) (h0:i=5∨i=c.length):num c=none:=by
 rw[num_walk c i hi hl h];rcases h0 with rfl | rfl
 ·simp[numF]
 rw[List.drop_length];cases 5-c.length <;> simp[numF]
theorem or_shift (a x i:Nat)(h:a<128 ^ i):a ||| (x <<< (7*i))=a+x*128 ^ i:=by
 have e:(128:Nat) ^ i=2 ^ (7*i):=by rw[Nat.pow_mul]
 rw[Nat.shiftLeft_eq,e,Nat.mul_comm x,Nat.or_comm,← Nat.two_pow_add_eq_or_of_lt (by omega),Nat.add_comm]
theorem accN_or (c:LB)(i:Nat):accN c i ||| (((c.getD i 0).toNat &&& 127) <<< (7*i))=accN c (i+1):=by
 rw[or_shift _ _ _ (accN_lt c i),show (127:Nat)=2 ^ 7-1 by rfl,Nat.and_two_pow_sub_one_eq_mod];rfl
theorem sumFrom_take (s:Nat)(l:LB)(i:Nat)(h:i<l.length):sumFrom s (l.take (i+1))=sumStep (sumFrom s (l.take i)) l[i]:=by
 rw[List.take_succ_eq_append_getElem h];unfold sumFrom;rw[List.foldl_append];rfl
abbrev Sta:=(Nat × Nat) ⊕ (Nat × Nat)
abbrev Rd (α:Type):=Nat→LB→(Nat × Nat) ⊕ (α × LB)
def seg (l:LB) (a e:Nat):LB:=(l.take e).drop a
theorem seg_length {l:LB}{a e:Nat} (he:e≤l.length):(seg l a e).length=e-a:=by
 simp[seg];omega
theorem seg_suffix {l p r:LB}{a e:Nat} (h:seg l a e=p++r) (ha:a≤e) (he:e≤l.length):seg l (e-r.length) e=r∧e-r.length=a+p.length∧r.length≤e:=by
 have h1:=congrArg List.length h;rw[seg_length he,Lla] at h1;have h2:e-r.length=a+p.length:=by omega
 refine⟨?_,h2,by omega⟩;rw[h2];have h3:(seg l a e).drop p.length=r:=by rw[h];simp
 rw[← h3];simp[seg,List.drop_drop]
theorem seg_all (l:LB)(a:Nat):seg l a l.length=l.drop a:=by simp[seg]
def nextR {α:Type} (op:Rd α) (l:LB):Sta→Sta
 | .inl f=>.inl f
 | .inr (a,e)=>match op e (seg l a e) with
  | .inl f=>.inl f
  | .inr (_,r)=>.inr (e-r.length,e)
end Wire
namespace Wire
structure Tidy {α:Type} (op:Rd α):Prop where
 bad:∀ {base:Nat}{c:LB}{f:Nat × Nat},op base c=.inl f→0<f.1∧f.1≤100∧f.2≤base
 good:∀ {base:Nat}{c:LB}{x:α}{r:LB},op base c=.inr (x,r)→∃ p,c=p++r
end Wire
namespace Flow
def lst (a b:UInt8):UInt8:=if a=b then a else if a=107∨b=107∨a=106∨b=106 then 106 else 97
def le (a b:UInt8):Prop:=lst a b=b
theorem le_cases {a b:UInt8}:le a b↔a=b∨b=106∨(b=97∧a≠107∧a≠106):=by
 unfold le lst;by_cases h:a=b
 ·simp[h]
 rw[if_neg h];by_cases hk:a=107∨b=107∨a=106∨b=106
 ·rw[if_pos hk];constructor
  ·intro e;exact Or.inr (Or.inl e.symm)
  rintro (e | e | ⟨e,h1,h2⟩)
  ·exact absurd e h
  ·exact e.symm
  subst e;rcases hk with e | e | e | e
  ·exact absurd e h1
  ·exact absurd e (by decide)
  ·exact absurd e h2
  exact absurd e (by decide)
 rw[if_neg hk];constructor
 ·intro e;exact Or.inr (Or.inr ⟨e.symm,fun x=>hk (Or.inl x),fun x=>hk (Or.inr (Or.inr (Or.inl x)))⟩)
 rintro (e | e | ⟨e,h1,h2⟩)
 ·exact absurd e h
 ·exact absurd (Or.inr (Or.inr (Or.inr e))) hk
 exact e.symm
theorem le_refl (a:UInt8):le a a:=le_cases.2 (Or.inl rfl)
theorem le_trans {a b c:UInt8}(h:le a b)(g:le b c):le a c:=by
 rw[le_cases] at *;rcases h with rfl | rfl | ⟨rfl,h1,h2⟩
 ·exact g
 ·rcases g with rfl | rfl | ⟨rfl,g1,g2⟩
  ·exact Or.inr (Or.inl rfl)
  ·exact Or.inr (Or.inl rfl)
  exact absurd rfl g2
 rcases g with rfl | rfl | ⟨rfl,g1,g2⟩
 ·exact Or.inr (Or.inr ⟨rfl,h1,h2⟩)
 ·exact Or.inr (Or.inl rfl)
 exact Or.inr (Or.inr ⟨rfl,h1,h2⟩)
def rk (a:UInt8):Nat:=if a=106 then 2 else if a=97 then 1 else 0
def leS:LB→LB→Prop
 | [],[]=>True
 | a :: s,b :: t=>le a b∧leS s t
 | _,_=>False
def joinS (s t:LB):LB:=List.zipWith lst s t
theorem leS_length {s t:LB}(h:leS s t):s.length=t.length:=by
 induction s generalizing t with
 | nil=>cases t with
  | nil=>rfl
  | cons=>exact h.elim
 | cons a s ih=>cases t with
  | nil=>exact h.elim
  | cons b t=>simp[ih h.2]
theorem leS_refl (s:LB):leS s s:=by
 induction s with
 | nil=>trivial
 | cons a s ih=>exact⟨le_refl a,ih⟩
theorem leS_trans {s t u:LB}(h:leS s t)(g:leS t u):leS s u:=by
 induction s generalizing t u with
 | nil=>cases t with
  | nil=>exact g
  | cons=>exact h.elim
 | cons a s ih=>cases t with
  | nil=>exact h.elim
  | cons b t=>cases u with
   | nil=>exact g.elim
   | cons c u=>exact⟨le_trans h.1 g.1,ih h.2 g.2⟩
theorem leS_append {s t u v:LB}(h:leS s t)(g:leS u v):leS (s++u) (t++v):=by
 induction s generalizing t with
 | nil=>cases t with
  | nil=>exact g
  | cons=>exact h.elim
 | cons a s ih=>cases t with
  | nil=>exact h.elim
  | cons b t=>exact⟨h.1,ih h.2⟩
theorem leS_take {s t:LB}(h:leS s t)(n:Nat):leS (s.take n) (t.take n):=by
 induction s generalizing t n with
 | nil=>cases t with
  | nil=>simp[leS]
  | cons=>exact h.elim
 | cons a s ih=>cases t with
  | nil=>exact h.elim
  | cons b t=>cases n with
   | zero=>trivial
   | succ n=>exact⟨h.1,ih h.2 n⟩
theorem leS_drop {s t:LB}(h:leS s t)(n:Nat):leS (s.drop n) (t.drop n):=by
 induction s generalizing t n with
 | nil=>cases t with
  | nil=>simp[leS]
  | cons=>exact h.elim
 | cons a s ih=>cases t with
  | nil=>exact h.elim
  | cons b t=>cases n with
   | zero=>exact h
   | succ n=>exact ih h.2 n
def rkS:LB→Nat
 | []=>0
 | a :: s=>rk a+rkS s
def leSB:LB→LB→Bool
 | [],[]=>true
 | a :: s,b :: t=>decide (lst a b=b) && leSB s t
 | _,_=>false
theorem leSB_iff {s t:LB}:leSB s t=true↔leS s t:=by
 induction s generalizing t with
 | nil=>cases t with
  | nil=>simp[leSB,leS]
  | cons=>simp[leSB,leS]
 | cons a s ih=>cases t with
  | nil=>simp[leSB,leS]
  | cons b t=>simp[leSB,leS,ih,le]
def takesT:List (LB):=[[],[],[],[],[97],[],[97],[110],[110,97],[],[],[116],[116,97],[116],[116],[],[],[107],[110,110],[110,110],[110,110],[110,110],[110,110],[110],[110],[116,116],[97],[97],[97],[97,97],[97,97],[97,97],[97,97],[97,97],[97,97],[116],[116],[116,116],[116],[116],[116,110,110],[116,116],[],[],[],[97],[97,97],[106],[],[110],[],[97],[],[110]]
def givesT:List (LB):=[[110],[116],[97],[97],[],[97],[],[97],[],[110],[110],[97],[],[110],[],[],[107],[107,116],[110],[110],[110],[110],[110],[110],[110],[116],[110],[116],[110],[110],[110],[110],[110],[110],[110],[110],[110],[116],[110],[110],[116],[110],[110],[110],[],[],[],[],[],[],[97],[],[],[]]
def want (par:NN) (op a:Nat):LB:=
 if op=44 then List.replicate a 116 else if op=50 then List.replicate (par a) 97 else takesT.getD op []
def give (op:Nat) (top:LB):LB:=
 if op=45 then top++top else if op=46 then top.drop 1++top else givesT.getD op []
def after (par:NN) (op a:Nat) (st:LB):Option (LB × LB):=
 if st.length<(want par op a).length then none
 else if leSB (st.drop (st.length-(want par op a).length)) (want par op a)=true then
  if (st.take (st.length-(want par op a).length)++give op (st.drop (st.length-(want par op a).length))).length≤1024 then
   some (st.take (st.length-(want par op a).length)++give op (st.drop (st.length-(want par op a).length)),st.take (st.length-(want par op a).length))
  else none
 else none
theorem give_mono {op:Nat}{s t:LB} (h:leS s t):leS (give op s) (give op t):=by
 unfold give;split
 ·exact leS_append h h
 split
 ·exact leS_append (leS_drop h 1) h
 exact leS_refl _
theorem after_mono {par:NN}{op a:Nat}{s t:LB}{o r:LB} (h:leS s t) (ht:after par op a t=some (o,r)) :
  ∃ o' r',after par op a s=some (o',r')∧leS o' o∧leS r' r:=by
 have hl:=leS_length h;unfold after at ht ⊢;rw[hl];generalize (want par op a)=w at *;split at ht
 ·cases ht
 ·rename_i hw
  split at ht
  ·rename_i hs
   split at ht
   ·rename_i hm
    simp only[Option.some.injEq,Prod.mk.injEq] at ht;obtain⟨rfl,rfl⟩:=ht;have hd:=leS_drop h (t.length-w.length);have htk:=leS_take h (t.length-w.length);have hg:=leS_append htk (give_mono (op:=op) hd);have hs':leSB (s.drop (t.length-w.length)) w=true:=leSB_iff.2 (leS_trans hd (leSB_iff.1 hs));rw[if_neg hw,if_pos hs',if_pos (by rw[leS_length hg];exact hm)];exact⟨_,_,rfl,hg,htk⟩
   cases ht
  cases ht
structure Stp where
 pl:Nat
 nx:Nat
 op:Nat
 a:Nat
 b:Nat
def far (op:Nat):Bool:=op==48 || op==49 || op==17
def halts (op:Nat):Bool:=op==48 || op==51 || op==52 || op==53
def numb:List Stp→Nat→Option Nat
 | [],_=>none
 | s :: l,p=>if s.pl=p then some 0 else (numb l p).map (·+1)
def Has (G:List (Option (LB))) (i:Nat) (st:LB):Prop:=∃ t,G[i]?=some (some t)∧leS st t
def Done (par:NN) (l:List Stp) (G:List (Option (LB))) (i:Nat):Prop:=
 ∀ st s,G[i]?=some (some st)→l[i]?=some s→∃ o r,after par s.op s.a st=some (o,r) ∧
  (far s.op=true→∃ k,numb l s.a=some k∧Has G k r)∧(halts s.op=false→Has G (i+1) o)
structure Sol (par:NN) (l:List Stp) (G:List (Option (LB))):Prop where
 size:G.length=l.length
 first:G[0]?=some (some [])
 each:∀ i,i<l.length→Done par l G i
def Under (G T:List (Option (LB))):Prop:=∀ i st,G[i]?=some (some st)→Has T i st
def laid (G:List (Option (LB))) (i:Nat) (st:LB):List (Option (LB)):=
 match G[i]? with
 | some (some t)=>G.set i (some (joinS t st))
 | _=>G.set i (some st)
def left1:Option (LB)→Nat
 | none=>3000
 | some st=>2*st.length-rkS st
def left (G:List (Option (LB))):Nat:=(G.map left1).sum
end Flow
namespace Flow
def Safe (par:NN) (l:List Stp):Prop:=∃ T,Sol par l T
structure Low (par:NN) (l:List Stp) (G:List (Option (LB))):Prop where
 size:G.length=l.length
 low:∀ T,Sol par l T→Under G T
theorem Has.mono {G H:List (Option (LB))}{i:Nat}{st:LB} (h:Has G i st) (hu:Under G H):Has H i st:=by
 obtain⟨t,ht,hl⟩:=h;obtain⟨u,huu,hl'⟩:=hu i t ht;exact⟨u,huu,leS_trans hl hl'⟩
theorem Under.trans {G H K:List (Option (LB))}(h:Under G H)(g:Under H K):Under G K:=
 fun i st hi=>Has.mono (h i st hi) g
theorem Done.mono {par:NN}{l:List Stp}{G H:List (Option (LB))}{i:Nat} (h:Done par l G i) (hs:H[i]?=G[i]?) (hu:Under G H):Done par l H i:=by
 intro st s hi hl;rw[hs] at hi;obtain⟨o,r,ha,h1,h2⟩:=h st s hi hl;refine⟨o,r,ha,?_,fun hf=>Has.mono (h2 hf) hu⟩;intro hf;obtain⟨k,hk,hh⟩:=h1 hf;exact⟨k,hk,Has.mono hh hu⟩
end Flow
namespace Flow
open Wire
def sortsT:LN:=[1,2,0,3,3,4,4,0,0,0,0,5,5,5,5,5,5,7,0,0,0,0,0,0,0,0,0,0,0,0,0,0,0,0,0,6,6,6,5,0,0,0,0,0,8,0,0,0,7,7,9,0,0,0]
def above (m:Mo) (locs:Nat) (sort:Nat):Nat:=
 if sort=1 then 2000000001 else if sort=2 then m.texts.length else if sort=3 then locs else if sort=4 then m.globs.toNat
 else if sort=5 then m.arrs.toNat else if sort=6 then m.pats.length else if sort=8 then 1001 else if sort=9 then m.fns.length else 34359738368
def low (sort:Nat):Nat:=if sort=8 then 1 else if sort=9 then 3 else 0
def fitN (m:Mo) (locs:Nat) (sort n:Nat):Bool:=decide (low sort≤n) && decide (n<above m locs sort)
def mayOp (f op:Nat):Bool:=decide (op<54) && !(decide (op=51) && decide (f<3)) && !(decide (op=52) && decide (3≤f))
def operandL (m:Mo) (locs:Nat) (c:LB) (sort i:Nat):Option (Nat × Nat):=
 match num (c.drop i) with
 | none=>none
 | some (n,r)=>if fitN m locs sort n=true then some (n,c.length-r.length) else none
def decodeL (m:Mo) (f locs:Nat) (c:LB) (i:Nat):Nat ⊕ Stp:=
 if mayOp f (c.getD i 0).toNat=true then
  if sortsT.getD (c.getD i 0).toNat 0=0 then .inr ⟨i,i+1,(c.getD i 0).toNat,0,0⟩
  else match operandL m locs c (sortsT.getD (c.getD i 0).toNat 0) (i+1) with
   | none=>.inl 10
   | some (n,j)=>
    if (c.getD i 0).toNat=38 then
     match operandL m locs c 6 j with
     | none=>.inl 10
     | some (n2,k)=>.inr ⟨i,k,(c.getD i 0).toNat,n,n2⟩
    else .inr ⟨i,j,(c.getD i 0).toNat,n,0⟩
 else .inl 9
theorem numF_shorter (f:Nat)(first:Bool)(l:LB)(n:Nat)(r:LB)(h:numF f first l=some (n,r)):r.length<l.length:=by
 induction f generalizing first l n r with
 | zero=>simp[numF] at h
 | succ f ih=>
  cases l with
  | nil=>simp[numF] at h
  | cons c l=>
   simp only[numF] at h;split at h
   ·split at h
    ·cases h
    simp only[Option.some.injEq,Prod.mk.injEq] at h;obtain⟨-,rfl⟩:=h;simp
   cases hq:numF f false l with
   | none=>rw[hq] at h;simp at h
   | some p=>
    rw[hq] at h;simp only[Option.map_some,Option.some.injEq,Prod.mk.injEq] at h;obtain⟨-,rfl⟩:=h;have:=ih false l p.1 p.2 hq;simp only[List.length_cons];omega
theorem operandL_next {m:Mo}{locs:Nat}{c:LB}{sort i n j:Nat} (h:operandL m locs c sort i=some (n,j)):i<j∧j≤c.length∧fitN m locs sort n=true:=by
 unfold operandL at h;split at h
 ·cases h
 ·rename_i n' r hn
  split at h
  ·rename_i hf
   simp only[Option.some.injEq,Prod.mk.injEq] at h;obtain⟨rfl,rfl⟩:=h;have:=numF_shorter 5 true _ _ _ hn;rw[List.length_drop] at this;exact⟨by omega,by omega,hf⟩
  cases h
theorem decodeL_next {m:Mo}{f locs:Nat}{c:LB}{i:Nat}{s:Stp} (hi:i<c.length) (h:decodeL m f locs c i=.inr s) :
  s.pl=i∧i<s.nx∧s.nx≤c.length∧s.op=(c.getD i 0).toNat∧mayOp f s.op=true:=by
 unfold decodeL at h;split at h
 ·rename_i hm
  split at h
  ·simp only[Sum.inr.injEq] at h;subst h;exact⟨rfl,by simp,by simp;omega,rfl,hm⟩
  split at h
  ·cases h
  ·rename_i n j hop
   have h1:=operandL_next hop;split at h
   ·split at h
    ·cases h
    ·rename_i n2 k hop2
     have h2:=operandL_next hop2;simp only[Sum.inr.injEq] at h;subst h;exact⟨rfl,by simp;omega,by simp;omega,rfl,hm⟩
   simp only[Sum.inr.injEq] at h;subst h;exact⟨rfl,by simp;omega,by simp;omega,rfl,hm⟩
 cases h
theorem mayOp_lt {f op:Nat}(h:mayOp f op=true):op<54:=by
 unfold mayOp at h;simp only[Bool.and_eq_true,decide_eq_true_eq] at h;exact h.1.1
def Chain (m:Mo) (f locs:Nat) (c:LB):Nat→List Stp→Nat→Prop
 | i,[],j=>i=j
 | i,s :: l,j=>i<c.length∧decodeL m f locs c i=.inr s∧Chain m f locs c s.nx l j
theorem Chain.snoc {m:Mo}{f locs:Nat}{c:LB}{i j:Nat}{l:List Stp} (h:Chain m f locs c i l j) (hj:j<c.length) {s:Stp} (hs:decodeL m f locs c j=.inr s):Chain m f locs c i (l++[s]) s.nx:=by
 induction l generalizing i with
 | nil=>
  have e:i=j:=h;subst e;exact⟨hj,hs,rfl⟩
 | cons a l ih=>exact⟨h.1,h.2.1,ih h.2.2⟩
theorem Chain.le {m:Mo}{f locs:Nat}{c:LB}{i j:Nat}{l:List Stp} (h:Chain m f locs c i l j) (hi:i≤c.length):i+l.length≤j∧j≤c.length:=by
 induction l generalizing i with
 | nil=>
  have e:i=j:=h;subst e;exact⟨by simp,hi⟩
 | cons a l ih=>
  obtain⟨-,h1,h2,-⟩:=decodeL_next h.1 h.2.1;obtain⟨h3,h4⟩:=ih h.2.2 h2;exact⟨by simp only[List.length_cons];omega,h4⟩
def Reads (m:Mo) (f locs:Nat) (c:LB) (l:List Stp):Prop:=Chain m f locs c 0 l c.length
def Faulty (m:Mo) (f locs:Nat) (c:LB) (j e:Nat):Prop:=∃ l,Chain m f locs c 0 l j∧j<c.length∧decodeL m f locs c j=.inl e
theorem chain_unique {m:Mo}{f locs:Nat}{c:LB}{i:Nat}{l l':List Stp} (h:Chain m f locs c i l c.length) (h':Chain m f locs c i l' c.length):l=l':=by
 induction l generalizing i l' with
 | nil=>
  have e:i=c.length:=h;cases l' with
  | nil=>rfl
  | cons a l'=>have:=h'.1;omega
 | cons a l ih=>
  cases l' with
  | nil=>
   have e:i=c.length:=h';have:=h.1;omega
  | cons b l'=>
   have e:=h.2.1;rw[h'.2.1] at e;simp only[Sum.inr.injEq] at e;subst e;rw[ih h.2.2 h'.2.2]
theorem chain_fault {m:Mo}{f locs:Nat}{c:LB}{i j j' e:Nat}{l l':List Stp} (h:Chain m f locs c i l j) (hj:j<c.length) (hf:decodeL m f locs c j=.inl e) (h':Chain m f locs c i l' j') (hj':j'=c.length∨(j'<c.length∧∃ e',decodeL m f locs c j'=.inl e')):l=l'∧j=j':=by
 induction l generalizing i l' with
 | nil=>
  have ei:i=j:=h;subst ei;cases l' with
  | nil=>exact⟨rfl,h'⟩
  | cons b l'=>
   have e:=h'.2.1;rw[hf] at e;cases e
 | cons a l ih=>
  cases l' with
  | nil=>
   have ei:i=j':=h';subst ei;rcases hj' with q | ⟨_,e',q⟩
   ·have:=h.1;omega
   have e:=h.2.1;rw[q] at e;cases e
  | cons b l'=>
   have e:=h.2.1;rw[h'.2.1] at e;simp only[Sum.inr.injEq] at e;subst e;obtain⟨rfl,h2⟩:=ih h.2.2 h'.2.2;exact⟨rfl,h2⟩
theorem reads_not_faulty {m:Mo}{f locs:Nat}{c:LB}{l:List Stp}{j e:Nat} (h:Reads m f locs c l) (g:Faulty m f locs c j e):False:=by
 obtain⟨l',h1,h2,h3⟩:=g;have:=(chain_fault h1 h2 h3 h (Or.inl rfl)).2;omega
def badJump (l:List Stp):List Stp→Option Nat
 | []=>none
 | s :: r=>if far s.op=true∧numb l s.a=none then some s.pl else badJump l r
def Sorted:Nat→List Stp→Prop
 | _,[]=>True
 | i,s :: l=>i≤s.pl∧Sorted (s.pl+1) l
theorem Chain.sorted {m:Mo}{f locs:Nat}{c:LB}{i j:Nat}{l:List Stp} (h:Chain m f locs c i l j) (hc:i≤c.length):Sorted i l:=by
 induction l generalizing i with
 | nil=>trivial
 | cons s l ih=>
  obtain⟨h0,h1,h2,-⟩:=decodeL_next h.1 h.2.1;have:=ih h.2.2 h2;refine⟨by omega,?_⟩;have mono:∀ {a b:Nat}{l:List Stp},a≤b→Sorted b l→Sorted a l:=by
   intro a b l hab hs;cases l with
   | nil=>trivial
   | cons x l=>exact⟨Nat.le_trans hab hs.1,hs.2⟩
  exact mono (by omega) this
theorem Sorted.get {i:Nat}{l:List Stp} (h:Sorted i l):∀ (k:Nat) (s:Stp),l[k]?=some s→i≤s.pl:=by
 induction l generalizing i with
 | nil=>intro k s hk;simp at hk
 | cons a l ih=>
  intro k s hk;cases k with
  | zero=>
   simp only[List.getElem?_cons_zero,Option.some.injEq] at hk;subst hk;exact h.1
  | succ k=>
   simp only[List.getElem?_cons_succ] at hk;have:=ih h.2 k s hk;have:=h.1;omega
theorem Sorted.lt {i:Nat}{l:List Stp} (h:Sorted i l):∀ (j k:Nat) (s t:Stp),j<k→l[j]?=some s→l[k]?=some t→s.pl<t.pl:=by
 induction l generalizing i with
 | nil=>intro j k s t _ hj;simp at hj
 | cons a l ih=>
  intro j k s t hjk hj hk;cases k with
  | zero=>omega
  | succ k=>
   simp only[List.getElem?_cons_succ] at hk;cases j with
   | zero=>
    simp only[List.getElem?_cons_zero,Option.some.injEq] at hj;subst hj;have:=Sorted.get h.2 k t hk;omega
   | succ j=>
    simp only[List.getElem?_cons_succ] at hj;exact ih h.2 j k s t (by omega) hj hk
theorem numb_some {l:List Stp}{p k:Nat} (h:numb l p=some k):∃ s,l[k]?=some s∧s.pl=p:=by
 induction l generalizing k with
 | nil=>cases h
 | cons a l ih=>
  simp only[numb] at h;split at h
  ·rename_i e
   simp only[Option.some.injEq] at h;subst h;exact⟨a,rfl,e⟩
  cases hq:numb l p with
  | none=>rw[hq] at h;cases h
  | some q=>
   rw[hq] at h;simp only[Option.map_some,Option.some.injEq] at h;subst h;exact ih hq
theorem numb_none {l:List Stp}{p:Nat} (h:numb l p=none):∀ (k:Nat) (s:Stp),l[k]?=some s→s.pl≠p:=by
 induction l with
 | nil=>intro k s hk;simp at hk
 | cons a l ih=>
  simp only[numb] at h;split at h
  ·cases h
  ·rename_i e
   have h':numb l p=none:=by
    cases hq:numb l p with
    | none=>rfl
    | some q=>rw[hq] at h;cases h
   intro k s hk;cases k with
   | zero=>
    simp only[List.getElem?_cons_zero,Option.some.injEq] at hk;subst hk;exact e
   | succ k=>exact ih h' k s (by simpa using hk)
theorem numb_is {i:Nat}{l:List Stp} (h:Sorted i l) {k p:Nat}{s:Stp} (hk:l[k]?=some s) (hp:s.pl=p):numb l p=some k:=by
 cases hq:numb l p with
 | none=>exact absurd hp (numb_none hq k s hk)
 | some q=>
  obtain⟨t,ht,htp⟩:=numb_some hq;rcases Nat.lt_trichotomy k q with c | c | c
  ·have:=h.lt k q s t c hk ht;omega
  ·rw[c]
  have:=h.lt q k t s c ht hk;omega
end Flow
namespace Flow
open Wire
theorem after_shape {par:NN}{op a:Nat}{ks o r:LB} (h:after par op a ks=some (o,r)) :
  ∃ top,ks=r++top∧leS top (want par op a)∧o=r++give op top∧o.length≤1024:=by
 unfold after at h;split at h
 ·cases h
 ·rename_i hw
  split at h
  ·rename_i hs
   split at h
   ·rename_i hm
    simp only[Option.some.injEq,Prod.mk.injEq] at h;obtain⟨rfl,rfl⟩:=h;exact⟨ks.drop (ks.length-(want par op a).length),(List.take_append_drop _ _).symm,leSB_iff.1 hs,rfl,hm⟩
   cases h
  cases h
theorem le_num {x:UInt8}(h:le x 110):x=110:=by
 rcases le_cases.1 h with h | h | ⟨h,-⟩
 ·exact h
 ·exact absurd h (by decide)
 exact absurd h (by decide)
theorem le_txt {x:UInt8}(h:le x 116):x=116:=by
 rcases le_cases.1 h with h | h | ⟨h,-⟩
 ·exact h
 ·exact absurd h (by decide)
 exact absurd h (by decide)
theorem le_any {x:UInt8}(h:le x 97):x≠107:=by
 rcases le_cases.1 h with h | h | ⟨-,h,-⟩
 ·subst h;decide
 ·exact absurd h (by decide)
 exact h
theorem Chain.behind {m:Mo}{f locs:Nat}{c:LB}{i j k:Nat}{l:List Stp} (h:Chain m f locs c i l j) {s t:Stp} (hs:l[k]?=some s) (ht:l[k+1]?=some t):t.pl=s.nx:=by
 induction l generalizing i k with
 | nil=>simp at hs
 | cons a l ih=>
  cases k with
  | zero=>
   simp only[List.getElem?_cons_zero,Option.some.injEq] at hs;subst hs;cases l with
   | nil=>simp at ht
   | cons b l=>
    simp only[Nat.zero_add,List.getElem?_cons_succ,List.getElem?_cons_zero,Option.some.injEq] at ht;subst ht;exact (decodeL_next h.2.2.1 h.2.2.2.1).1
  | succ k=>
   simp only[List.getElem?_cons_succ] at hs ht;exact ih h.2.2 hs ht
theorem Chain.first {m:Mo}{f locs:Nat}{c:LB}{i j:Nat}{l:List Stp} (h:Chain m f locs c i l j) {s:Stp} (hs:l[0]?=some s):s.pl=i:=by
 cases l with
 | nil=>simp at hs
 | cons a l=>
  simp only[List.getElem?_cons_zero,Option.some.injEq] at hs;subst hs;exact (decodeL_next h.1 h.2.1).1
theorem Chain.decodes {m:Mo}{f locs:Nat}{c:LB}{i j k:Nat}{l:List Stp} (h:Chain m f locs c i l j) {s:Stp} (hs:l[k]?=some s):s.pl<c.length∧decodeL m f locs c s.pl=.inr s:=by
 induction l generalizing i k with
 | nil=>simp at hs
 | cons a l ih=>
  cases k with
  | zero=>
   simp only[List.getElem?_cons_zero,Option.some.injEq] at hs;subst hs;obtain⟨e,-⟩:=decodeL_next h.1 h.2.1;rw[e];exact⟨h.1,h.2.1⟩
  | succ k=>
   simp only[List.getElem?_cons_succ] at hs;exact ih h.2.2 hs
def Fits (l:List Stp) (G:List (Option (LB))) (p:Nat) (ks:LB):Prop:=
 ∃ (i:Nat) (s:Stp) (t:LB),l[i]?=some s∧s.pl=p∧G[i]?=some (some t)∧leS ks t
theorem Fits.lower {l:List Stp}{G:List (Option (LB))}{p:Nat}{ks ks':LB} (h:Fits l G p ks) (hl:leS ks' ks):Fits l G p ks':=by
 obtain⟨i,s,t,h1,h2,h3,h4⟩:=h;exact⟨i,s,t,h1,h2,h3,leS_trans hl h4⟩
theorem fits_begin {par:NN}{m:Mo}{f locs:Nat}{c:LB}{l:List Stp}{G:List (Option (LB))} (hr:Reads m f locs c l) (hG:Sol par l G):Fits l G 0 []:=by
 have h0:=hG.first;have hi:0<l.length:=by
  rw[Lgs] at h0;rw[← hG.size];exact h0.1
 have hs:l[0]?=some l[0]:=Lge hi;exact⟨0,l[0],[],hs,Chain.first hr hs,h0,leS_refl []⟩
theorem fits_step {par:NN}{m:Mo}{f locs:Nat}{c:LB}{l:List Stp}{G:List (Option (LB))} (hr:Reads m f locs c l) (hG:Sol par l G) {p:Nat}{ks:LB} (h:Fits l G p ks) :
  ∃ s o r,p<c.length∧decodeL m f locs c p=.inr s∧s.pl=p∧after par s.op s.a ks=some (o,r) ∧
   (far s.op=true→Fits l G s.a r)∧(halts s.op=false→Fits l G s.nx o):=by
 obtain⟨i,s,t,h1,h2,h3,h4⟩:=h;have hil:i<l.length:=by
  rw[Lgs] at h1;exact h1.1
 obtain⟨o,r,ha,hf,hn⟩:=hG.each i hil t s h3 h1;obtain⟨o',r',ha',hlo,hlr⟩:=after_mono h4 ha;obtain⟨hd1,hd2⟩:=Chain.decodes hr h1;rw[h2] at hd1 hd2;refine⟨s,o',r',hd1,hd2,h2,ha',?_,?_⟩
 ·intro hfar;obtain⟨k,hk,u,hu,hl⟩:=hf hfar;obtain⟨s',hs',hp⟩:=numb_some hk;exact⟨k,s',u,hs',hp,hu,leS_trans hlr hl⟩
 intro hh;obtain⟨u,hu,hl⟩:=hn hh;have hi1:i+1<l.length:=by
  rw[Lgs] at hu;rw[← hG.size];exact hu.1
 have hs':l[i+1]?=some l[i+1]:=Lge hi1;exact⟨i+1,l[i+1],u,hs',Chain.behind hr h1 hs',hu,leS_trans hlo hl⟩
end Flow
namespace Mach
open Wire Flow
structure Val where
 kind:Nat
 n:Int
 s:BA
def none0:BA:=⟨#[]⟩
def nothing:Val:=⟨0,0,none0⟩
def whole (n:Int):Val:=⟨1,n,none0⟩
def words (s:BA):Val:=⟨2,0,s⟩
def blankB (c:UInt8):Bool:=c==32 || c==9 || c==10
def digB (c:UInt8):Bool:=decide (48≤c.toNat) && decide (c.toNat≤57)
def skipL:LB→LB
 | []=>[]
 | c :: l=>if blankB c=true then skipL l else c :: l
def more (n:Int) (c:UInt8):Int:=if 10*n+((c.toNat:Int)-48)>1000000000 then 1000000001 else 10*n+((c.toNat:Int)-48)
def digL:Int→Nat→LB→Int × Nat × LB
 | n,k,[]=>(n,k,[])
 | n,k,c :: l=>if digB c=true then digL (more n c) (k+1) l else (n,k,c :: l)
def signL:LB→Bool × LB
 | []=>(false,[])
 | c :: l=>if c=43 then (false,l) else if c=45 then (true,l) else (false,c :: l)
def readL (l:LB):Int × Nat × LB:=
 ((if (signL (skipL l)).1=true then -(digL 0 0 (signL (skipL l)).2).1 else (digL 0 0 (signL (skipL l)).2).1),(digL 0 0 (signL (skipL l)).2).2)
def clampN (n:Int):Int:=if n>1000000000 then 1000000000 else if n < -1000000000 then -1000000000 else n
def looks (s:BA):Bool:=
 (readL (bl s)).2.2.all blankB && decide (0<(readL (bl s)).2.1) && decide (-1000000000≤(readL (bl s)).1) && decide ((readL (bl s)).1≤1000000000)
def readV (s:BA):Val:=if looks s=true then ⟨3,0,s⟩ else words s
def numT (s:BA):Int:=clampN (readL (bl s)).1
def numV (v:Val):Int:=if v.kind=0 then 0 else if v.kind=1 then v.n else numT v.s
def holdsV (v:Val):Bool:=if v.kind=2 then decide (v.s.size≠0) else decide (numV v≠0)
def cmpL:LB→LB→Int
 | [],[]=>0
 | [],_ :: _=>-1
 | _ :: _,[]=>1
 | a :: s,b :: t=>if a.toNat<b.toNat then -1 else if b.toNat<a.toNat then 1 else cmpL s t
def cmpI (x y:Int):Int:=if x<y then -1 else if x>y then 1 else 0
def truth (b:Bool):Int:=if b=true then 1 else 0
structure Env where
 mo:Mo
 fnd:BA→BA→Int × Int
 swp:BA→BA→BA→BA
 spl:BA→BA→LY
 itoa:Int→BA
 wr:Int→Int
def textV (E:Env) (v:Val):BA:=if v.kind=0 then none0 else if v.kind=1 then E.itoa v.n else v.s
def cmpV (E:Env) (a b:Val):Int:=
 if a.kind=2∨b.kind=2 then cmpL (bl (textV E a)) (bl (textV E b)) else cmpI (numV a) (numV b)
def cmpOp (k:Nat) (c:Int):Bool:=
 if k=29 then decide (c<0) else if k=30 then decide (c≤0) else if k=31 then decide (c=0) else if k=32 then decide (c≠0) else if k=33 then decide (c>0) else decide (c ≥ 0)
def sumOp (E:Env) (op:Nat) (x y:Int):Int × Nat:=
 if op=21∧y=0∨op=22∧y=0 then (0,3)
 else
  let n:=if op=18 then E.wr (x+y) else if op=19 then E.wr (x-y) else if op=20 then E.wr (x*y) else if op=21 then E.wr (x.tdiv y) else E.wr (x-E.wr (E.wr (x.tdiv y)*y))
  if n>1000000000∨n < -1000000000 then (0,4) else (n,0)
def signedN (a:Nat):Int:=if a % 2=0 then ((a / 2:Nat):Int) else -(((a+1) / 2:Nat):Int)
def hasK (a:List (BA × Val)) (k:BA):Bool:=a.any fun e=>decide (e.1=k)
def getK:List (BA × Val)→BA→Val
 | [],_=>nothing
 | e :: a,k=>if e.1=k then e.2 else getK a k
def setK:List (BA × Val)→BA→Val→List (BA × Val)
 | [],k,v=>[(k,v)]
 | e :: a,k,v=>if e.1=k then (k,v) :: a else e :: setK a k v
def dropK (a:List (BA × Val)) (k:BA):List (BA × Val):=a.filter fun e=>decide (e.1≠k)
def keysA (a:List (BA × Val)):LY:=a.map Prod.fst
def fillA (E:Env):Nat→LY→List (BA × Val)
 | _,[]=>[]
 | i,s :: l=>(E.itoa ((i:Int)+1),readV s) :: fillA E (i+1) l
def nextK (a:List (BA × Val)):LY→Option (BA × LY)
 | []=>none
 | k :: l=>if hasK a k=true then some (k,l) else nextK a l
def fieldsL:LB→LB→LY
 | f,[]=>if f=[] then [] else [⟨f.toArray⟩]
 | f,c :: l=>if blankB c=true then (if f=[] then fieldsL [] l else ⟨f.toArray⟩ :: fieldsL [] l) else fieldsL (f++[c]) l
def cutF (s:BA):LY:=fieldsL [] (bl s)
def joinF:LY→LB
 | []=>[]
 | [s]=>bl s
 | s :: t :: l=>bl s++32 :: joinF (t :: l)
def putF (l:LY) (n:Nat) (s:BA):LY:=(l++List.replicate (n-l.length) none0).set (n-1) s
structure Wd where
 recs:LY
 nr:Nat
 draws:List Int
 drawn:Nat
 rcd:BA
 flds:LY
 out:BA
 globs:List Val
 arrs:List (List (BA × Val))
def nextR (w:Wd):Wd × Bool:=
 match w.recs[w.nr]? with
 | none=>(w,false)
 | some s=>({ w with nr:=w.nr+1,rcd:=s,flds:=cutF s },true)
def fieldW (w:Wd) (n:Int):Val × Nat:=
 if n<0 then (nothing,5) else if n=0 then (readV w.rcd,0) else if n≤(w.flds.length:Int) then (readV (w.flds.getD (n.toNat-1) none0),0) else (nothing,0)
def setFieldW (w:Wd) (n:Int) (s:BA):Wd × Nat:=
 if n<0∨n>50 then (w,5)
 else if n=0 then ({ w with rcd:=s,flds:=cutF s },0)
 else if (joinF (putF w.flds n.toNat s)).length>100 then (w,6)
 else ({ w with rcd:=⟨(joinF (putF w.flds n.toNat s)).toArray⟩,flds:=putF w.flds n.toNat s },0)
def printW (w:Wd) (l:LY):Wd × Nat:=
 if w.out.size+(joinF l).length+1>1000 then (w,8) else ({ w with out:=⟨w.out.data++(joinF l++[10]).toArray⟩ },0)
def partL (m e:Int):Nat→LB→LB
 | _,[]=>[]
 | i,c :: l=>if m≤(i:Int)+1∧(i:Int)+1<e then c :: partL m e (i+1) l else partL m e (i+1) l
def indexL (t:LB):Nat→LB→Nat
 | i,s=>if t.isPrefixOf s=true then i+1 else match s with
  | []=>0
  | _ :: s=>indexL t (i+1) s
structure Cell where
 list:Bool
 v:Val
 arr:Nat
 keys:LY
def cv (v:Val):Cell:=⟨false,v,0,[]⟩
def c0:Cell:=cv nothing
def kd (c:Cell):UInt8:=if c.list=true then 107 else if c.v.kind=1 then 110 else if c.v.kind=2 then 116 else 97
structure Eff where
 w:Wd
 locs:List Val
 top:List Cell
 st:Nat
 code:Int
 go:Option Nat
def Eff.put (w:Wd) (locs:List Val) (v:Val):Eff:=⟨w,locs,[cv v],0,0,none⟩
def Eff.bad (w:Wd) (locs:List Val) (st:Nat):Eff:=⟨w,locs,[],st,0,none⟩
def Eff.off (w:Wd) (locs:List Val) (st:Nat):Eff:=⟨w,locs,[],st,0,none⟩
def eff (E:Env) (w:Wd) (locs:List Val) (op a b:Nat) (top:List Cell):Eff:=
 match op with
 | 0=>.put w locs (whole (signedN a))
 | 1=>.put w locs (words (E.mo.texts.getD a none0))
 | 2=>.put w locs nothing
 | 3=>.put w locs (locs.getD a nothing)
 | 4=>.off w (locs.set a (top.getD 0 c0).v) 0
 | 5=>.put w locs (w.globs.getD a nothing)
 | 6=>.off { w with globs:=w.globs.set a (top.getD 0 c0).v } locs 0
 | 7=>⟨w,locs,[cv (fieldW w (top.getD 0 c0).v.n).1],(fieldW w (top.getD 0 c0).v.n).2,0,none⟩
 | 8=>.off (setFieldW w (top.getD 0 c0).v.n (textV E (top.getD 1 c0).v)).1 locs (setFieldW w (top.getD 0 c0).v.n (textV E (top.getD 1 c0).v)).2
 | 9=>.put w locs (whole (w.flds.length:Int))
 | 10=>.put w locs (whole (w.nr:Int))
 | 11=>if hasK (w.arrs.getD a []) (top.getD 0 c0).v.s=true then .put w locs (getK (w.arrs.getD a []) (top.getD 0 c0).v.s)
   else if 30≤(w.arrs.getD a []).length then .bad w locs 7
   else .put { w with arrs:=w.arrs.set a (setK (w.arrs.getD a []) (top.getD 0 c0).v.s nothing) } locs nothing
 | 12=>if hasK (w.arrs.getD a []) (top.getD 0 c0).v.s=false∧30≤(w.arrs.getD a []).length then .bad w locs 7
   else .off { w with arrs:=w.arrs.set a (setK (w.arrs.getD a []) (top.getD 0 c0).v.s (top.getD 1 c0).v) } locs 0
 | 13=>.put w locs (whole (truth (hasK (w.arrs.getD a []) (top.getD 0 c0).v.s)))
 | 14=>.off { w with arrs:=w.arrs.set a (dropK (w.arrs.getD a []) (top.getD 0 c0).v.s) } locs 0
 | 15=>.off { w with arrs:=w.arrs.set a [] } locs 0
 | 16=>⟨w,locs,[⟨true,nothing,a,keysA (w.arrs.getD a [])⟩],0,0,none⟩
 | 17=>match nextK (w.arrs.getD (top.getD 0 c0).arr []) (top.getD 0 c0).keys with
  | none=>⟨w,locs,[],0,0,some a⟩
  | some (k,l)=>⟨w,locs,[⟨true,(top.getD 0 c0).v,(top.getD 0 c0).arr,l⟩,cv (words k)],0,0,none⟩
 | 18 | 19 | 20 | 21 | 22=>⟨w,locs,[cv (whole (sumOp E op (top.getD 0 c0).v.n (top.getD 1 c0).v.n).1)],(sumOp E op (top.getD 0 c0).v.n (top.getD 1 c0).v.n).2,0,none⟩
 | 23=>.put w locs (whole (E.wr (-(top.getD 0 c0).v.n)))
 | 24=>.put w locs (whole (truth (decide ((top.getD 0 c0).v.n=0))))
 | 25=>if (top.getD 0 c0).v.s.size+(top.getD 1 c0).v.s.size>100 then .bad w locs 6
   else .put w locs (words ((top.getD 0 c0).v.s++(top.getD 1 c0).v.s))
 | 26=>.put w locs (whole (numV (top.getD 0 c0).v))
 | 27=>.put w locs (words (textV E (top.getD 0 c0).v))
 | 28=>.put w locs (whole (truth (holdsV (top.getD 0 c0).v)))
 | 29 | 30 | 31 | 32 | 33 | 34=>.put w locs (whole (truth (cmpOp op (cmpV E (top.getD 0 c0).v (top.getD 1 c0).v))))
 | 35=>.put w locs (whole ((E.fnd (E.mo.pats.getD a none0) (top.getD 0 c0).v.s).1+1))
 | 36=>.put w locs (whole (if (E.fnd (E.mo.pats.getD a none0) (top.getD 0 c0).v.s).1<0 then -1 else (E.fnd (E.mo.pats.getD a none0) (top.getD 0 c0).v.s).2))
 | 37=>if (E.swp (E.mo.pats.getD a none0) (top.getD 0 c0).v.s (top.getD 1 c0).v.s).size>100 then .bad w locs 6
   else .put w locs (words (E.swp (E.mo.pats.getD a none0) (top.getD 0 c0).v.s (top.getD 1 c0).v.s))
 | 38=>if (E.spl (E.mo.pats.getD b none0) (top.getD 0 c0).v.s).length>30 then .bad w locs 7
   else .put { w with arrs:=w.arrs.set a (fillA E 0 (E.spl (E.mo.pats.getD b none0) (top.getD 0 c0).v.s)) } locs (whole ((E.spl (E.mo.pats.getD b none0) (top.getD 0 c0).v.s).length:Int))
 | 39=>.put w locs (whole ((top.getD 0 c0).v.s.size:Int))
 | 40=>.put w locs (words ⟨(partL (top.getD 1 c0).v.n (E.wr ((top.getD 1 c0).v.n+(top.getD 2 c0).v.n)) 0 (bl (top.getD 0 c0).v.s)).toArray⟩)
 | 41=>.put w locs (whole (indexL (bl (top.getD 1 c0).v.s) 0 (bl (top.getD 0 c0).v.s):Int))
 | 42=>.put (nextR w).1 locs (whole (truth (nextR w).2))
 | 43=>match w.draws[w.drawn]? with
  | none=>.put w locs (whole 0)
  | some n=>.put { w with drawn:=w.drawn+1 } locs (whole n)
 | 44=>.off (printW w (top.map fun c=>c.v.s)).1 locs (printW w (top.map fun c=>c.v.s)).2
 | 45=>⟨w,locs,[top.getD 0 c0,top.getD 0 c0],0,0,none⟩
 | 46=>⟨w,locs,[top.getD 1 c0,top.getD 0 c0,top.getD 1 c0],0,0,none⟩
 | 47=>.off w locs 0
 | 48=>⟨w,locs,[],0,0,some a⟩
 | 49=>⟨w,locs,[],0,0,if (top.getD 0 c0).v.n=0 then some a else none⟩
 | 53=>⟨w,locs,[],2,(top.getD 0 c0).v.n,none⟩
 | _=>.off w locs 0
theorem kd_cv (v:Val):kd (cv v)=if v.kind=1 then 110 else if v.kind=2 then 116 else 97:=rfl
theorem kd_any (v:Val):le (kd (cv v)) 97:=by
 rw[kd_cv];split
 ·exact le_cases.2 (Or.inr (Or.inr ⟨rfl,by decide,by decide⟩))
 split
 ·exact le_cases.2 (Or.inr (Or.inr ⟨rfl,by decide,by decide⟩))
 exact le_refl _
theorem kd_num {c:Cell}(h:kd c=110):c.list=false∧c.v.kind=1:=by
 unfold kd at h;split at h
 ·exact absurd h (by decide)
 ·rename_i hl
  split at h
  ·rename_i hk;exact⟨by simpa using hl,hk⟩
  split at h
  ·exact absurd h (by decide)
  exact absurd h (by decide)
theorem kd_txt {c:Cell}(h:kd c=116):c.list=false∧c.v.kind=2:=by
 unfold kd at h;split at h
 ·exact absurd h (by decide)
 ·rename_i hl
  split at h
  ·exact absurd h (by decide)
  split at h
  ·rename_i hk;exact⟨by simpa using hl,hk⟩
  exact absurd h (by decide)
theorem kd_val {c:Cell}(h:kd c≠107):c.list=false:=by
 unfold kd at h;split at h
 ·exact absurd rfl h
 ·rename_i hl;simpa using hl
end Mach
namespace Mach
open Wire Flow
theorem one_top {top:List Cell}{b:UInt8} (h:leS (top.map kd) [b]):∃ c,top=[c]∧le (kd c) b:=by
 cases top with
 | nil=>exact h.elim
 | cons c t=>cases t with
  | nil=>exact⟨c,rfl,h.1⟩
  | cons=>exact h.2.elim
theorem two_top {top:List Cell}{a b:UInt8} (h:leS (top.map kd) [a,b]):∃ c d,top=[c,d]∧le (kd c) a∧le (kd d) b:=by
 cases top with
 | nil=>exact h.elim
 | cons c t=>
  obtain⟨d,rfl,hd⟩:=one_top h.2;exact⟨c,d,rfl,h.1,hd⟩
theorem eff_kinds {E:Env}{w:Wd}{locs:List Val}{par:NN}:∀ {op a b:Nat}{top:List Cell},op<54→op≠50→op≠51→op≠52→leS (top.map kd) (want par op a)→(eff E w locs op a b top).st=0 →
  ((eff E w locs op a b top).go=none∧halts op=false∧leS ((eff E w locs op a b top).top.map kd) (give op (top.map kd))) ∨
  (far op=true∧(eff E w locs op a b top).go=some a∧(eff E w locs op a b top).top=[]):=by
 intro op a b top hop h50 h51 h52 hk hst
 match op,hop with
 | 0,_=>
  exact Or.inl ⟨rfl,rfl,le_refl _,trivial⟩
 | 1,_=>
  exact Or.inl ⟨rfl,rfl,le_refl _,trivial⟩
 | 2,_=>
  exact Or.inl ⟨rfl,rfl,kd_any _,trivial⟩
 | 3,_=>
  exact Or.inl ⟨rfl,rfl,kd_any _,trivial⟩
 | 4,_=>
  exact Or.inl ⟨rfl,rfl,trivial⟩
 | 5,_=>
  exact Or.inl ⟨rfl,rfl,kd_any _,trivial⟩
 | 6,_=>
  exact Or.inl ⟨rfl,rfl,trivial⟩
 | 7,_=>
  exact Or.inl ⟨rfl,rfl,kd_any _,trivial⟩
 | 8,_=>
  exact Or.inl ⟨rfl,rfl,trivial⟩
 | 9,_=>
  exact Or.inl ⟨rfl,rfl,le_refl _,trivial⟩
 | 10,_=>
  exact Or.inl ⟨rfl,rfl,le_refl _,trivial⟩
 | 11,_=>
  simp only[eff] at hst ⊢
  split
  ·exact Or.inl ⟨rfl,rfl,kd_any _,trivial⟩
  ·rename_i h1
   rw[if_neg h1] at hst
   split
   ·rename_i h2
    rw[if_pos h2] at hst
    cases hst
   ·exact Or.inl ⟨rfl,rfl,kd_any _,trivial⟩
 | 12,_=>
  simp only[eff] at hst ⊢
  split
  ·rename_i h1
   rw[if_pos h1] at hst
   cases hst
  ·exact Or.inl ⟨rfl,rfl,trivial⟩
 | 13,_=>
  exact Or.inl ⟨rfl,rfl,le_refl _,trivial⟩
 | 14,_=>
  exact Or.inl ⟨rfl,rfl,trivial⟩
 | 15,_=>
  exact Or.inl ⟨rfl,rfl,trivial⟩
 | 16,_=>
  exact Or.inl ⟨rfl,rfl,le_refl _,trivial⟩
 | 17,_=>
  simp only[eff]
  split
  ·exact Or.inr ⟨rfl,rfl,rfl⟩
  ·exact Or.inl ⟨rfl,rfl,le_refl _,le_refl _,trivial⟩
 | 18,_=>
  exact Or.inl ⟨rfl,rfl,le_refl _,trivial⟩
 | 19,_=>
  exact Or.inl ⟨rfl,rfl,le_refl _,trivial⟩
 | 20,_=>
  exact Or.inl ⟨rfl,rfl,le_refl _,trivial⟩
 | 21,_=>
  exact Or.inl ⟨rfl,rfl,le_refl _,trivial⟩
 | 22,_=>
  exact Or.inl ⟨rfl,rfl,le_refl _,trivial⟩
 | 23,_=>
  exact Or.inl ⟨rfl,rfl,le_refl _,trivial⟩
 | 24,_=>
  exact Or.inl ⟨rfl,rfl,le_refl _,trivial⟩
 | 25,_=>
  simp only[eff] at hst ⊢
  split
  ·rename_i h1
   rw[if_pos h1] at hst
   cases hst
  ·exact Or.inl ⟨rfl,rfl,le_refl _,trivial⟩
 | 26,_=>
  exact Or.inl ⟨rfl,rfl,le_refl _,trivial⟩
 | 27,_=>
  exact Or.inl ⟨rfl,rfl,le_refl _,trivial⟩
 | 28,_=>
  exact Or.inl ⟨rfl,rfl,le_refl _,trivial⟩
 | 29,_=>
  exact Or.inl ⟨rfl,rfl,le_refl _,trivial⟩
 | 30,_=>
  exact Or.inl ⟨rfl,rfl,le_refl _,trivial⟩
 | 31,_=>
  exact Or.inl ⟨rfl,rfl,le_refl _,trivial⟩
 | 32,_=>
  exact Or.inl ⟨rfl,rfl,le_refl _,trivial⟩
 | 33,_=>
  exact Or.inl ⟨rfl,rfl,le_refl _,trivial⟩
 | 34,_=>
  exact Or.inl ⟨rfl,rfl,le_refl _,trivial⟩
 | 35,_=>
  exact Or.inl ⟨rfl,rfl,le_refl _,trivial⟩
 | 36,_=>
  exact Or.inl ⟨rfl,rfl,le_refl _,trivial⟩
 | 37,_=>
  simp only[eff] at hst ⊢
  split
  ·rename_i h1
   rw[if_pos h1] at hst
   cases hst
  ·exact Or.inl ⟨rfl,rfl,le_refl _,trivial⟩
 | 38,_=>
  simp only[eff] at hst ⊢
  split
  ·rename_i h1
   rw[if_pos h1] at hst
   cases hst
  ·exact Or.inl ⟨rfl,rfl,le_refl _,trivial⟩
 | 39,_=>
  exact Or.inl ⟨rfl,rfl,le_refl _,trivial⟩
 | 40,_=>
  exact Or.inl ⟨rfl,rfl,le_refl _,trivial⟩
 | 41,_=>
  exact Or.inl ⟨rfl,rfl,le_refl _,trivial⟩
 | 42,_=>
  exact Or.inl ⟨rfl,rfl,le_refl _,trivial⟩
 | 43,_=>
  simp only[eff]
  split
  ·exact Or.inl ⟨rfl,rfl,le_refl _,trivial⟩
  ·exact Or.inl ⟨rfl,rfl,le_refl _,trivial⟩
 | 44,_=>
  exact Or.inl ⟨rfl,rfl,trivial⟩
 | 45,_=>
  obtain⟨c,rfl,h1⟩:=one_top hk
  exact Or.inl ⟨rfl,rfl,le_refl _,le_refl _,trivial⟩
 | 46,_=>
  obtain⟨c,d,rfl,h1,h2⟩:=two_top hk
  exact Or.inl ⟨rfl,rfl,le_refl _,le_refl _,le_refl _,trivial⟩
 | 47,_=>
  exact Or.inl ⟨rfl,rfl,trivial⟩
 | 48,_=>
  exact Or.inr ⟨rfl,rfl,rfl⟩
 | 49,_=>
  by_cases h1:(top.getD 0 c0).v.n=0
  ·exact Or.inr ⟨rfl,by simp only[eff];rw[if_pos h1],rfl⟩
  ·exact Or.inl ⟨by simp only[eff];rw[if_neg h1],rfl,trivial⟩
 | 50,_=>
  exact absurd rfl h50
 | 51,_=>
  exact absurd rfl h51
 | 52,_=>
  exact absurd rfl h52
 | 53,_=>
  cases hst
 | n+54,h=>exact absurd h (by omega)
end Mach
namespace Mach
open Wire Flow
structure Frm where
 f:Nat
 at_:Nat
 locs:List Val
 stk:List Cell
structure St where
 w:Wd
 frs:List Frm
 st:Nat
 code:Int
 used:Nat
def fnOf (m:Mo) (f:Nat):Wire.Fn:=m.fns.getD f ⟨0,0,none0⟩
def codeOf (m:Mo) (f:Nat):LB:=bl (fnOf m f).code
def locsOf (m:Mo) (f:Nat):Nat:=(fnOf m f).locs.toNat
def parOf (m:Mo) (f:Nat):Nat:=(fnOf m f).params.toNat
def enter (m:Mo) (f:Nat) (args:List Val):Frm:=⟨f,0,args++List.replicate (locsOf m f-args.length) nothing,[]⟩
def over (m:Mo) (s:St) (f:Nat):St:=
 if f=2 then { s with st:=1 }
 else if (nextR s.w).2=true then { s with w:=(nextR s.w).1,frs:=[enter m 1 []] }
 else { s with frs:=[enter m 2 []] }
def does (E:Env) (s:St) (low:List Frm) (fr:Frm) (i:Stp) (rest top:List Cell):St:=
 if i.op=50 then
  if 20<low.length+1 then { s with st:=9,used:=s.used+1 }
  else { s with used:=s.used+1,frs:=low++[⟨fr.f,i.nx,fr.locs,rest⟩,enter E.mo i.a (top.map Cell.v)] }
 else if i.op=51 then
  match low.getLast? with
  | none=>s
  | some g=>{ s with used:=s.used+1,frs:=low.dropLast++[⟨g.f,g.at_,g.locs,g.stk++[cv (top.getD 0 c0).v]⟩] }
 else if i.op=52 then over E.mo { s with used:=s.used+1 } fr.f
 else if (eff E s.w fr.locs i.op i.a i.b top).st≠0 then
  { s with w:=(eff E s.w fr.locs i.op i.a i.b top).w,st:=(eff E s.w fr.locs i.op i.a i.b top).st,code:=(eff E s.w fr.locs i.op i.a i.b top).code,used:=s.used+1 }
 else
  { s with w:=(eff E s.w fr.locs i.op i.a i.b top).w,used:=s.used+1,frs:=low++[⟨fr.f,((eff E s.w fr.locs i.op i.a i.b top).go).getD i.nx,(eff E s.w fr.locs i.op i.a i.b top).locs,rest++(eff E s.w fr.locs i.op i.a i.b top).top⟩] }
structure Ready (E:Env) (s:St) (low:List Frm) (fr:Frm) (i:Stp) (rest top:List Cell):Prop where
 frs:s.frs=low++[fr]
 at_:fr.at_<(codeOf E.mo fr.f).length
 dec:decodeL E.mo fr.f (locsOf E.mo fr.f) (codeOf E.mo fr.f) fr.at_=.inr i
 stk:fr.stk=rest++top
 takes:leS (top.map kd) (want (parOf E.mo) i.op i.a)
 high:rest.length+(give i.op (top.map kd)).length≤1024
theorem Ready.unique {E:Env}{s:St}{low low':List Frm}{fr fr':Frm}{i i':Stp}{rest rest' top top':List Cell} (h:Ready E s low fr i rest top) (g:Ready E s low' fr' i' rest' top'):low=low'∧fr=fr'∧i=i'∧rest=rest'∧top=top':=by
 have e:=h.frs.symm.trans g.frs;obtain⟨e1,e2⟩:=List.append_inj' e rfl;simp only[List.cons.injEq,and_true] at e2;subst e1 e2;have e3:=h.dec.symm.trans g.dec;simp only[Sum.inr.injEq] at e3;subst e3;have e4:=h.stk.symm.trans g.stk;have l1:=leS_length h.takes;have l2:=leS_length g.takes;rw[List.length_map] at l1 l2;obtain⟨e5,e6⟩:=List.append_inj' e4 (l1.trans l2.symm);exact⟨rfl,rfl,rfl,e5,e6⟩
def FnOk (m:Mo) (f:Nat):Prop:=∃ l,Reads m f (locsOf m f) (codeOf m f) l∧badJump l l=none∧Flow.Safe (parOf m) l
def FrFit (m:Mo) (f at_:Nat) (ks:LB):Prop:=∃ l G,Reads m f (locsOf m f) (codeOf m f) l∧Sol (parOf m) l G∧Fits l G at_ ks
theorem FrFit.lower {m:Mo}{f at_:Nat}{ks ks':LB} (h:FrFit m f at_ ks) (hl:leS ks' ks):FrFit m f at_ ks':=by
 obtain⟨l,G,h1,h2,h3⟩:=h;exact⟨l,G,h1,h2,h3.lower hl⟩
theorem FnOk.begin {m:Mo}{f:Nat} (h:FnOk m f):FrFit m f 0 []:=by
 obtain⟨l,h1,h2,G,h3⟩:=h;exact⟨l,G,h1,h3,fits_begin h1 h3⟩
structure Inv (m:Mo) (frs:List Frm):Prop where
 some_:frs≠[]
 kinds:∀ i g,frs[i]?=some g→(i=0↔g.f<3)
 fns:∀ g ∈ frs,g.f<m.fns.length∧g.locs.length=locsOf m g.f
 on:∀ g,frs.getLast?=some g→FrFit m g.f g.at_ (g.stk.map kd)∧g.stk.length≤1024
 low:∀ g ∈ frs.dropLast,FrFit m g.f g.at_ (g.stk.map kd++[97])∧g.stk.length+1≤1024
theorem Inv.split {m:Mo}{frs:List Frm} (h:Inv m frs):∃ low fr,frs=low++[fr]:=by
 rcases List.eq_nil_or_concat frs with h0 | ⟨low,fr,h0⟩
 ·exact absurd h0 h.some_
 exact⟨low,fr,by simpa using h0⟩
theorem map_kd_split {stk:List Cell}{r t:LB} (h:stk.map kd=r++t):∃ rest top,stk=rest++top∧rest.map kd=r∧top.map kd=t:=by
 obtain⟨a,b,h1,h2,h3⟩:=List.map_eq_append_iff.1 h;exact⟨a,b,h1,h2,h3⟩
theorem Inv.ready {E:Env}{s:St} (h:Inv E.mo s.frs):∃ low fr i rest top,Ready E s low fr i rest top∧fr.stk.length≤1024 ∧
  (far i.op=true→FrFit E.mo fr.f i.a (rest.map kd))∧(halts i.op=false→FrFit E.mo fr.f i.nx (rest.map kd++give i.op (top.map kd)))∧mayOp fr.f i.op=true:=by
 obtain⟨low,fr,hs⟩:=h.split;obtain⟨⟨l,G,hr,hG,hf⟩,hh⟩:=h.on fr (by rw[hs];simp);obtain⟨i,o,r,h1,h2,h3,h4,h5,h6⟩:=fits_step hr hG hf;obtain⟨top,e1,e2,e3,e4⟩:=after_shape h4;obtain⟨rest,tp,f1,f2,f3⟩:=map_kd_split e1;subst f2 f3;obtain⟨-,-,-,-,hm⟩:=decodeL_next h1 h2;refine⟨low,fr,i,rest,tp,⟨hs,h1,h2,f1,e2,?_⟩,hh,?_,?_,hm⟩
 ·have:=e4;rw[e3] at this;simpa using this
 ·intro hfar;exact⟨l,G,hr,hG,h5 hfar⟩
 intro hh2;rw[← e3];exact⟨l,G,hr,hG,h6 hh2⟩
theorem give_50 (t:LB):give 50 t=[97]:=rfl
theorem leS_map_append {rest top:List Cell}{t:LB} (h:leS (top.map kd) t):leS ((rest++top).map kd) (rest.map kd++t):=by
 rw[List.map_append];exact leS_append (leS_refl _) h
theorem eff_locs {E:Env}{w:Wd}{locs:List Val}{op a b:Nat}{top:List Cell}:(eff E w locs op a b top).locs.length=locs.length:=by
 unfold eff;split <;> (try rfl)
 ·simp[Eff.off]
 ·split <;> (try split) <;> rfl
 ·split <;> rfl
 ·split <;> rfl
 ·split <;> rfl
 ·split <;> rfl
 ·split <;> rfl
 split <;> rfl
theorem inv_enter {m:Mo}{f:Nat} (hf:f<3) (hm:f<m.fns.length) (h:FnOk m f):Inv m [enter m f []] where
 some_:=by simp
 kinds:=by
  intro i g hi;cases i with
  | zero=>
   simp only[List.getElem?_cons_zero,Option.some.injEq] at hi;subst hi;simp[enter,hf]
  | succ i=>simp at hi
 fns:=by
  intro g hg;simp only[List.mem_singleton] at hg;subst hg;simp[enter,hm]
 on:=by
  intro g hg;simp only[List.getLast?_singleton,Option.some.injEq] at hg;subst hg;exact⟨by simpa [enter] using h.begin,by simp[enter]⟩
 low:=by
  intro g hg;simp at hg
theorem Inv.change {m:Mo}{low:List Frm}{fr fr':Frm} (h:Inv m (low++[fr])) (hf:fr'.f=fr.f) (hl:fr'.locs.length=fr.locs.length) (hfit:FrFit m fr'.f fr'.at_ (fr'.stk.map kd)) (hh:fr'.stk.length≤1024):Inv m (low++[fr']) where
 some_:=by simp
 kinds:=by
  intro i g hi;rcases Nat.lt_trichotomy i low.length with c | c | c
  ·rw[List.getElem?_append_left c] at hi;exact h.kinds i g (by rw[List.getElem?_append_left c];exact hi)
  ·subst c;rw[List.getElem?_append_right (Nat.le_refl _)] at hi;simp only[Nat.sub_self,List.getElem?_cons_zero,Option.some.injEq] at hi;subst hi;rw[hf];exact h.kinds low.length fr (by rw[List.getElem?_append_right (Nat.le_refl _)];simp)
  rw[List.getElem?_append_right (Nat.le_of_lt c)] at hi;have:i-low.length≠0:=by omega
  obtain⟨k,hk⟩:∃ k,i-low.length=k+1:=⟨i-low.length-1,by omega⟩;rw[hk] at hi;simp at hi
 fns:=by
  intro g hg;rcases List.mem_append.1 hg with hg | hg
  ·exact h.fns g (List.mem_append.2 (Or.inl hg))
  simp only[List.mem_singleton] at hg;subst hg;have:=h.fns fr (by simp);rw[hf,hl];exact this
 on:=by
  intro g hg;simp only[List.getLast?_append,List.getLast?_singleton,Option.some_or,Option.some.injEq] at hg;subst hg;exact⟨hfit,hh⟩
 low:=by
  intro g hg;have:=h.low g;simp only[List.dropLast_concat] at hg this;exact this hg
theorem Inv.call {m:Mo}{low:List Frm}{fr fr':Frm}{f:Nat}{args:List Val} (h:Inv m (low++[fr])) (hf:fr'.f=fr.f) (hl:fr'.locs.length=fr.locs.length) (hfit:FrFit m fr'.f fr'.at_ (fr'.stk.map kd++[97])) (hh:fr'.stk.length+1≤1024)
  (h3:3≤f) (hm:f<m.fns.length) (ha:args.length≤locsOf m f) (hok:FnOk m f):Inv m (low++[fr',enter m f args]) where
 some_:=by simp
 kinds:=by
  intro i g hi;rcases Nat.lt_or_ge i (low.length) with c | c
  ·rw[List.getElem?_append_left c] at hi;exact h.kinds i g (by rw[List.getElem?_append_left c];exact hi)
  rw[List.getElem?_append_right c] at hi;rcases Nat.eq_or_lt_of_le c with c | c
  ·rw[← c] at hi ⊢;simp only[Nat.sub_self,List.getElem?_cons_zero,Option.some.injEq] at hi;subst hi;rw[hf];exact h.kinds low.length fr (by rw[List.getElem?_append_right (Nat.le_refl _)];simp)
  obtain⟨k,hk⟩:∃ k,i-low.length=k+1:=⟨i-low.length-1,by omega⟩;rw[hk,List.getElem?_cons_succ] at hi;cases k with
  | zero=>
   simp only[List.getElem?_cons_zero,Option.some.injEq] at hi;subst hi;simp only[enter];omega
  | succ k=>simp at hi
 fns:=by
  intro g hg;rcases List.mem_append.1 hg with hg | hg
  ·exact h.fns g (List.mem_append.2 (Or.inl hg))
  simp only[List.mem_cons,List.not_mem_nil,or_false] at hg;rcases hg with rfl | rfl
  ·have:=h.fns fr (by simp);rw[hf,hl];exact this
  refine⟨hm,?_⟩;simp only[enter,Lla,List.length_replicate];omega
 on:=by
  intro g hg;have e:low++[fr',enter m f args]=(low++[fr'])++[enter m f args]:=by simp
  rw[e] at hg;simp only[List.getLast?_append,List.getLast?_singleton,Option.some_or,Option.some.injEq] at hg;subst hg;exact⟨by simpa [enter] using hok.begin,by simp[enter]⟩
 low:=by
  intro g hg;have e:low++[fr',enter m f args]=(low++[fr'])++[enter m f args]:=by simp
  rw[e,List.dropLast_concat] at hg;rcases List.mem_append.1 hg with hg | hg
  ·have:=h.low g;simp only[List.dropLast_concat] at this;exact this hg
  simp only[List.mem_singleton] at hg;subst hg;exact⟨hfit,hh⟩
theorem Inv.ret {m:Mo}{low:List Frm}{g fr:Frm}{c:Cell} (h:Inv m (low++[g]++[fr])) (hc:le (kd c) 97):Inv m (low++[⟨g.f,g.at_,g.locs,g.stk++[c]⟩]):=by
 have hg:=h.low g (by simp)
 have h':Inv m (low++[⟨g.f,g.at_,g.locs,g.stk++[c]⟩]):={
  some_:=by simp
  kinds:=by
   intro i x hi
   rcases Nat.lt_or_ge i low.length with d | d
   ·rw[List.getElem?_append_left d] at hi
    exact h.kinds i x (by rw[List.append_assoc,List.getElem?_append_left d];exact hi)
   ·rw[List.getElem?_append_right d] at hi
    rcases Nat.eq_or_lt_of_le d with d | d
    ·rw[← d] at hi ⊢
     simp only[Nat.sub_self,List.getElem?_cons_zero,Option.some.injEq] at hi
     subst hi
     exact h.kinds low.length g (by rw[List.append_assoc,List.getElem?_append_right (Nat.le_refl _)];simp)
    ·obtain⟨k,hk⟩:∃ k,i-low.length=k+1:=⟨i-low.length-1,by omega⟩
     rw[hk] at hi
     simp at hi
  fns:=by
   intro x hx
   rcases List.mem_append.1 hx with hx | hx
   ·exact h.fns x (by simp[hx])
   ·simp only[List.mem_singleton] at hx
    subst hx
    exact h.fns g (by simp)
  on:=by
   intro x hx
   simp only[List.getLast?_append,List.getLast?_singleton,Option.some_or,Option.some.injEq] at hx
   subst hx
   refine⟨hg.1.lower ?_,by simpa using hg.2⟩
   rw[List.map_append]
   exact leS_append (leS_refl _) ⟨hc,trivial⟩
  low:=by
   intro x hx
   simp only[List.dropLast_concat] at hx
   exact h.low x (by simp[hx]) }
 exact h'
theorem Inv.does {E:Env}{s:St}{low:List Frm}{fr:Frm}{i:Stp}{rest top:List Cell} (hI:Inv E.mo s.frs) (hF:∀ f,f<E.mo.fns.length→FnOk E.mo f) (h3:3≤E.mo.fns.length)
  (hpar:∀ f,f<E.mo.fns.length→parOf E.mo f≤locsOf E.mo f) (hcall:i.op=50→3≤i.a∧i.a<E.mo.fns.length)
  (hR:Ready E s low fr i rest top) (hst:(does E s low fr i rest top).st=0):Inv E.mo (does E s low fr i rest top).frs:=by
 obtain⟨low',fr',i',rest',top',hR',hh,hfar,hgo,hm⟩:=hI.ready;obtain⟨rfl,rfl,rfl,rfl,rfl⟩:=hR.unique hR';have hI':=hI;rw[hR.frs] at hI';have hop:=mayOp_lt hm;have hhigh:=hR.high
 revert hst
 unfold Mach.does;split
 ·rename_i h50
  split
  ·intro hst;cases hst
  intro hst;obtain⟨ha1,ha2⟩:=hcall h50;have hg:=hgo (by rw[h50];rfl);rw[h50,give_50] at hg hhigh;refine hI'.call (fr':=⟨fr.f,i.nx,fr.locs,rest⟩) rfl rfl hg (by simpa using hhigh) ha1 ha2 ?_ (hF _ ha2);have hl:=leS_length hR.takes;rw[List.length_map,h50] at hl;have:(want (parOf E.mo) 50 i.a).length=parOf E.mo i.a:=by simp[want]
  rw[List.length_map,hl,this];exact hpar _ ha2
 ·rename_i h50
  split
  ·rename_i h51
   intro hst;rcases List.eq_nil_or_concat low with h0 | ⟨low2,g,h0⟩
   ·subst h0;have:=(hI'.kinds 0 fr (by simp)).1 rfl;unfold mayOp at hm;rw[h51] at hm;simp[this] at hm
   have h0':low=low2++[g]:=by simpa using h0
   subst h0';simp only[List.getLast?_append,List.getLast?_singleton,Option.some_or,List.dropLast_concat];exact hI'.ret (kd_any _)
  ·rename_i h51
   split
   ·rename_i h52
    intro hst;unfold over at hst ⊢;split
    ·rename_i h2
     rw[if_pos h2] at hst;cases hst
    split
    ·exact inv_enter (by omega) (by omega) (hF 1 (by omega))
    exact inv_enter (by omega) (by omega) (hF 2 (by omega))
   ·rename_i h52
    split
    ·rename_i hne
     intro hst;exact absurd hst hne
    ·rename_i he
     intro hst;have he':(eff E s.w fr.locs i.op i.a i.b top).st=0:=by
      rcases Nat.eq_zero_or_pos (eff E s.w fr.locs i.op i.a i.b top).st with c | c
      ·exact c
      exact absurd (show (eff E s.w fr.locs i.op i.a i.b top).st≠0 by omega) he
     rcases eff_kinds hop h50 h51 h52 hR.takes he' with ⟨e1,e2,e3⟩ | ⟨e1,e2,e3⟩
     ·refine hI'.change rfl eff_locs ?_ ?_
      ·rw[e1];exact (hgo e2).lower (leS_map_append e3)
      have:=leS_length e3;rw[List.length_map] at this;simp only[Lla];omega
     refine hI'.change rfl eff_locs ?_ ?_
     ·rw[e2,e3,List.append_nil];exact hfar e1
     rw[e3,List.append_nil];have:=hR.stk;rw[this] at hh;simp only[Lla] at hh;simp only;omega
end Mach
end Go.Proofs.YtmolfmgchbjnbaaGreatDoor
