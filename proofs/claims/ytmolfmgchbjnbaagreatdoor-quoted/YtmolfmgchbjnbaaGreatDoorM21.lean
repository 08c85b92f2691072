import Derived.Laws.Cells
import Derived.Laws.Slices
import Derived.Laws.BytesString
import Derived.Laws.Tables
import Derived.Lib.IndexBytes
import Derived.Test.YtmolfmgchbjnbaaGreatDoorM20
set_option linter.unusedSimpArgs false
set_option linter.unusedVariables false
set_option linter.unusedSectionVars false
set_option maxRecDepth 100000
set_option maxHeartbeats 40000000
namespace Go.Proofs.YtmolfmgchbjnbaaGreatDoor.Ev
open Go
structure MB where
 b:Nat
 s:Nat
 N:Nat
 z:Nat
abbrev Mp:=Nat→Option (Option MB)
def L2 {α β:Type} (R:α→β→Prop) (l:List α) (l':List β):Prop:=l.length=l'.length∧∀ (i:Nat) x y,l[i]?=some x→l'[i]?=some y→R x y
section
variable {α β:Type}{R R':α→β→Prop}
theorem L2.nil:L2 R [] []:=⟨rfl,fun i x y h=>by simp at h⟩
theorem L2.cons {x:α}{y:β}{l:List α}{l':List β} (h:R x y) (t:L2 R l l'):L2 R (x :: l) (y :: l'):=by
 refine⟨by simp[t.1],fun i a b ha hb=>?_⟩;cases i with
 | zero=>simp at ha hb;subst ha;subst hb;exact h
 | succ i=>simp at ha hb;exact t.2 i a b ha hb
theorem L2.head {x:α}{y:β}{l:List α}{l':List β} (h:L2 R (x :: l) (y :: l')):R x y:=h.2 0 x y rfl rfl
theorem L2.tail {x:α}{y:β}{l:List α}{l':List β} (h:L2 R (x :: l) (y :: l')):L2 R l l':=⟨by simpa using h.1,fun i a b ha hb=>h.2 (i+1) a b (by simpa using ha) (by simpa using hb)⟩
theorem L2.nil_left {l':List β}(h:L2 R [] l'):l'=[]:=by have:=h.1;simp at this;exact List.eq_nil_of_length_eq_zero this.symm
theorem L2.cons_left {x:α}{l:List α}{l':List β} (h:L2 R (x :: l) l'):∃ y r,l'=y :: r∧R x y∧L2 R l r:=by
 cases l' with
 | nil=>have:=h.1;simp at this
 | cons y r=>exact⟨y,r,rfl,h.head,h.tail⟩
theorem L2.mono {l:List α}{l':List β} (h:L2 R l l') (hR:∀ x y,R x y→R' x y):L2 R' l l':=⟨h.1,fun i x y hx hy=>hR x y (h.2 i x y hx hy)⟩
theorem L2.at {l:List α}{l':List β} (h:L2 R l l') {i:Nat}{x:α} (hx:l[i]?=some x):∃ y,l'[i]?=some y∧R x y:=by
 have hi:i<l'.length:=by rw[← h.1];exact (Lgs.1 hx).1
 exact⟨l'[i],Lge hi,h.2 i x _ hx (Lge hi)⟩
theorem L2.append {l r:List α}{l' r':List β} (h:L2 R l l') (t:L2 R r r'):L2 R (l++r) (l'++r'):=by
 induction l generalizing l' with
 | nil=>rw[h.nil_left];simpa using t
 | cons x l ih=>
  obtain⟨y,q,rfl,h1,h2⟩:=h.cons_left;exact .cons h1 (ih h2)
theorem L2.take {l:List α}{l':List β} (h:L2 R l l') (n:Nat):L2 R (l.take n) (l'.take n):=by
 refine⟨by simp[h.1],fun i x y hx hy=>?_⟩;rw[List.getElem?_take] at hx hy;split at hx
 ·rename_i hi;rw[if_pos hi] at hy;exact h.2 i x y hx hy
 cases hx
theorem L2.drop {l:List α}{l':List β} (h:L2 R l l') (n:Nat):L2 R (l.drop n) (l'.drop n):=by
 refine⟨by simp[h.1],fun i x y hx hy=>?_⟩;rw[List.getElem?_drop] at hx hy;exact h.2 _ x y hx hy
end
theorem nth_eq {α:Type}:∀ (l:List α) (i:Nat),nth l i=l[i]?
 | [],i=>by simp[nth]
 | x :: l,0=>by simp[nth]
 | x :: l,i+1=>by simp[nth,nth_eq l i]
theorem allSome_ok {α β:Type}{f:α→Option β}:∀ {l:List α}{r:List β},allSome f l=some r→L2 (fun x y=>f x=some y) l r:=by
 intro l;induction l with
 | nil=>intro r h;simp only[allSome,Option.some.injEq] at h;subst h;exact .nil
 | cons x l ih=>
  intro r h;simp only[allSome] at h;cases h1:f x with
  | none=>simp[h1] at h
  | some y=>
   cases h2:allSome f l with
   | none=>simp[h1,h2] at h
   | some q=>
    simp only[h1,h2,Option.bind_some,Option.some.injEq] at h;subst h;exact .cons h1 (ih h2)
def AdR (m:Mp) (a a':Addr):Prop:=a.spot=none∧a'.spot=none∧(m a.block=some none∨∃ x,m a.block=some (some x)∧a'.block=x.b∧a'.off=a.off+x.s)
def SlR (m:Mp) (a a':Addr) (c:Nat):Prop:=a.spot=none∧a'.spot=none∧(m a.block=some none∨∃ x,m a.block=some (some x)∧a'.block=x.b∧a'.off=a.off+x.s∧a'.off+c*x.z≤x.N)
def rho [Inhabited (Nat→BA)]:Nat→BA:=default
def RhoI [Inhabited (Nat→BA)]:Prop:=∀ i j,rho i=rho j→i=j
variable [Inhabited (Nat→BA)]
def S0 (m:Mp) (v v':Value):Prop:=
 match v,v' with
 | .bool a,.bool b=>a=b
 | .int k a,.int k' b=>k=k'∧a=b∧(k=.i64→a<9223372036854775808)
 | .string a,.string b=>a=b
 | .pointer none,.pointer none=>True
 | .pointer (some a),.pointer (some b)=>AdR m a b
 | .slice none n c,.slice none n' c'=>n=n'∧c=c'
 | .slice (some a) n c,.slice (some b) n' c'=>n=n'∧c≤c'∧(c=0→c'=0)∧SlR m a b c'
 | .map none,.map none=>True
 | .map (some r),.map (some r')=>m r=some none∨∃ x,m r=some (some x)∧r'=x.b
 | .nilFunc,.nilFunc=>True
 | .nilIface,.nilIface=>True
 | .chan (some i),.string b=>b=rho i∧b.size≤maxLen∧RhoI
 | _,_=>False
def KR (v v':Value):Prop:=(flat2 v=true∧symV v=false∧v'=v)∨∃ i,v=.chan (some i)∧v'=.string (rho i)∧RhoI
def S1 (m:Mp) (v v':Value):Prop:=S0 m v v'∨∃ f x y x' y',v=.func (.func f) x y∧v'=.func (.func f) x' y'∧L2 (S0 m) x.toList x'.toList∧L2 (S0 m) y.toList y'.toList
def S2 (m:Mp) (v v':Value):Prop:=S1 m v v'∨∃ c c',v=.agg c∧v'=.agg c'∧L2 (S1 m) c.toList c'.toList
def S3 (m:Mp) (v v':Value):Prop:=S2 m v v'∨∃ c c',v=.tuple c∧v'=.tuple c'∧L2 (S2 m) c.toList c'.toList
def Le (m m':Mp):Prop:=∀ r,(m r=some none→m' r=some none)∧∀ x,m r=some (some x)→m' r=some (some x)∨m' r=some none
theorem Le.refl (m:Mp):Le m m:=fun r=>⟨id,fun x h=>.inl h⟩
theorem Le.trans {a b c:Mp}(h:Le a b)(k:Le b c):Le a c:=fun r=>⟨fun e=>(k r).1 ((h r).1 e),fun x e=>by
 rcases (h r).2 x e with e | e
 ·exact (k r).2 x e
 ·exact .inr ((k r).1 e)⟩
theorem AdR.mono {m m':Mp}{a b:Addr} (h:AdR m a b) (hm:Le m m'):AdR m' a b:=by
 obtain⟨h1,h2,h3⟩:=h;refine⟨h1,h2,?_⟩;rcases h3 with h3 | ⟨x,h3,h4⟩
 ·exact .inl ((hm _).1 h3)
 rcases (hm _).2 x h3 with e | e
 ·exact .inr ⟨x,e,h4⟩
 exact .inl e
theorem SlR.mono {m m':Mp}{a b:Addr}{c:Nat} (h:SlR m a b c) (hm:Le m m'):SlR m' a b c:=by
 obtain⟨h1,h2,h3⟩:=h;refine⟨h1,h2,?_⟩;rcases h3 with h3 | ⟨x,h3,h4⟩
 ·exact .inl ((hm _).1 h3)
 rcases (hm _).2 x h3 with e | e
 ·exact .inr ⟨x,e,h4⟩
 exact .inl e
theorem S0.mono {m m':Mp}{v v':Value} (h:S0 m v v') (hm:Le m m'):S0 m' v v':=by
 unfold S0 at h ⊢;split at h <;> first
  | exact h
  | exact h.mono hm
  | exact⟨h.1,h.2.1,h.2.2.1,h.2.2.2.mono hm⟩
  | (rcases h with h | ⟨x,h,e⟩
     ·exact .inl ((hm _).1 h)
     rcases (hm _).2 x h with q | q
     ·exact .inr ⟨x,q,e⟩
     exact .inl q)
  | exact h.elim
theorem S1.mono {m m':Mp}{v v':Value} (h:S1 m v v') (hm:Le m m'):S1 m' v v':=by
 rcases h with h | ⟨f,x,y,x',y',e,e',hx,hy⟩
 ·exact .inl (h.mono hm)
 exact .inr ⟨f,x,y,x',y',e,e',hx.mono fun _ _ h=>h.mono hm,hy.mono fun _ _ h=>h.mono hm⟩
theorem S2.mono {m m':Mp}{v v':Value} (h:S2 m v v') (hm:Le m m'):S2 m' v v':=by
 rcases h with h | ⟨c,c',e,e',hx⟩
 ·exact .inl (h.mono hm)
 exact .inr ⟨c,c',e,e',hx.mono fun _ _ h=>h.mono hm⟩
theorem S3.mono {m m':Mp}{v v':Value} (h:S3 m v v') (hm:Le m m'):S3 m' v v':=by
 rcases h with h | ⟨c,c',e,e',hx⟩
 ·exact .inl (h.mono hm)
 exact .inr ⟨c,c',e,e',hx.mono fun _ _ h=>h.mono hm⟩
section
variable {m:Mp}{v v':Value}
theorem S0.s1 (h:S0 m v v'):S1 m v v':=.inl h
theorem S0.s3 (h:S0 m v v'):S3 m v v':=.inl (.inl (.inl h))
theorem S1.s3 (h:S1 m v v'):S3 m v v':=.inl (.inl h)
theorem S2.s3 (h:S2 m v v'):S3 m v v':=.inl h
theorem S3.s2 (h:S3 m v v')(hv:one2 v=true):S2 m v v':=by
 rcases h with h | ⟨c,c',rfl,-,-⟩
 ·exact h
 simp[one2] at hv
theorem S3.s1 (h:S3 m v v')(hv:one1 v=true):S1 m v v':=by
 rcases h.s2 (by cases v <;> simp_all [one1,one2]) with h | ⟨c,c',rfl,-,-⟩
 ·exact h
 simp[one1] at hv
theorem S1.s0 (h:S1 m v v')(hv:one0 v=true):S0 m v v':=by
 rcases h with h | ⟨f,x,y,x',y',rfl,-⟩
 ·exact h
 simp[one0] at hv
theorem S3.s0 (h:S3 m v v')(hv:one0 v=true):S0 m v v':=(h.s1 (by cases v <;> simp_all [one0,one1])).s0 hv
theorem S1.one (h:S1 m v v'):one1 v=true∧one1 v'=true:=by
 rcases h with h | ⟨f,x,y,x',y',rfl,rfl,-⟩
 ·unfold S0 at h;split at h <;> first | exact⟨rfl,rfl⟩ | exact h.elim
 exact⟨rfl,rfl⟩
theorem S1.cells (h:S1 m v v'):v.cells=#[v]∧v'.cells=#[v']:=by
 obtain⟨h1,h2⟩:=h.one;constructor
 ·cases v <;> first | rfl | simp[one1] at h1
 cases v' <;> first | rfl | simp[one1] at h2
theorem S3.cells (h:S3 m v v')(hc:v.cells.toList.all one1=true):L2 (S1 m) v.cells.toList v'.cells.toList:=by
 rcases h with (h | ⟨c,c',rfl,rfl,hl⟩) | ⟨c,c',rfl,rfl,hl⟩
 ·obtain⟨e,e'⟩:=h.cells;rw[e,e'];exact .cons h .nil
 ·exact hl
 simp[Value.cells,one1] at hc
theorem ilt_lt {a b:Int}(h:ilt a b=true):a<b:=by
 unfold ilt at h;split at h
 ·have:=Nat.blt_eq ▸ h;exact Int.ofNat_lt.2 this
 simpa using h
theorem flat_s0 (h:flat v=true):S0 m v v:=by
 unfold flat at h;split at h <;> first | exact absurd h (by decide) | exact⟨rfl,rfl,fun _=>ilt_lt h⟩ | (rename_i k n hk;exact⟨rfl,rfl,fun e=>absurd e hk⟩) | simp[S0]
theorem flat2_s3 (h:flat2 v=true):S3 m v v:=by
 unfold flat2 at h;split at h
 ·rename_i c
  refine .inl (.inr ⟨c,c,rfl,rfl,rfl,fun i x y hx hy=>?_⟩);rw[hx] at hy;cases hy;have:=List.all_eq_true.1 h x (List.mem_of_getElem? hx);exact (flat_s0 this).s1
 exact (flat_s0 h).s3
theorem flats_l2 {l:LV}(h:l.all flat=true):L2 (S1 m) l l:=⟨rfl,fun i x y hx hy=>by
 rw[hx] at hy
 cases hy
 exact (flat_s0 (List.all_eq_true.1 h x (List.mem_of_getElem? hx))).s1⟩
theorem undef_s3:S3 m undef undef:=.inr ⟨#[],#[],rfl,rfl,.nil⟩
theorem S3.bool {b:Bool}(h:S3 m (.bool b) v'):v'=.bool b:=by
 have:=h.s0 rfl;cases v' <;> simp[S0] at this
 subst this;rfl
theorem S3.int {k:IntKind}{n:Int} (h:S3 m (.int k n) v'):v'=.int k n:=by
 have:=h.s0 rfl;cases v' <;> simp[S0] at this
 obtain⟨rfl,rfl,-⟩:=this;rfl
theorem S3.rng {k:IntKind}{n:Int} (h:S3 m (.int k n) v'):k=.i64→n<9223372036854775808:=by
 have:=h.s0 rfl;cases v' with
 | int k' b=>exact this.2.2
 | _=>simp[S0] at this
theorem S3.string {s:BA}(h:S3 m (.string s) v'):v'=.string s:=by
 have:=h.s0 rfl;cases v' <;> simp[S0] at this
 subst this;rfl
theorem S3.ptr {a:Addr}(h:S3 m (.pointer (some a)) v'):∃ b,v'=.pointer (some b)∧AdR m a b:=by
 have:=h.s0 rfl
 cases v' with
 | pointer p=>cases p with
  | none=>simp[S0] at this
  | some b=>exact⟨b,rfl,this⟩
 | _=>simp[S0] at this
theorem S3.slN {n c:Nat}(h:S3 m (.slice none n c) v'):v'=.slice none n c:=by
 have:=h.s0 rfl
 cases v' with
 | slice p n' c'=>cases p with
  | none=>simp[S0] at this;obtain⟨rfl,rfl⟩:=this;rfl
  | some b=>simp[S0] at this
 | _=>simp[S0] at this
theorem S3.sl {a:Addr}{n c:Nat} (h:S3 m (.slice (some a) n c) v'):∃ b c',v'=.slice (some b) n c'∧c≤c'∧(c=0→c'=0)∧SlR m a b c':=by
 have:=h.s0 rfl
 cases v' with
 | slice p n' c'=>cases p with
  | none=>simp[S0] at this
  | some b=>
   obtain⟨h1,h2,h3,h4⟩:=this
   subst h1
   exact⟨b,c',rfl,h2,h3,h4⟩
 | _=>simp[S0] at this
theorem S3.ptrN (h:S3 m (.pointer none) v'):v'=.pointer none:=by
 have:=h.s0 rfl
 cases v' with
 | pointer p=>cases p with
  | none=>rfl
  | some b=>simp[S0] at this
 | _=>simp[S0] at this
theorem S3.mapN (h:S3 m (.map none) v'):v'=.map none:=by
 have:=h.s0 rfl
 cases v' with
 | map p=>cases p with
  | none=>rfl
  | some b=>simp[S0] at this
 | _=>simp[S0] at this
theorem S3.mapS {r:Nat}(h:S3 m (.map (some r)) v'):∃ r',v'=.map (some r')∧(m r=some none∨∃ x,m r=some (some x)∧r'=x.b):=by
 have:=h.s0 rfl
 cases v' with
 | map p=>cases p with
  | none=>simp[S0] at this
  | some b=>exact⟨b,rfl,this⟩
 | _=>simp[S0] at this
theorem S3.func {f:FuncId}{x y:Array Value} (h:S3 m (.func (.func f) x y) v'):∃ x' y',v'=.func (.func f) x' y'∧L2 (S0 m) x.toList x'.toList∧L2 (S0 m) y.toList y'.toList:=by
 rcases h.s1 rfl with h | ⟨f,x,y,x',y',e,e',hx,hy⟩
 ·cases v' <;> simp[S0] at h
 cases e;exact⟨x',y',e',hx,hy⟩
theorem S3.agg {c:Array Value}(h:S3 m (.agg c) v'):∃ c',v'=.agg c'∧L2 (S1 m) c.toList c'.toList:=by
 rcases h.s2 rfl with (h | ⟨f,x,y,x',y',e,-⟩) | ⟨d,d',e,e',hd⟩
 ·cases v' <;> simp[S0] at h
 ·cases e
 cases e;exact⟨d',e',hd⟩
theorem S3.tuple {c:Array Value}(h:S3 m (.tuple c) v'):∃ c',v'=.tuple c'∧L2 (S2 m) c.toList c'.toList:=by
 rcases h with ((h | ⟨f,x,y,x',y',e,-⟩) | ⟨d,d',e,-⟩) | ⟨d,d',e,e',hd⟩
 ·cases v' <;> simp[S0] at h
 ·cases e
 ·cases e
 cases e;exact⟨d',e',hd⟩
theorem s0_bool (b:Bool):S0 m (.bool b) (.bool b):=rfl
theorem s0_int (k:IntKind)(n:Int)(h:k=.i64→n<9223372036854775808):S0 m (.int k n) (.int k n):=⟨rfl,rfl,h⟩
theorem s0_str (s:BA):S0 m (.string s) (.string s):=rfl
end
def ObRow (P:Program) (m:Mp) (o:AO) (x:MB) (w:WL):Prop:=
 sizeT P o.e=some x.z∧∃ c lo hi,w.heap[x.b]?=some (.cells c o.e (lo,hi))∧c.size=x.N∧(lo=hi∨c.size≤lo)∧x.s+o.xs.length≤c.size∧∀ i v,o.xs[i]?=some v→∃ v',c[x.s+i]?=some v'∧S1 m v v'
def ObMap (P:Program) (m:Mp) (o:AO) (x:MB) (w:WL):Prop:=
 ∃ es cl,w.heap[x.b]?=some (.map es cl)∧L2 (fun (p:Value × Value) (e:MapEntry)=>KR p.1 e.key∧(keyOf P o.e e.key).isSome=true∧S1 m p.2 e.val) o.es es.toList∧(o.es.map (·.1)).Nodup
def ObTab (m:Mp) (o:AO) (x:MB) (w:WL):Prop:=∀ i v,o.xs[i]?=some v→∃ v',w.cell? ⟨x.b,i+x.s,none⟩=some v'∧S1 m v v'
def Ob (P:Program) (m:Mp) (o:AO) (x:MB) (w:WL):Prop:=(o.k=1∧ObRow P m o x w)∨(o.k=2∧ObMap P m o x w)∨(o.k=3∧ObTab m o x w)
theorem Ob.mono {P:Program}{m m':Mp}{o:AO}{x:MB}{w w':WL} (h:Ob P m o x w) (hm:Le m m') (hb:w'.heap[x.b]?=w.heap[x.b]?):Ob P m' o x w':=by
 rcases h with ⟨k,z,c,lo,hi,h1,h2,h3,h4,h5⟩ | ⟨k,es,cl,h1,h2,h3⟩ | ⟨k,h1⟩
 ·exact .inl ⟨k,z,c,lo,hi,hb.trans h1,h2,h3,h4,fun i v hv=>let ⟨v',e,s⟩:=h5 i v hv;⟨v',e,s.mono hm⟩⟩
 ·exact .inr (.inl ⟨k,es,cl,hb.trans h1,h2.mono fun p e q=>⟨q.1,q.2.1,q.2.2.mono hm⟩,h3⟩)
 exact .inr (.inr ⟨k,fun i v hv=>by
  obtain⟨v',e,s⟩:=h1 i v hv;exact⟨v',by rw[← e];simp only[World.cell?,hb],s.mono hm⟩⟩)
structure Rel (P:Program) (G:Nat) (m:Mp) (h:AH) (w:WL):Prop where
 lim:h.n≤4096
 row:∀ r x,m r=some (some x)→r<h.n∧x.b<w.heap.size∧∃ o,h.get r=some o∧Ob P m o x w
 dead:∀ r,m r=some none→r<h.n∧∀ o,h.get r=some o→o.k=0
 inj:∀ r r' x x',m r=some (some x)→m r'=some (some x')→x.b=x'.b→r=r'
 glo:∀ g,g<G→∃ x,m g=some (some x)∧x.b=g∧x.s=0
 top:∀ r,h.n≤r→h.get r=none
structure Ext (m m':Mp) (h h':AH) (w w':WL):Prop where
 le:Le m m'
 nn:h.n≤h'.n
 keep:∀ r,r<h.n→m r=none→m' r=none∧h'.get r=h.get r
 new:∀ r x,m' r=some (some x)→m r=some (some x)∨(h.n≤r∧((w.heap.size≤x.b∧x.s=0)∨∃ r0 x0,m r0=some (some x0)∧x0.b=x.b∧x0.s=x.s∧∀ o,h.get r0=some o→o.k≠3))
 tab:∀ r o,h.get r=some o→o.k=3→h'.get r=some o
 os:w'.os=w.os
 tape:w'.tape=w.tape
 output:w'.output=w.output
 size:w.heap.size≤w'.heap.size
 blk:∀ b,b<w.heap.size→(∀ r x,m r=some (some x)→x.b=b→∃ o,h.get r=some o∧o.k=3)→w'.heap[b]?=w.heap[b]?
theorem Ext.refl (m:Mp)(h:AH)(w:WL):Ext m m h h w w:=⟨.refl m,Nat.le_refl _,fun r _ e=>⟨e,rfl⟩,fun r x e=>.inl e,fun _ _ q _=>q,rfl,rfl,rfl,Nat.le_refl _,fun b _ _=>rfl⟩
theorem Ext.trans {m1 m2 m3:Mp}{h1 h2 h3:AH}{w1 w2 w3:WL} (a:Ext m1 m2 h1 h2 w1 w2) (b:Ext m2 m3 h2 h3 w2 w3):Ext m1 m3 h1 h3 w1 w3:=by
 refine⟨a.le.trans b.le,Nat.le_trans a.nn b.nn,fun r hr e=>?_,fun r x e=>?_,fun r o q q'=>b.tab r o (a.tab r o q q') q',b.os.trans a.os,b.tape.trans a.tape,b.output.trans a.output,Nat.le_trans a.size b.size,fun q hq hn=>?_⟩
 ·obtain⟨e1,g1⟩:=a.keep r hr e;obtain⟨e2,g2⟩:=b.keep r (Nll hr a.nn) e1;exact⟨e2,g2.trans g1⟩
 ·rcases b.new r x e with e | ⟨hr,e⟩
  ·exact a.new r x e
  refine .inr ⟨Nat.le_trans a.nn hr,?_⟩;rcases e with ⟨e,es⟩ | ⟨r0,x0,e0,eb,es,et⟩
  ·exact .inl ⟨Nat.le_trans a.size e,es⟩
  rcases a.new r0 x0 e0 with q | ⟨-,⟨q,qs⟩ | ⟨r1,x1,q,qb,qs,qt⟩⟩
  ·exact .inr ⟨r0,x0,q,eb,es,fun o ho hk=>et o (a.tab r0 o ho hk) hk⟩
  ·exact .inl ⟨eb ▸ q,es ▸ qs⟩
  exact .inr ⟨r1,x1,q,qb.trans eb,qs.trans es,qt⟩
 rw[b.blk q (Nll hq a.size) (fun r x e eb=>?_),a.blk q hq hn];rcases a.new r x e with e | ⟨-,⟨e,-⟩ | ⟨r0,x0,e0,e1,-,et⟩⟩
 ·obtain⟨o,ho,hk⟩:=hn r x e eb;exact⟨o,a.tab r o ho hk,hk⟩
 ·omega
 obtain⟨o,ho,hk⟩:=hn r0 x0 e0 (e1.trans eb);exact absurd hk (et o ho)
theorem Rel.heap {P:Program}{G:Nat}{m:Mp}{h:AH}{w w':WL} (r:Rel P G m h w) (e:w'.heap=w.heap):Rel P G m h w':=
 ⟨r.lim,fun q x hx=>by obtain⟨a,b,o,c,d⟩:=r.row q x hx;exact⟨a,by rw[e];exact b,o,c,d.mono (.refl m) (by rw[e])⟩,r.dead,r.inj,r.glo,r.top⟩
structure SlO (m:Mp) (a:AA) (t:Array Value):Prop where
 size:a.n=t.size
 val:∀ i v,a.get i=some v→S3 m v (t.getD i undef)
theorem SlO.mono {m m':Mp}{a:AA}{t:Array Value} (h:SlO m a t) (hm:Le m m'):SlO m' a t:=⟨h.size,fun i v e=>(h.val i v e).mono hm⟩
theorem SlO.put {m:Mp}{a a':AA}{t:Array Value} (h:SlO m a t) {d:Option Tmp}{p:Pt} (hp:putO d=some p) {v v':Value} (e:p v a=some a') (hv:S3 m v v') (ds:List Deferred):SlO m a' ((⟨t,ds⟩:Act).put d v').tmps:=by
 obtain⟨h1,h2,h3⟩:=putO_ok hp e;cases d with
 | none=>exact⟨h1.trans h.size,fun i u hu=>h.val i u (by rw[h3 i] at hu;simpa using hu)⟩
 | some k=>
  refine⟨by simp[Act.put,h1,h.size],fun i u hu=>?_⟩;rw[h3 i] at hu;have hk:=h2 k rfl;by_cases e:k=i
  ·subst e;simp at hu;subst hu;have:k<t.size:=by rw[← h.size];exact hk
   simpa [Act.put,this] using hv
  have hne:¬ (some k=some i):=by simpa using e
  rw[if_neg hne] at hu;have:=h.val i u hu;simpa [Act.put,Array.getElem?_setIfInBounds_ne e] using this
theorem opnd_ok {P:Program}{G:Nat}{m:Mp}{h:AH}{w:WL} (R:Rel P G m h w) {x:Operand}{f:Acc} (hf:opnd G x=some f) {a:AA}{t:Array Value} (hs:SlO m a t) {v:Value} (hv:f a=some v) (ds:List Deferred):S3 m v ((⟨t,ds⟩:Act).eval x):=by
 cases x with
 | tmp i=>
  rw[AA.get_form hf] at hv;exact hs.val i v hv
 | const u=>
  simp only[opnd] at hf;cases hb:flat2 u with
  | false=>simp[hb] at hf
  | true=>
   simp only[hb,cond_true,Option.some.injEq] at hf;subst hf;simp only[constV,Option.some.injEq] at hv;subst hv;exact flat2_s3 hb
 | global g=>
  simp only[opnd] at hf;cases hb:Nat.blt g G with
  | false=>simp[hb] at hf
  | true=>
   simp only[hb,cond_true,Option.some.injEq] at hf;subst hf;simp only[constV,Option.some.injEq] at hv;subst hv;obtain⟨x,e,eb,es⟩:=R.glo g (by simpa [Nat.blt_eq] using hb);refine S0.s3 (v':=.pointer (some (Ad g 0))) ⟨rfl,rfl,.inr ⟨x,e,eb.symm,?_⟩⟩;simp[es]
 | func f'=>
  simp only[opnd,Option.some.injEq] at hf;subst hf;simp only[constV,Option.some.injEq] at hv;subst hv;exact .inl (.inl (.inr ⟨f',#[],#[],#[],#[],rfl,rfl,.nil,.nil⟩))
end Go.Proofs.YtmolfmgchbjnbaaGreatDoor.Ev
namespace Go.Proofs.YtmolfmgchbjnbaaGreatDoor.Ev
open Go
variable [Inhabited (Nat→BA)]
section
variable {P:Program}{G:Nat}{m:Mp}{h:AH}{w:WL}
theorem rowAt_ok {r:Nat}{xs:LV}{e:TypeId} (hr:rowAt r h=some (xs,e)):∃ es,h.get r=some ⟨1,xs,e,es⟩:=by
 unfold rowAt asRow at hr;split at hr
 ·rename_i es he
  cases hr;exact⟨es,he⟩
 cases hr
theorem mapAt_ok {k r:Nat}{es:List (Value × Value)} (hr:mapAt k r h=some es):∃ xs,h.get r=some ⟨2,xs,k,es⟩:=by
 unfold mapAt asMap at hr;split at hr
 ·rename_i xs e es' he
  cases hb:Nat.beq e k with
  | false=>simp[hb] at hr
  | true=>
   simp only[hb,cond_true,Option.some.injEq] at hr;subst hr;exact⟨xs,by rw[he,Nat.eq_of_beq_eq_true hb]⟩
 cases hr
theorem cut_ok {l r:LV}{i n:Nat} (hc:cut l i n=some r):r=(l.drop i).take n∧r.length=n∧i+n≤l.length:=by
 unfold cut at hc;cases hb:Nat.ble (i+n) l.length with
 | false=>simp[hb] at hc
 | true=>
  simp only[hb,cond_true,Option.some.injEq] at hc;have:=Nat.le_of_ble_eq_true hb;subst hc;refine⟨rfl,?_,this⟩;simp;omega
theorem patch_ok {l r x:LV}{i:Nat} (hc:patch l i x=some r):r=l.take i++(x++l.drop (i+x.length))∧i+x.length≤l.length:=by
 unfold patch at hc;cases hb:Nat.ble (i+x.length) l.length with
 | false=>simp[hb] at hc
 | true=>
  simp only[hb,cond_true,Option.some.injEq] at hc;exact⟨hc.symm,Nat.le_of_ble_eq_true hb⟩
theorem Rel.live (R:Rel P G m h w){b:Nat}{xs:LV}{e:TypeId} (hr:rowAt b h=some (xs,e)) {o:Option MB} (hm:m b=some o):∃ x es,o=some x∧h.get b=some ⟨1,xs,e,es⟩∧ObRow P m ⟨1,xs,e,es⟩ x w∧x.b<w.heap.size∧b<h.n:=by
 obtain⟨es,hg⟩:=rowAt_ok hr;cases o with
 | none=>have:=(R.dead b hm).2 _ hg;simp at this
 | some x=>
  obtain⟨h1,h2,o,h3,h4⟩:=R.row b x hm;rw[hg] at h3;cases h3;rcases h4 with ⟨-,h4⟩ | ⟨h4,-⟩ | ⟨h4,-⟩
  ·exact⟨x,es,rfl,hg,h4,h2,h1⟩
  ·simp at h4
  simp at h4
theorem Rel.liveMap (R:Rel P G m h w){k b:Nat}{es:List (Value × Value)} (hr:mapAt k b h=some es) {o:Option MB} (hm:m b=some o):∃ x xs,o=some x∧h.get b=some ⟨2,xs,k,es⟩∧ObMap P m ⟨2,xs,k,es⟩ x w∧x.b<w.heap.size∧b<h.n:=by
 obtain⟨xs,hg⟩:=mapAt_ok hr;cases o with
 | none=>have:=(R.dead b hm).2 _ hg;simp at this
 | some x=>
  obtain⟨h1,h2,o,h3,h4⟩:=R.row b x hm;rw[hg] at h3;cases h3;rcases h4 with ⟨h4,-⟩ | ⟨-,h4⟩ | ⟨h4,-⟩
  ·simp at h4
  ·exact⟨x,xs,rfl,hg,h4,h2,h1⟩
  simp at h4
theorem Rel.ad (R:Rel P G m h w){b off:Nat}{xs:LV}{e:TypeId} (hr:rowAt b h=some (xs,e)) {a:Addr} (ha:AdR m (Ad b off) a):∃ x es,m b=some (some x)∧a=(Ad x.b (off+x.s))∧h.get b=some ⟨1,xs,e,es⟩∧ObRow P m ⟨1,xs,e,es⟩ x w∧x.b<w.heap.size∧b<h.n:=by
 obtain⟨-,h2,h3⟩:=ha;rcases h3 with h3 | ⟨x,h3,h4,h5⟩
 ·obtain⟨x,es,e,-⟩:=R.live hr h3;cases e
 obtain⟨x',es,e1,e2,e3,e4,e5⟩:=R.live hr h3;cases e1;refine⟨x,es,h3,?_,e2,e3,e4,e5⟩;obtain⟨q,r,s⟩:=a;simp only at h2 h4 h5;subst h2;subst h4;subst h5;rfl
theorem Rel.sl (R:Rel P G m h w){b off:Nat}{xs:LV}{e:TypeId} (hr:rowAt b h=some (xs,e)) {a:Addr}{c:Nat} (ha:SlR m (Ad b off) a c):∃ x es,m b=some (some x)∧a=(Ad x.b (off+x.s))∧off+x.s+c*x.z≤x.N∧h.get b=some ⟨1,xs,e,es⟩∧ObRow P m ⟨1,xs,e,es⟩ x w∧x.b<w.heap.size∧b<h.n:=by
 obtain⟨-,h2,h3⟩:=ha;rcases h3 with h3 | ⟨x,h3,h4,h5,h6⟩
 ·obtain⟨x,es,e,-⟩:=R.live hr h3;cases e
 obtain⟨x',es,e1,e2,e3,e4,e5⟩:=R.live hr h3;cases e1;refine⟨x,es,h3,?_,?_,e2,e3,e4,e5⟩
 ·obtain⟨q,r,s⟩:=a;simp only at h2 h4 h5;subst h2;subst h4;subst h5;rfl
 simp only at h5;rw[← h5];exact h6
theorem ObRow.cell {o:AO}{x:MB} (hO:ObRow P m o x w) {i:Nat}{v:Value} (hv:o.xs[i]?=some v):∃ v',w.cell? (Ad x.b (i+x.s))=some v'∧S1 m v v':=by
 obtain⟨-,c,lo,hi,h1,h2,h3,h4,h5⟩:=hO;obtain⟨v',e,s⟩:=h5 i v hv;exact⟨v',by simp[World.cell?,h1,Nat.add_comm i,e],s⟩
theorem ObRow.thaw {o:AO}{x:MB} (hO:ObRow P m o x w) {i:Nat} (hi:i<x.N):w.frozen? (Ad x.b i)=false:=by
 obtain⟨-,c,lo,hi',h1,h2,h3,h4,h5⟩:=hO;simp only[World.frozen?,h1];simp;omega
theorem add_off (b o j:Nat):((Ad b o):Addr).add j=(Ad b (o+j)):=by cases j <;> simp[Addr.add]
theorem ObRow.cut {o:AO}{x:MB} (hO:ObRow P m o x w) {off n:Nat}{l:LV} (hc:cut o.xs off n=some l):∃ l',L2 (S1 m) l l'∧∀ j v,l'[j]?=some v→w.cell? (((Ad x.b (off+x.s)):Addr).add j)=some v:=by
 obtain⟨e,el,en⟩:=cut_ok hc;obtain⟨hz,c,lo,hi,h1,h2,h3,h4,h5⟩:=hO;refine⟨(c.toList.drop (x.s+off)).take n,⟨by rw[el];simp;omega,fun i v y hv hy=>?_⟩,fun j v hv=>?_⟩
 ·rw[e] at hv;rw[List.getElem?_take] at hv hy;split at hv
  ·rename_i hi
   rw[if_pos hi,List.getElem?_drop] at hy;rw[List.getElem?_drop] at hv;obtain⟨v',e',s⟩:=h5 _ v hv;rw[Array.getElem?_toList,show x.s+off+i=x.s+(off+i) by omega,e'] at hy;cases hy;exact s
  cases hv
 rw[List.getElem?_take] at hv;split at hv
 ·rw[List.getElem?_drop] at hv;rw[add_off];simp only[World.cell?,h1];simpa [show off+x.s+j=x.s+off+j by omega] using hv
 cases hv
theorem Rel.tab (R:Rel P G m h w){b off:Nat}{xs:LV} (hr:cellsAt b h=some xs) {a:Addr} (ha:AdR m (Ad b off) a):∃ x,m b=some (some x)∧a=(Ad x.b (off+x.s))∧∀ i v,xs[i]?=some v→∃ v',w.cell? (Ad x.b (i+x.s))=some v'∧S1 m v v':=by
 have hk:∃ o,h.get b=some o∧(o.k=1∨o.k=3)∧o.xs=xs:=by
  unfold cellsAt asCells at hr;split at hr
  ·rename_i he;cases hr;exact⟨_,he,.inl rfl,rfl⟩
  ·rename_i he;cases hr;exact⟨_,he,.inr rfl,rfl⟩
  cases hr
 obtain⟨o,hg,hk1,rfl⟩:=hk;obtain⟨-,h2,h3⟩:=ha;rcases h3 with h3 | ⟨x,h3,h4,h5⟩
 ·have:=(R.dead b h3).2 o hg;omega
 obtain⟨q1,q2,o',q3,q4⟩:=R.row b x h3;rw[hg] at q3;cases q3;refine⟨x,h3,?_,?_⟩
 ·obtain⟨q,r,s⟩:=a;simp only at h2 h4 h5;subst h2;subst h4;subst h5;rfl
 rcases q4 with ⟨-,q4⟩ | ⟨q4,-⟩ | ⟨-,q4⟩
 ·exact fun i v hv=>q4.cell hv
 ·omega
 exact q4
theorem tab_cut:∀ (l:LV)(b off:Nat),(∀ j v,l[j]?=some v→∃ v',w.cell? (Ad b (off+j))=some v'∧S1 m v v')→∃ l',L2 (S1 m) l l'∧∀ j v,l'[j]?=some v→w.cell? (((Ad b off):Addr).add j)=some v
 | [],b,off,_=>⟨[],.nil,fun j v hv=>by simp at hv⟩
 | x :: l,b,off,hc=>by
  obtain⟨y,hy,s⟩:=hc 0 x rfl
  obtain⟨l',h1,h2⟩:=tab_cut l b (off+1) fun j v hv=>by
   obtain⟨v',e,q⟩:=hc (j+1) v (by simpa using hv)
   exact⟨v',by rw[show off+1+j=off+(j+1) by omega];exact e,q⟩
  refine⟨y :: l',.cons s h1,fun j v hv=>?_⟩
  cases j with
  | zero=>simp at hv;subst hv;rw[add_off];exact hy
  | succ j=>
   have:=h2 j v (by simpa using hv)
   rw[add_off] at this ⊢
   rw[show off+(j+1)=off+1+j by omega]
   exact this
theorem run_value {s:Sem Value}{v:Value}{w':WL} (hs:s.run P w=.ok v w'):(do pure (Next.value (← s)):Sem Next).run P w=.ok (.value v) w':=by
 simp[hs]
theorem agg_ok {t:TypeId}{b:Bool} (h:aggOf P t=some b):(isAgg t).run P w=.ok b w:=by
 unfold aggOf at h;cases hu:P.underlying t with
 | none=>simp[hu] at h
 | some d=>
  simp only[hu,Option.map_some,Option.some.injEq] at h;subst h;cases d <;> simp[isAgg,run_underlying hu,aggD]
theorem size_ok {t:TypeId}{n:Nat} (h:sizeT P t=some n):(sizeOf t).run P w=.ok n w:=by
 unfold sizeT at h;cases hi:P.info? t with
 | none=>simp[hi] at h
 | some i=>
  simp only[hi,Option.map_some,Option.some.injEq] at h;simp[sizeOf,typeInfo,hi,h]
theorem zero_ok {t:TypeId}{z:Value} (h:zeroT P t=some z):(zeroValue t).run P w=.ok z w:=by
 unfold zeroT at h;cases hi:P.info? t with
 | none=>simp[hi] at h
 | some i=>
  simp only[hi,Option.bind_some] at h;simp[zeroValue,typeInfo,hi,h]
theorem load_ok (R:Rel P G m h w){t:TypeId}{p p' v:Value} (hp:S3 m p p') (hv:rLoad P h t p=some v):∃ v',(Instr.loadAt t p').run P w=.ok v' w∧S3 m v v':=by
 unfold rLoad at hv;split at hv
 ·rename_i b off
  obtain⟨a,rfl,ha⟩:=hp.ptr;unfold aLoad loadR at hv;split at hv
  ·rename_i xs hr
   obtain⟨x,hm,rfl,hO⟩:=R.tab hr ha;cases hq:aggOf P t with
   | none=>simp[hq] at hv
   | some q=>
    simp only[hq,Option.bind_some] at hv;cases q with
    | false=>
     simp only[loadA,nth_eq] at hv;obtain⟨v',hc,s⟩:=hO off v hv;exact⟨v',by simp[Instr.loadAt,Instr.sureAddr,loadVar,agg_ok hq,hc],s.s3⟩
    | true=>
     simp only[loadA] at hv;cases hn:sizeT P t with
     | none=>simp[hn] at hv
     | some n=>
      simp only[hn,Option.bind_some] at hv;cases hc:cut xs off n with
      | none=>simp[hc] at hv
      | some l=>
       simp only[hc,Option.map_some,Option.some.injEq] at hv;subst hv;obtain⟨ec,ecl,ecn⟩:=cut_ok hc;obtain⟨l',hl,hcell⟩:=tab_cut (w:=w) (m:=m) l x.b (off+x.s) (fun j u hu=>by
        rw[ec,List.getElem?_take] at hu;split at hu
        ·rw[List.getElem?_drop] at hu;obtain⟨v',e,s⟩:=hO (off+j) u hu;exact⟨v',by rw[show off+x.s+j=off+j+x.s by omega];exact e,s⟩
        cases hu)
       have hlen:l'.length=n:=by rw[← hl.1];exact (cut_ok hc).2.1
       refine⟨.agg l'.toArray,?_,.inl (.inr ⟨_,_,rfl,rfl,hl⟩)⟩;have hrun:=run_loadCells_list (P:=P) (w:=w) (Ad x.b (off+x.s)) l' hcell;rw[hlen] at hrun;simp[Instr.loadAt,Instr.sureAddr,loadVar,agg_ok hq,size_ok hn,hrun]
  cases hv
 cases hv
end
end Go.Proofs.YtmolfmgchbjnbaaGreatDoor.Ev
namespace Go.Proofs.YtmolfmgchbjnbaaGreatDoor.Ev
open Go
variable [Inhabited (Nat→BA)]
theorem wr_eq (k:IntKind)(n:Int):wr k n=k.wrap n:=by
 unfold wr;split
 ·rename_i m
  cases hb:Nat.blt m 9223372036854775808 with
  | false=>rfl
  | true=>
   have:m<9223372036854775808:=by simpa [Nat.blt_eq] using hb
   simp only[cond_true];show (m:Int)=IntKind.wrap .i64 (m:Int);unfold IntKind.wrap;have e:((m:Int) % (2 ^ IntKind.i64.bits:Int))=m:=by
    simp only[IntKind.bits];omega
   simp only[e];rw[if_neg];simp only[IntKind.bits];simp;intro _;omega
 rfl
theorem ilt_eq (a b:Int):ilt a b=decide (a<b):=by
 unfold ilt;split
 ·rename_i m n
  rw[Bool.eq_iff_iff];simp[Nat.blt_eq]
 rfl
theorem ieq_eq (a b:Int):ieq a b=decide (a=b):=by
 unfold ieq;split
 ·rename_i m n
  rw[Bool.eq_iff_iff,Nat.beq_eq];simp only[decide_eq_true_eq];exact⟨fun e=>by rw[e],fun e=>Int.ofNat.inj e⟩
 rfl
theorem lbeq_eq:∀ (a b:LB),lbeq a b=true↔a=b
 | [],[]=>by simp[lbeq]
 | [],_ :: _=>by simp[lbeq]
 | _ :: _,[]=>by simp[lbeq]
 | x :: l,y :: r=>by
  simp only[lbeq]
  cases hb:Nat.beq x.toNat y.toNat with
  | false=>
   simp only[cond_false,List.cons.injEq]
   constructor
   ·intro e;cases e
   ·rintro ⟨rfl,-⟩
    simp at hb
  | true=>
   have:x=y:=UInt8.toNat_inj.1 (Nat.eq_of_beq_eq_true hb)
   simp[this,lbeq_eq l r]
theorem sbeq_eq (a b:BA):sbeq a b=decide (a=b):=by
 rw[Bool.eq_iff_iff];unfold sbeq;rw[lbeq_eq];simp only[decide_eq_true_eq];exact⟨fun e=>WideShapes.bytes_inj e,fun e=>by rw[e]⟩
theorem toList_beq (a b:BA):(a.toList==b.toList)=sbeq a b:=by
 rw[sbeq_eq,Bool.eq_iff_iff];simp only[ByteArray.toList_eq,beq_iff_eq,decide_eq_true_eq];exact⟨fun e=>WideShapes.bytes_inj e,fun e=>by rw[e]⟩
theorem mkN_eq (k:IntKind)(n:Nat):mkN k n=.int k (n:Int):=by cases n <;> rfl
theorem mkI_eq (k:IntKind)(n:Int):mkI k n=.int k n:=by cases n <;> simp[mkI,mkN_eq]
theorem mkB_eq (b:Bool):mkB b=.bool b:=by cases b <;> rfl
theorem mkPtr_eq (b n:Nat):mkPtr b n=.pointer (some (Ad b n)):=by cases n <;> rfl
theorem mkSl_eq (b o c n:Nat):mkSl b o c n=.slice (some (Ad b o)) n c:=by cases n <;> rfl
section
variable {P:Program}{G:Nat}{m:Mp}{h:AH}{w:WL}
theorem kin_ok {k k':IntKind}{v u:Value} (h:kin k k' v=some u):k=k'∧u=v:=by
 unfold kin at h;split at h
 ·rename_i e;cases h;exact⟨e,rfl⟩
 cases h
theorem guard_int (op:BinOp)(t:TypeId)(X Y:Operand)(k k':IntKind)(a b:Int):(eqGuard op t X Y (.int k a) (.int k' b)).run P w=.ok () w:=by
 cases op <;> simp[eqGuard]
theorem guard_str (op:BinOp)(t:TypeId)(X Y:Operand)(a b:BA):(eqGuard op t X Y (.string a) (.string b)).run P w=.ok () w:=by
 cases op <;> simp[eqGuard]
theorem guard_bool (op:BinOp)(t:TypeId)(X Y:Operand)(a b:Bool):(eqGuard op t X Y (.bool a) (.bool b)).run P w=.ok () w:=by
 cases op <;> simp[eqGuard]
theorem guard_sl (op:BinOp)(t:TypeId)(X Y:Operand)(a b:OA)(n c n' c':Nat):(eqGuard op t X Y (.slice a n c) (.slice b n' c')).run P w=.ok () w:=by
 cases op <;> simp[eqGuard]
theorem guard_map (op:BinOp)(t:TypeId)(X Y:Operand)(a b:Option Nat):(eqGuard op t X Y (.map a) (.map b)).run P w=.ok () w:=by
 cases op <;> simp[eqGuard]
theorem guard_ptr (op:BinOp)(t:TypeId)(X Y:Operand)(a b:OA):(eqGuard op t X Y (.pointer a) (.pointer b)).run P w=.ok () w:=by
 cases op <;> simp[eqGuard]
theorem equal_step (t:TypeId)(x y:Value):Op.equal t x y=Op.equalIn (9999+1) t x y:=rfl
theorem eq_bool {t:TypeId}(hu:P.underlying t=some .bool)(a b:Bool):(Op.equal t (.bool a) (.bool b)).run P w=.ok (a==b) w:=by
 rw[equal_step,Op.equalIn];simp[run_underlying hu]
theorem eq_sl {t e:TypeId}(hu:P.underlying t=some (.slice e))(a:OA)(n c n' c':Nat):(Op.equal t (.slice a n c) (.slice none n' c')).run P w=.ok a.isNone w:=by
 rw[equal_step,Op.equalIn];cases a <;> simp[run_underlying hu]
theorem eq_ptr {t e:TypeId}(hu:P.underlying t=some (.pointer e))(a:OA):(Op.equal t (.pointer a) (.pointer none)).run P w=.ok a.isNone w:=by
 rw[equal_step,Op.equalIn];cases a <;> simp[run_underlying hu]
theorem eq_map {t e e':TypeId}(hu:P.underlying t=some (.map e e'))(a:Option Nat):(Op.equal t (.map a) (.map none)).run P w=.ok a.isNone w:=by
 rw[equal_step,Op.equalIn];cases a <;> simp[run_underlying hu]
theorem wrap_rg (k:IntKind)(n:Int):k=.i64→k.wrap n<9223372036854775808:=by
 rintro rfl;rw[IntKind.wrap_i64];omega
theorem tmod_rg {a b:Int}(h:a<9223372036854775808):a.tmod b<9223372036854775808:=by
 rcases Int.lt_or_le a 0 with q | q
 ·have h1:a.tmod b≤0:=by
   have:=Int.tmod_nonneg b (show 0≤-a by omega);rw[Int.neg_tmod] at this;omega
  omega
 obtain⟨n,rfl⟩:=Int.eq_ofNat_of_zero_le q;have h1:∀ m:Nat,((n % m:Nat):Int)<9223372036854775808:=fun m=>by have:=Nat.mod_le n m;omega
 cases b with
 | ofNat m=>exact h1 m
 | negSucc m=>exact h1 (m+1)
theorem fdiv_rg {a:Int}(s:Nat)(h:a<9223372036854775808):a.fdiv (2 ^ s)<9223372036854775808:=by
 have hp:(0:Int)<2 ^ s:=Int.pow_pos (by decide);rw[Int.fdiv_eq_ediv_of_nonneg a (Int.le_of_lt hp)];rcases Int.lt_or_le a 0 with q | q
 ·have:=Int.ediv_neg_of_neg_of_pos q hp;omega
 have:=Int.ediv_le_self (2 ^ s) q;omega
theorem binI_ok {op:BinOp}{t:TypeId}{k k':IntKind}{a b:Int}{v:Value} (ha:k=.i64→a<9223372036854775808) (hv:binI k k' a b op=some v):(binOp op t (.int k a) (.int k' b)).run P w=.ok v w∧S3 m v v:=by
 have fi:∀ n,S3 m (.int k (k.wrap n)) (.int k (k.wrap n)):=fun n=>(s0_int k _ (wrap_rg k n)).s3;have fb:∀ q,S3 m (.bool q) (.bool q):=fun q=>(s0_bool q).s3;cases op <;> simp only[binI,ilt_eq,ieq_eq,wr_eq,mkI_eq,mkB_eq] at hv
 case add=>obtain⟨rfl,rfl⟩:=kin_ok hv;exact⟨by simp[binOp,Op.intArith],fi _⟩
 case sub=>obtain⟨rfl,rfl⟩:=kin_ok hv;exact⟨by simp[binOp,Op.intArith],fi _⟩
 case mul=>obtain⟨rfl,rfl⟩:=kin_ok hv;exact⟨by simp[binOp,Op.intArith],fi _⟩
 case quo=>
  by_cases hb:b=0
  ·simp[hb] at hv
  simp only[hb,decide_false,cond_false] at hv;obtain⟨rfl,rfl⟩:=kin_ok hv;exact⟨by simp[binOp,Op.intDiv,hb],fi _⟩
 case rem=>
  by_cases hb:b=0
  ·simp[hb] at hv
  simp only[hb,decide_false,cond_false] at hv;obtain⟨rfl,rfl⟩:=kin_ok hv;exact⟨by simp[binOp,Op.intDiv,hb],(s0_int k _ fun e=>tmod_rg (ha e)).s3⟩
 case and=>obtain⟨rfl,rfl⟩:=kin_ok hv;exact⟨by simp[binOp,Op.intBits],fi _⟩
 case or=>obtain⟨rfl,rfl⟩:=kin_ok hv;exact⟨by simp[binOp,Op.intBits],fi _⟩
 case xor=>obtain⟨rfl,rfl⟩:=kin_ok hv;exact⟨by simp[binOp,Op.intBits],fi _⟩
 case andNot=>obtain⟨rfl,rfl⟩:=kin_ok hv;exact⟨by simp[binOp,Op.intBits],fi _⟩
 case shl=>
  by_cases hb:b<0
  ·simp[hb] at hv
  simp only[hb,decide_false,cond_false,Option.some.injEq] at hv;subst hv;exact⟨by simp[binOp,Op.shift,hb],fi _⟩
 case shr=>
  by_cases hb:b<0
  ·simp[hb] at hv
  simp only[hb,decide_false,cond_false,Option.some.injEq] at hv;subst hv;exact⟨by simp[binOp,Op.shift,hb],(s0_int k _ fun e=>fdiv_rg _ (ha e)).s3⟩
 case eql=>obtain⟨rfl,rfl⟩:=kin_ok hv;exact⟨by simp[binOp,Op.intCmp,Bool.beq_eq_decide_eq],fb _⟩
 case neq=>obtain⟨rfl,rfl⟩:=kin_ok hv;exact⟨by simp[binOp,Op.intCmp,bne,Bool.beq_eq_decide_eq],fb _⟩
 case lss=>obtain⟨rfl,rfl⟩:=kin_ok hv;exact⟨by simp[binOp,Op.intCmp],fb _⟩
 case leq=>
  obtain⟨rfl,rfl⟩:=kin_ok hv;have e:decide (a≤b) = !decide (b<a):=by rw[Bool.eq_iff_iff];simp[Int.not_lt]
  exact⟨by simp only[binOp,Op.intCmp,e];rw[if_neg (by simp)];rfl,fb _⟩
 case gtr=>obtain⟨rfl,rfl⟩:=kin_ok hv;exact⟨by simp[binOp,Op.intCmp],fb _⟩
 case geq=>
  obtain⟨rfl,rfl⟩:=kin_ok hv;have e:decide (a ≥ b) = !decide (a<b):=by rw[Bool.eq_iff_iff];simp[Int.not_lt]
  exact⟨by simp only[binOp,Op.intCmp,e];rw[if_neg (by simp)];rfl,fb _⟩
theorem bin_ok {op:BinOp}{t:TypeId}{x x' y y' v:Value} (hx:S3 m x x') (hy:S3 m y y') (hv:aBin P op t x y=some v) (X Y:Operand):∃ v',(do eqGuard op t X Y x' y';binOp op t x' y':Sem Value).run P w=.ok v' w∧S3 m v v':=by
 have fb:∀ q,S3 m (.bool q) (.bool q):=fun q=>(s0_bool q).s3;unfold aBin at hv;split at hv
 ·rename_i k a k' b
  have hr:=hx.rng;rw[hx.int,hy.int];obtain⟨h1,h2⟩:=binI_ok (P:=P) (w:=w) (m:=m) (t:=t) hr hv;exact⟨v,by simp[guard_int,h1],h2⟩
 ·rename_i a b
  rw[hx.string,hy.string];cases op <;> simp only[binS] at hv <;> try (cases hv;done)
  ·unfold catS at hv;cases hb:Nat.ble (a.data.toList.length+b.data.toList.length) 1048576 with
   | false=>rw[hb] at hv;cases hv
   | true=>
    simp only[hb,cond_true,Option.some.injEq] at hv;have hle:=Nat.le_of_ble_eq_true hb;have e:(⟨(a.data.toList++b.data.toList).toArray⟩:BA)=a++b:=by
     apply WideShapes.bytes_inj;simp
    rw[e] at hv;subst hv;refine⟨_,?_,(s0_str (a++b)).s3⟩;have hsz:¬ (((a.size+b.size:Nat):Int)>IntKind.i64.max):=by
     have h1:a.size=a.data.toList.length:=rfl;have h2:b.size=b.data.toList.length:=rfl;have h3:IntKind.i64.max=9223372036854775807:=by decide
     rw[h3];omega
    have hb:(binOp .add t (.string a) (.string b)).run P w=.ok (.string (a++b)) w:=by
     simp only[binOp,Op.stringOp];rw[if_neg hsz];rfl
    simp[guard_str,hb]
  ·rw[mkB_eq] at hv;cases hv;exact⟨.bool (sbeq a b),by simp[guard_str,binOp,Op.stringOp,toList_beq],fb _⟩
  rw[mkB_eq] at hv;cases hv;exact⟨.bool (!sbeq a b),by simp[guard_str,binOp,Op.stringOp,toList_beq],fb _⟩
 ·rename_i a b
  rw[hx.bool,hy.bool];cases hb:isBoolT P t with
  | false=>simp[hb] at hv
  | true=>
   simp only[hb,cond_true] at hv;have hu:P.underlying t=some .bool:=by unfold isBoolT at hb;split at hb <;> first | assumption | cases hb
   cases op <;> simp only[binB,mkB_eq] at hv <;> cases hv <;> exact⟨_,by simp[guard_bool,binOp,eq_bool hu],fb _⟩
 ·rename_i b n c n' c'
  rw[hy.slN];cases hb:isSliceT P t with
  | false=>simp[hb] at hv
  | true=>
   simp only[hb,cond_true] at hv;obtain⟨e,hu⟩:∃ e,P.underlying t=some (.slice e):=by unfold isSliceT at hb;split at hb <;> first | exact⟨_,by assumption⟩ | cases hb
   cases b with
   | none=>
    rw[hx.slN];cases op <;> simp only[binB,mkB_eq] at hv <;> cases hv <;> exact⟨_,by simp[guard_sl,binOp,eq_sl hu],fb _⟩
   | some a=>
    obtain⟨b',c'',rfl,-⟩:=hx.sl;cases op <;> simp only[binB,mkB_eq] at hv <;> cases hv <;> exact⟨_,by simp[guard_sl,binOp,eq_sl hu],fb _⟩
 ·rename_i b
  rw[hy.mapN];cases hb:isMapT P t with
  | false=>simp[hb] at hv
  | true=>
   simp only[hb,cond_true] at hv;obtain⟨e,e',hu⟩:∃ e e',P.underlying t=some (.map e e'):=by unfold isMapT at hb;split at hb <;> first | exact⟨_,_,by assumption⟩ | cases hb
   cases b with
   | none=>
    rw[hx.mapN];cases op <;> simp only[binB,mkB_eq] at hv <;> cases hv <;> exact⟨_,by simp[guard_map,binOp,eq_map hu],fb _⟩
   | some a=>
    obtain⟨r',rfl,-⟩:=hx.mapS;cases op <;> simp only[binB,mkB_eq] at hv <;> cases hv <;> exact⟨_,by simp[guard_map,binOp,eq_map hu],fb _⟩
 ·rename_i b
  rw[hy.ptrN];cases hb:isPtrT P t with
  | false=>simp[hb] at hv
  | true=>
   simp only[hb,cond_true] at hv;obtain⟨e,hu⟩:∃ e,P.underlying t=some (.pointer e):=by unfold isPtrT at hb;split at hb <;> first | exact⟨_,by assumption⟩ | cases hb
   cases b with
   | none=>
    rw[hx.ptrN];cases op <;> simp only[binB,mkB_eq] at hv <;> cases hv <;> exact⟨_,by simp[guard_ptr,binOp,eq_ptr hu],fb _⟩
   | some a=>
    obtain⟨r',rfl,-⟩:=hx.ptr;cases op <;> simp only[binB,mkB_eq] at hv <;> cases hv <;> exact⟨_,by simp[guard_ptr,binOp,eq_ptr hu],fb _⟩
 cases hv
theorem un_ok {op:UnOp}{x x' v:Value} (hx:S3 m x x') (hv:aUn op x=some v):∃ v',(Op.unary op x').run P w=.ok v' w∧S3 m v v':=by
 unfold aUn at hv;split at hv
 ·rw[hx.bool];cases hv;exact⟨_,by simp[Op.unary],(s0_bool _).s3⟩
 ·rw[hx.int];simp only[wr_eq,mkI_eq] at hv;cases hv;exact⟨_,by simp[Op.unary,Op.intArith],(s0_int _ _ (wrap_rg _ _)).s3⟩
 cases hv
end
end Go.Proofs.YtmolfmgchbjnbaaGreatDoor.Ev
namespace Go.Proofs.YtmolfmgchbjnbaaGreatDoor.Ev
open Go
variable [Inhabited (Nat→BA)]
section
variable {P:Program}{G:Nat}{m:Mp}{h:AH}{w:WL}
theorem elemT_ok {t e:TypeId}(h:elemT P t=some e):P.underlying t=some (.slice e):=by
 unfold elemT at h;cases hu:P.underlying t with
 | none=>simp[hu] at h
 | some d=>cases d <;> simp[hu] at h;rw[h]
theorem fieldsT_ok {t:TypeId}{fs:Array Field} (h:fieldsT P t=some fs):P.underlying t=some (.struct fs):=by
 unfold fieldsT at h;cases hu:P.underlying t with
 | none=>simp[hu] at h
 | some d=>cases d <;> simp[hu] at h;rw[h]
theorem mapT_ok {t:TypeId}{ke:TypeId × TypeId} (h:mapT P t=some ke):P.underlying t=some (.map ke.1 ke.2):=by
 unfold mapT at h;cases hu:P.underlying t with
 | none=>simp[hu] at h
 | some d=>cases d <;> simp[hu] at h;rw[← h]
theorem intT_ok {t:TypeId}{k:IntKind} (h:intT P t=some k):P.underlying t=some (.int k):=by
 unfold intT at h;cases hu:P.underlying t with
 | none=>simp[hu] at h
 | some d=>cases d <;> simp[hu] at h;rw[h]
theorem isStr_ok {t:TypeId}(h:isStr P t=true):P.underlying t=some .string:=by unfold isStr at h;split at h <;> first | assumption | cases h
theorem isByte_ok {t:TypeId}(h:isByte P t=true):P.underlying t=some (.int .u8):=by unfold isByte at h;split at h <;> first | assumption | cases h
theorem isSliceT_ok {t:TypeId}(h:isSliceT P t=true):∃ e,P.underlying t=some (.slice e):=by unfold isSliceT at h;split at h <;> first | exact⟨_,by assumption⟩ | cases h
theorem bytesOf_ok {l:LV}:∀ {b:LB},bytesOf l=some b→∀ {l':LV},L2 (S1 m) l l'→∃ ns:List Int,l'=ns.map (fun n=>.int .u8 n)∧b=ns.map (fun n=>UInt8.ofNat n.toNat):=by
 induction l with
 | nil=>intro b hb l' hl;cases hb;rw[hl.nil_left];exact⟨[],rfl,rfl⟩
 | cons x l ih=>
  intro b hb l' hl;obtain⟨y,r,rfl,h1,h2⟩:=hl.cons_left;unfold bytesOf at hb;split at hb
  ·rename_i heq;cases heq
  ·rename_i n l0 heq
   cases heq;cases hq:bytesOf l with
   | none=>simp[hq] at hb
   | some q=>
    simp only[hq,Option.map_some,Option.some.injEq] at hb;subst hb;obtain⟨ns,rfl,rfl⟩:=ih hq h2;exact⟨n :: ns,by simp[h1.s3.int],by simp⟩
  cases hb
theorem foldl_push (ns:List Int):∀ (s:BA),(ns.foldl (fun r n=>r.push (UInt8.ofNat n.toNat)) s).data.toList=s.data.toList++ns.map (fun n=>UInt8.ofNat n.toNat):=by
 induction ns with
 | nil=>intro s;simp
 | cons n ns ih=>intro s;rw[List.foldl_cons,ih];simp[ByteArray.push]
theorem conv_ok (R:Rel P G m h w){s d:TypeId}{x x' v:Value} (hx:S3 m x x') (hv:aConv P h s d x=some v):∃ v',(convert s d x').run P w=.ok v' w∧S3 m v v':=by
 unfold aConv at hv;split at hv
 ·rename_i k n
  rw[hx.int];cases hs:intT P s with
  | none=>simp[hs] at hv
  | some k1=>
   cases hd:intT P d with
   | none=>simp[hs,hd] at hv
   | some k2=>
    simp only[hs,hd,Option.bind_some,convI,Option.some.injEq,wr_eq,mkI_eq] at hv;subst hv;exact⟨_,by simp[convert,run_underlying (intT_ok hs),run_underlying (intT_ok hd),Conv.intToInt],(s0_int _ _ (wrap_rg _ _)).s3⟩
 ·rename_i q
  rw[hx.string];cases hs:isStr P s with
  | false=>simp[hs] at hv
  | true=>
   cases hd:isStr P d with
   | false=>simp[hs,hd] at hv
   | true=>
    simp only[hs,hd,Bool.and_self,cond_true,Option.some.injEq] at hv;subst hv;exact⟨_,by simp[convert,run_underlying (isStr_ok hs),run_underlying (isStr_ok hd)],(s0_str _).s3⟩
 ·rename_i o n c
  cases he:elemT P s with
  | none=>simp[he] at hv
  | some e=>
   simp only[he,Option.bind_some] at hv;cases hb:isByte P e with
   | false=>simp[hb] at hv
   | true=>
    cases hd:isStr P d with
    | false=>simp[hb,hd] at hv
    | true=>
     simp only[hb,hd,Bool.and_self,cond_true] at hv;have hu:=elemT_ok he;have hud:=isStr_ok hd;have hue:=isByte_ok hb;unfold strOf at hv;split at hv
     ·rename_i n' c' heq
      cases heq;cases hv;rw[hx.slN];exact⟨_,by simp[convert,run_underlying hu,run_underlying hud,run_underlying hue,Conv.bytesToString],(s0_str _).s3⟩
     ·rename_i b off n' c' heq
      cases heq;obtain⟨a,c'',rfl,-,-,hsl⟩:=hx.sl;unfold strR at hv;split at hv
      ·rename_i xs e' hr
       obtain⟨x,es,hm,rfl,-,hg,hO,-⟩:=R.sl hr hsl;cases hc:cut xs off n with
       | none=>simp[hc] at hv
       | some l=>
        simp only[hc,Option.bind_some] at hv;cases hq:bytesOf l with
        | none=>simp[hq] at hv
        | some bs=>
         simp only[hq,Option.map_some,Option.some.injEq,strV] at hv;subst hv;obtain⟨l',hl,hcell⟩:=hO.cut hc;have hlen:l'.length=n:=by rw[← hl.1];exact (cut_ok hc).2.1
         have hrun:=run_loadCells_list (P:=P) (w:=w) (Ad x.b (off+x.s)) l' hcell;rw[hlen] at hrun;obtain⟨ns,rfl,rfl⟩:=bytesOf_ok hq hl;have hb:=run_bytesToString (P:=P) w (Ad x.b (off+x.s)) n c'' ns hrun;refine⟨_,by simp[convert,run_underlying hu,run_underlying hud,run_underlying hue,hb];rfl,?_⟩;have e:(ns.foldl (fun r n=>r.push (UInt8.ofNat n.toNat)) ByteArray.empty)=⟨(ns.map (fun n=>UInt8.ofNat n.toNat)).toArray⟩:=by
          apply WideShapes.bytes_inj;rw[foldl_push];simp
         rw[e];exact (s0_str _).s3
      cases hv
     cases hv
 cases hv
theorem AdR.plus {b off:Nat}{a:Addr} (ha:AdR m (Ad b off) a) (k:Nat):AdR m (Ad b (off+k)) (a.add k):=by
 obtain⟨-,h2,h3⟩:=ha;obtain⟨q,r,s⟩:=a;simp only at h2;subst h2;rw[add_off];refine⟨rfl,rfl,?_⟩;rcases h3 with h3 | ⟨x,h3,h4,h5⟩
 ·exact .inl h3
 exact .inr ⟨x,h3,h4,by simp only at h5 ⊢;omega⟩
theorem SlR.ad {a a':Addr}{c:Nat} (h:SlR m a a' c):AdR m a a':=by
 obtain⟨h1,h2,h3⟩:=h;refine⟨h1,h2,?_⟩;rcases h3 with h3 | ⟨x,h3,h4,h5,-⟩
 ·exact .inl h3
 exact .inr ⟨x,h3,h4,h5⟩
theorem fieldAddr_ok {s:TypeId}{i:Nat}{x x' v:Value} (hx:S3 m x x') (hv:aFieldAddr (fieldOffs P s i) x=some v):∃ v',(Instr.fieldAt s x' i).run P w=.ok v' w∧S3 m v v':=by
 unfold aFieldAddr at hv;split at hv
 ·rename_i b off
  obtain⟨a,rfl,ha⟩:=hx.ptr;cases hk:fieldOffs P s i with
  | none=>simp[hk] at hv
  | some k=>
   simp only[hk,Option.bind_some,Option.some.injEq,mkPtr_eq] at hv;subst hv;unfold fieldOffs at hk;cases hf:fieldsT P s with
   | none=>simp[hf] at hk
   | some fs=>
    simp only[hf,Option.bind_some] at hk;cases hfi:fs[i]? with
    | none=>simp[hfi] at hk
    | some f=>
     simp only[hfi,Option.bind_some] at hk;cases hn:sizeT P f.type with
     | none=>simp[hn] at hk
     | some n=>
      simp only[hn,Option.bind_some] at hk;cases hz:Nat.beq n 0 with
      | true=>simp[hz] at hk
      | false=>
       simp only[hz,cond_false,Option.some.injEq] at hk;subst hk;have hn0:n≠0:=by intro e;subst e;simp at hz
       exact⟨.pointer (some (a.add f.offset)),by simp[Instr.fieldAt,run_underlying (fieldsT_ok hf),hfi,Instr.sureAddr,fieldPlace,size_ok hn,hn0],S0.s3 (ha.plus f.offset)⟩
 cases hv
theorem part_ok {t:TypeId}{cs cs':Array Value}{off:Nat} (hc:L2 (S1 m) cs.toList cs'.toList) {b:Bool} (hb:aggOf P t=some b) {v:Value} (hv:aPart P t cs.toList off b=some v):∃ v',(part t cs' off).run P w=.ok v' w∧S3 m v v':=by
 cases b with
 | false=>
  simp only[aPart,nth_eq] at hv;obtain⟨y,hy,s⟩:=hc.at hv;have:cs'[off]?=some y:=by simpa using hy
  exact⟨y,by simp[part,agg_ok hb,this],s.s3⟩
 | true=>
  simp only[aPart] at hv;cases hn:sizeT P t with
  | none=>simp[hn] at hv
  | some n=>
   simp only[hn,Option.bind_some] at hv;cases hq:cut cs.toList off n with
   | none=>simp[hq] at hv
   | some l=>
    simp only[hq,Option.map_some,Option.some.injEq,aggV] at hv;subst hv;obtain⟨e,-,-⟩:=cut_ok hq;refine⟨.agg (cs'.extract off (off+n)),by simp[part,agg_ok hb,size_ok hn],.inl (.inr ⟨_,_,rfl,rfl,?_⟩)⟩;have:(cs'.extract off (off+n)).toList=(cs'.toList.drop off).take n:=by simp[Array.toList_extract,List.extract_eq_take_drop]
    rw[this,e];simpa using (hc.drop off).take n
theorem field_ok {t:TypeId}{i:Nat}{x x' v:Value} (hx:S3 m x x') (hv:aField P t i x=some v):∃ v',(Instr.field t x' i).run P w=.ok v' w∧S3 m v v':=by
 unfold aField at hv;split at hv
 ·rename_i cs
  obtain⟨cs',rfl,hc⟩:=hx.agg;cases hf:fieldsT P t with
  | none=>simp[hf] at hv
  | some fs=>
   simp only[hf,Option.bind_some] at hv;cases hfi:fs[i]? with
   | none=>simp[hfi] at hv
   | some f=>
    simp only[hfi,Option.bind_some,fieldV] at hv;cases hq:aggOf P f.type with
    | none=>simp[hq] at hv
    | some q=>
     simp only[hq,Option.bind_some] at hv;obtain⟨v',h1,h2⟩:=part_ok (w:=w) hc hq hv;exact⟨v',by simp[Instr.field,run_underlying (fieldsT_ok hf),hfi,asAgg,h1],h2⟩
 cases hv
theorem indexAddr_ok {t:TypeId}{x x' i i' v:Value} (hx:S3 m x x') (hi:S3 m i i') (hv:aIndexAddr (elemSz P t) (arrSz P t) x i=some v):∃ v',(Instr.indexAt t x' i').run P w=.ok v' w∧S3 m v v':=by
 unfold aIndexAddr at hv;split at hv
 ·rename_i b off k j
  obtain⟨a,rfl,ha⟩:=hx.ptr;rw[hi.int];obtain⟨⟨n,z⟩,hz,hv⟩:=Option.bind_eq_some_iff.1 hv;unfold arrSz at hz;obtain⟨⟨n',e⟩,h1,h2⟩:=Option.bind_eq_some_iff.1 hz;obtain⟨z',h3,h4⟩:=Option.map_eq_some_iff.1 h2;cases h4;unfold arrNE at h1;obtain⟨d,hu,h5⟩:=Option.bind_eq_some_iff.1 h1;have hu':P.underlying t=some (.array n' e):=by
   cases d <;> simp at h5
   rw[hu,h5.1,h5.2]
  unfold arrPtr at hv;simp only at hv h3;cases hb:Nat.blt j n' with
  | false=>simp[hb] at hv
  | true=>
   simp only[hb,cond_true,Option.some.injEq,mkPtr_eq] at hv;subst hv;have hj:j<n':=by simpa [Nat.blt_eq] using hb
   refine⟨.pointer (some (a.add (j*z))),?_,S0.s3 (ha.plus (j*z))⟩;simp[Instr.indexAt,asIntOf,run_underlying hu',Instr.sureAddr,size_ok h3,hj]
 ·rename_i b off n c k j
  obtain⟨a,c',rfl,-,-,hs⟩:=hx.sl;rw[hi.int];cases hz:elemSz P t with
  | none=>simp[hz] at hv
  | some z=>
   simp only[hz,Option.bind_some] at hv;cases hb:Nat.blt j n with
   | false=>simp[hb] at hv
   | true=>
    simp only[hb,cond_true,Option.some.injEq,mkPtr_eq] at hv;subst hv;have hj:j<n:=by simpa [Nat.blt_eq] using hb
    unfold elemSz at hz;cases he:elemT P t with
    | none=>simp[he] at hz
    | some e=>
     simp only[he,Option.bind_some] at hz;have hlt:(0:Int)≤Int.ofNat j∧(Int.ofNat j:Int)<n:=⟨by simp,by simpa using hj⟩;refine⟨.pointer (some (a.add (j*z))),?_,S0.s3 (hs.ad.plus (j*z))⟩;simp[Instr.indexAt,asIntOf,run_underlying (elemT_ok he),size_ok hz,hj]
 cases hv
theorem index_ok {t:TypeId}{x x' i i' v:Value} (hx:S3 m x x') (hi:S3 m i i') (hv:aIndex P t x i=some v):∃ v',(Instr.index t x' i').run P w=.ok v' w∧S3 m v v':=by
 unfold aIndex at hv;split at hv
 ·rename_i s k j
  rw[hx.string,hi.int];cases hu:isStr P t with
  | false=>simp[hu] at hv
  | true=>
   simp only[hu,cond_true,nth_eq] at hv;cases hq:s.data.toList[j]? with
   | none=>simp[hq] at hv
   | some b=>
    simp only[hq,Option.map_some,Option.some.injEq] at hv;subst hv;have hj:j<s.size:=by
     have:=(Lgs.1 hq).1;simpa using this
    have e:s[j]?=some b:=by
     rw[ByteArray.getElem?_lt' s j hj];have:=Lib.data_getElem? s j hj;rw[hq] at this;exact this.symm
    exact⟨_,by simp[Instr.index,asIntOf,run_underlying (isStr_ok hu),e],(s0_int _ _ (fun e=>by cases e)).s3⟩
 cases hv
theorem len_ok {t ty:TypeId}{ts:Array TypeId} (ht:ts[0]?=some t) {l:LV}{args:Array Value} (ha:L2 (S3 m) l args.toList) {v:Value} (hv:rLen P t l=some v):∃ v',(Builtin.len_ ts ty args).run P w=.ok v' w∧S3 m v v':=by
 unfold rLen at hv;split at hv
 ·rename_i x
  obtain⟨y,r,e,hx,hr⟩:=ha.cons_left;have ha0:args[0]?=some y:=by rw[← Array.getElem?_toList,e];rfl
  unfold aLen at hv;split at hv
  ·rename_i s
   rw[hx.string] at ha0;cases hq:isStr P t && Nat.blt s.data.toList.length 9223372036854775808 with
   | false=>rw[hq] at hv;cases hv
   | true=>
    rw[hq] at hv;simp only[cond_true,Option.some.injEq] at hv;subst hv;obtain⟨hu,hl⟩:=Bool.and_eq_true_iff.1 hq;exact⟨goInt s.data.toList.length,by simp[Builtin.len_,ht,ha0,run_underlying (isStr_ok hu)],(s0_int _ _ fun _=>Int.ofNat_lt.2 (Nat.blt_eq ▸ hl)).s3⟩
  ·rename_i o n c
   cases hq:isSliceT P t && Nat.blt n 9223372036854775808 with
   | false=>rw[hq] at hv;cases hv
   | true=>
    rw[hq] at hv;simp only[cond_true,Option.some.injEq] at hv;subst hv;obtain⟨hu,hl⟩:=Bool.and_eq_true_iff.1 hq;have hl:((n:Nat):Int)<9223372036854775808:=Int.ofNat_lt.2 (Nat.blt_eq ▸ hl);obtain⟨e',he⟩:=isSliceT_ok hu;cases o with
    | none=>
     rw[hx.slN] at ha0;exact⟨goInt n,by simp[Builtin.len_,ht,ha0,run_underlying he],(s0_int _ _ fun _=>hl).s3⟩
    | some a=>
     obtain⟨b,c',rfl,-⟩:=hx.sl;exact⟨goInt n,by simp[Builtin.len_,ht,ha0,run_underlying he],(s0_int _ _ fun _=>hl).s3⟩
  cases hv
 cases hv
theorem minmax_ok {ts:Array TypeId}{ty:TypeId}{mx:Bool}{l:LV}{args:Array Value} (ha:L2 (S3 m) l args.toList) {v:Value} (hv:aMinMax mx l=some v):∃ v',(if mx then Builtin.max_ ts ty args else Builtin.min_ ts ty args).run P w=.ok v' w∧S3 m v v':=by
 unfold aMinMax at hv;split at hv
 ·rename_i k x k' y
  obtain⟨x',r,e,hx,hr⟩:=ha.cons_left;obtain⟨y',r',e',hy,hr'⟩:=hr.cons_left;rw[hr'.nil_left] at e';subst e';have rx:=hx.rng;have ry:=hy.rng;rw[hx.int,hy.int] at e;obtain⟨rfl,rfl⟩:=kin_ok hv;simp only[ilt_eq];cases mx with
  | true=>exact⟨_,by simp[Builtin.max_,Builtin.max2,e];rfl,by by_cases c:x<y <;> simp[c] <;> first | exact (s0_int _ _ ry).s3 | exact (s0_int _ _ rx).s3⟩
  | false=>exact⟨_,by simp[Builtin.min_,Builtin.min2,e];rfl,by by_cases c:y<x <;> simp[c] <;> first | exact (s0_int _ _ ry).s3 | exact (s0_int _ _ rx).s3⟩
 cases hv
end
end Go.Proofs.YtmolfmgchbjnbaaGreatDoor.Ev
