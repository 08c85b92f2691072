/-
  Texts Ca Cb Cc.
-/
import Derived.Test.YtgpamchpeamnfaaGreatDoorMA
import Derived.Test.YtgpamchpeamnfaaGreatDoorM25
set_option linter.unusedSimpArgs false
set_option linter.unusedVariables false
set_option maxRecDepth 100000
set_option maxHeartbeats 40000000
open _root_.Go.Proofs.Tryz
namespace Go.Proofs.YtgpamchpeamnfaaGreatDoor
open Go.RowKit
open Wire Flow Mach
structure Rw where
 v:Value
 e:TypeId
 z:Nat
 n:Nat
 xs:List Value
def r7 (W:World) (tag:Nat→Nat) (v:Value):Prop:=
 ∃ (o:Option Addr) (n c:Nat),v=.slice o n c∧n≤c∧n≤30∧(0<n→∃ g off,o=some ⟨g,off,none⟩∧g<W.heap.size∧tag g=8∧∀ i,i<n→∃ s:ByteArray,s.size≤1048576∧W.cell? ⟨g,off+i,none⟩=some (.string s))
theorem r7.chg {W W':World}{tag tag':Nat→Nat}{v:Value}{S:List Nat} (h:r7 W tag v) (hc:Chg tag S W W') (h8:8 ∉ S) (hr:∀ k,k<W.heap.size→tag' k=tag k):r7 W' tag' v:=by
 obtain⟨o,n,c,h1,h2,h3,h4⟩:=h
 refine⟨o,n,c,h1,h2,h3,fun h0=>?_⟩
 obtain⟨g,off,e1,e2,e3,e4⟩:=h4 h0
 refine⟨g,off,e1,Nll e2 hc.size,by rw[hr g e2];exact e3,fun i hi=>?_⟩
 obtain⟨s,hs,hx⟩:=e4 i hi
 exact⟨s,hs,(hc.cell (p:=⟨g,off+i,none⟩) e2 (by rw[e3];exact h8)).trans hx⟩
structure Sto (w0 W:World) (tag:Nat→Nat) (lv:Nat→Bool) (R:Nat→Rw) (sz:Nat→Nat) (O:Nat→Nat) (C:Nat→Nat→Value) (K:Value→Prop):Prop where
 fr:Fr [] w0 W
 low:∀ k,k<w0.heap.size→tag k=7
 rows:∀ i,lv i=true→iR w0.heap.size W tag i (R i).e (R i).z (R i).v (R i).n (R i).xs
 objs:∀ i,0<sz i→w0.heap.size≤O i∧O i<W.heap.size∧tag (O i)=i∧∀ j,j<sz i→W.cell? ⟨O i,j,none⟩=some (C i j)∧W.frozen? ⟨O i,j,none⟩=false
 far:∀ i,lv i=true→0<sz i→False
 num:∀ i,(lv i=true∨0<sz i)→i≠6∧i≠7∧i≠8
 keys:∀ v,K v→r7 W tag v
section
variable {w0 W W' : World} {tag tag' : Nat → Nat} {lv : Nat → Bool} {R : Nat → Rw} {sz O : Nat → Nat} {C : Nat → Nat → Value} {K : Value → Prop} {S : List Nat}
theorem Sto.chg (h:Sto w0 W tag lv R sz O C K)(hc:Chg tag S W W')(hr:∀ k,k<W.heap.size→tag' k=tag k)(hS:∀ i,(lv i=true∨0<sz i∨i=7∨i=8)→i ∉ S):Sto w0 W' tag' lv R sz O C K:=by
 refine⟨zH h.fr h.low hc (hS 7 (by simp)),fun k hk=>by rw[hr k (Nll hk h.fr.size)];exact h.low k hk,fun i hi=>?_,fun i hi=>?_,h.far,h.num,fun v hv=>(h.keys v hv).chg hc (hS 8 (by simp)) hr⟩
 ·have r:=h.rows i hi
  exact⟨(r.chg hc (hS i (.inl hi))).own,r.tg.re (fun g hg=>(r.own.lt g hg).2) (fun k hk e=>by rw[hr k hk];exact e)⟩
 ·obtain⟨a,b,c,d⟩:=h.objs i hi
  have hn:tag (O i) ∉ S:=by rw[c];exact hS i (.inr (.inl hi))
  exact⟨a,Nll b hc.size,by rw[hr _ b];exact c,fun j hj=>⟨(hc.cell (p:=⟨O i,j,none⟩) b hn).trans (d j hj).1,(hc.frozen (p:=⟨O i,j,none⟩) b hn).trans (d j hj).2⟩⟩
theorem Sto.frm (h:Sto w0 W tag lv R sz O C K)(hf:Fr [] W W'):Sto w0 W' tag lv R sz O C K:=h.chg (S:=[]) (Chg.of_fr hf) (fun _ _=>rfl) (by simp)
theorem Sto.re (h:Sto w0 W tag lv R sz O C K)(hr:∀ k,k<W.heap.size→tag' k=tag k):Sto w0 W tag' lv R sz O C K:=h.chg (S:=[]) (Chg.refl _ _ _) hr (by simp)
theorem Sto.oc (h:Sto w0 W tag lv R sz O C K){i j:Nat}(hj:j<sz i):W.cell? ⟨O i,j,none⟩=some (C i j):=((h.objs i (by omega)).2.2.2 j hj).1
theorem Sto.oz (h:Sto w0 W tag lv R sz O C K){i j:Nat}(hj:j<sz i):W.frozen? ⟨O i,j,none⟩=false:=((h.objs i (by omega)).2.2.2 j hj).2
theorem Sto.row (h:Sto w0 W tag lv R sz O C K){i:Nat}{v:Value}{e:TypeId}{z n:Nat}{xs:List Value} (hl:lv i=true) (hR:R i=⟨v,e,z,n,xs⟩):iR w0.heap.size W tag i e z v n xs:=by
 have:=h.rows i hl
 rw[hR] at this
 exact this
def upC (C:Nat→Nat→Value) (i j:Nat) (v:Value):Nat→Nat→Value:=fun a b=>if a=i∧b=j then v else C a b
theorem fS (C:Nat→Nat→Value)(i j:Nat)(v:Value):upC C i j v i j=v:=by simp[upC]
theorem bJ (C:Nat→Nat→Value){i j a b:Nat}(v:Value)(h:¬ (a=i∧b=j)):upC C i j v a b=C a b:=by simp[upC,h]
theorem Sto.set (h:Sto w0 W tag lv R sz O C K){i j:Nat}(hj:j<sz i)(v:Value):Sto w0 (W.setCell ⟨O i,j,none⟩ v) tag lv R sz O (upC C i j v) K:=by
 have hi:0<sz i:=by omega
 obtain⟨a,b,c,d⟩:=h.objs i hi
 have hc:Chg tag [i] W (W.setCell ⟨O i,j,none⟩ v):=Chg.setCell W (by simp[c]) v
 have hn:=h.num i (.inr hi)
 refine⟨zH h.fr h.low hc (by simp;omega),h.low,fun q hq=>(h.rows q hq).chg hc (by simp;rintro rfl;exact h.far q hq hi),fun q hq=>?_,h.far,h.num,fun u hu=>(h.keys u hu).chg hc (by simp;omega) (fun _ _=>rfl)⟩
 obtain⟨a',b',c',d'⟩:=h.objs q hq
 refine⟨a',Nll b' hc.size,c',fun k hk=>?_⟩
 by_cases e:q=i
 ·subst e
  refine⟨?_,by rw[wfz];exact (d' k hk).2⟩
  by_cases ek:k=j
  ·subst ek
   rw[fS]
   exact aP (d' k hk).1
  ·rw[bJ _ _ (by simp[ek]),aA (fun e'=>ek e'.symm)]
   exact (d' k hk).1
 ·have hn:tag (O q) ∉ [i]:=by rw[c'];simpa using e
  rw[bJ _ _ (by simp[e])]
  exact⟨(hc.cell (p:=⟨O q,k,none⟩) b' hn).trans (d' k hk).1,(hc.frozen (p:=⟨O q,k,none⟩) b' hn).trans (d' k hk).2⟩
theorem aXu {w:World}{B:Nat}{e:TypeId}{z g n cap:Nat}{xs:List Value} (h:w.ownsRow B e z (.slice (some ⟨g,0,none⟩) n cap) n xs) {j:Nat} (hj:j<n*z) (u:Value):(w.setCell ⟨g,j,none⟩ u).ownsRow B e z (.slice (some ⟨g,0,none⟩) n cap) n (xs.set j u):=by
 refine⟨by rw[List.length_set];exact h.1,?_⟩
 rcases h.2 with ⟨h',_⟩ | ⟨g',cap',cur,h',hb,hg,hnc,hcm,hcs,ht⟩
 ·cases h'
 ·simp only[Value.slice.injEq,Option.some.injEq,Addr.mk.injEq,and_true,true_and] at h'
  obtain⟨rfl,rfl⟩:=h'
  have hjc:j<cur.size:=by
   rw[hcs]
   exact Nll hj (Nat.mul_le_mul_right z hnc)
  refine .inr ⟨g,cap,cur.setIfInBounds j u,rfl,hb,?_,hnc,hcm,by simpa using hcs,?_⟩
  ·have hl:=(Age.1 hg).1
   have hgg:w.heap[g]=.cells cur e (0,0):=(Age.1 hg).2
   unfold World.setCell
   simp[hl,Array.getElem_modify,hgg]
  ·rw[← ht]
   simp[List.take_set]
theorem Sto.put (h:Sto w0 W tag lv R sz O C K){i g n cap z:Nat}{e:TypeId}{xs:List Value} (hl:lv i=true) (hR:R i=⟨.slice (some ⟨g,0,none⟩) n cap,e,z,n,xs⟩) {j:Nat} (hj:j<n*z) (u:Value) :
  Sto w0 (W.setCell ⟨g,j,none⟩ u) tag lv (up R i ⟨.slice (some ⟨g,0,none⟩) n cap,e,z,n,xs.set j u⟩) sz O C K:=by
 have r:=h.row hl hR
 have hg:tag g=i:=r.tg g rfl
 have hc:Chg tag [i] W (W.setCell ⟨g,j,none⟩ u):=Chg.setCell W (by simp[hg]) u
 have hn:=h.num i (.inl hl)
 refine⟨zH h.fr h.low hc (by simp;omega),h.low,fun q hq=>?_,fun q hq=>?_,h.far,h.num,fun v hv=>(h.keys v hv).chg hc (by simp;omega) (fun _ _=>rfl)⟩
 ·by_cases e:q=i
  ·subst e
   rw[bG]
   exact⟨aXu r.own hj u,r.tg⟩
  ·rw[aJ _ _ e]
   exact (h.rows q hq).chg hc (by simpa using e)
 ·obtain⟨a',b',c',d'⟩:=h.objs q hq
  have hne:q≠i:=by rintro rfl;exact h.far q hl hq
  have hn:tag (O q) ∉ [i]:=by rw[c'];simpa using hne
  exact⟨a',Nll b' hc.size,c',fun k hk=>⟨(hc.cell (p:=⟨O q,k,none⟩) b' hn).trans (d' k hk).1,(hc.frozen (p:=⟨O q,k,none⟩) b' hn).trans (d' k hk).2⟩⟩
theorem Sto.grow (h:Sto w0 W tag lv R sz O C K){i:Nat}(hl:lv i=true){e:TypeId}{z n:Nat}{v:Value}{xs:List Value} (hown:W'.ownsRow w0.heap.size e z v n xs) (hg:W.grownBy W' (R i).v.ownBlock) (hwh:v.ownBlock=(R i).v.ownBlock∨v.ownBlock=some W.heap.size) :
  Sto w0 W' (aM tag W.heap.size i) lv (up R i ⟨v,e,z,n,xs⟩) sz O C K:=by
 have r:=h.rows i hl
 have hn:=h.num i (.inl hl)
 have hc:Chg tag [i] W W':=Chg.grown hg (fun k hk=>by rw[r.tg k hk];simp)
 have hr:∀ k,k<W.heap.size→aM tag W.heap.size i k=tag k:=fun k hk=>aI hk
 refine⟨zH h.fr h.low hc (by simp;omega),fun k hk=>by rw[hr k (Nll hk h.fr.size)];exact h.low k hk,fun q hq=>?_,fun q hq=>?_,h.far,h.num,fun v hv=>(h.keys v hv).chg hc (by simp;omega) hr⟩
 ·by_cases e:q=i
  ·subst e
   rw[bG]
   refine⟨hown,fun g hg2=>?_⟩
   rcases hwh with h1 | h1
   ·rw[h1] at hg2
    rw[hr g (r.own.lt g hg2).2]
    exact r.tg g hg2
   ·rw[h1] at hg2
    obtain rfl:W.heap.size=g:=by simpa using hg2
    exact cX (Nat.le_refl _)
  ·rw[aJ _ _ e]
   have r':=h.rows q hq
   exact⟨(r'.chg hc (by simpa using e)).own,r'.tg.re (fun g hg=>(r'.own.lt g hg).2) (fun k hk e=>by rw[hr k hk];exact e)⟩
 ·obtain⟨a',b',c',d'⟩:=h.objs q hq
  have hne:q≠i:=by rintro rfl;exact h.far q hl hq
  have hn:tag (O q) ∉ [i]:=by rw[c'];simpa using hne
  exact⟨a',Nll b' hc.size,by rw[hr _ b'];exact c',fun k hk=>⟨(hc.cell (p:=⟨O q,k,none⟩) b' hn).trans (d' k hk).1,(hc.frozen (p:=⟨O q,k,none⟩) b' hn).trans (d' k hk).2⟩⟩
theorem Sto.cut (h:Sto w0 W tag lv R sz O C K){i g n cap z n':Nat}{e:TypeId}{xs:List Value} (hl:lv i=true) (hR:R i=⟨.slice (some ⟨g,0,none⟩) n cap,e,z,n,xs⟩) (hn:n'≤n) :
  Sto w0 W tag lv (up R i ⟨.slice (some ⟨g,0,none⟩) n' cap,e,z,n',xs.take (n'*z)⟩) sz O C K:=by
 have r:=h.row hl hR
 refine⟨h.fr,h.low,fun q hq=>?_,h.objs,h.far,h.num,h.keys⟩
 by_cases e:q=i
 ·subst e
  rw[bG]
  exact⟨sC r.own hn,fun g' hg'=>r.tg g' (by simpa [Value.ownBlock] using hg')⟩
 ·rw[aJ _ _ e]
  exact h.rows q hq
theorem Sto.new (h:Sto w0 W tag lv R sz O C K){i:Nat}(hsz:sz i=0)(hi:i≠6∧i≠7∧i≠8){e:TypeId}{z n:Nat}{v:Value}{xs:List Value} (hf:Fr [] W W') (hown:W'.ownsRow w0.heap.size e z v n xs) (hwh:∀ g,v.ownBlock=some g→W.heap.size≤g) :
  Sto w0 W' (aM tag W.heap.size i) (up lv i true) (up R i ⟨v,e,z,n,xs⟩) sz O C K:=by
 have hc:Chg tag [] W W':=Chg.of_fr hf
 have hr:∀ k,k<W.heap.size→aM tag W.heap.size i k=tag k:=fun k hk=>aI hk
 refine⟨h.fr.trans hf,fun k hk=>by rw[hr k (Nll hk h.fr.size)];exact h.low k hk,fun q hq=>?_,fun q hq=>?_,fun q hq hs=>?_,fun q hq=>?_,fun v hv=>(h.keys v hv).chg hc (by simp) hr⟩
 ·by_cases e:q=i
  ·subst e
   rw[bG]
   exact⟨hown,fun g hg=>cX (hwh g hg)⟩
  ·rw[aJ _ _ e] at hq ⊢
   have r':=h.rows q hq
   exact⟨(r'.chg hc (by simp)).own,r'.tg.re (fun g hg=>(r'.own.lt g hg).2) (fun k hk e=>by rw[hr k hk];exact e)⟩
 ·obtain⟨a',b',c',d'⟩:=h.objs q hq
  exact⟨a',Nll b' hc.size,by rw[hr _ b'];exact c',fun k hk=>⟨(hc.cell (p:=⟨O q,k,none⟩) b' (by simp)).trans (d' k hk).1,(hc.frozen (p:=⟨O q,k,none⟩) b' (by simp)).trans (d' k hk).2⟩⟩
 ·by_cases e:q=i
  ·subst e;omega
  ·rw[aJ _ _ e] at hq;exact h.far q hq hs
 ·by_cases e:q=i
  ·subst e;exact hi
  ·rw[aJ _ _ e] at hq;exact h.num q hq
end
def SzN (n:Int) (s:ByteArray):Prop:=s.size≤1048576∧-9223372036854775808≤n∧n≤9223372036854775807
def aAp (k:UInt8) (d n:Int) (s:ByteArray):Prop:=SzN n s∧(k=110→d=1)∧(k=116→d=2)∧k≠107
def zQ (na:Nat) (K:Value→Prop) (k:UInt8) (c:List Value):Prop:=
 Flow.Met k∧∃ (l:Bool) (d n:Int) (s:ByteArray) (a:Int) (o:Option Addr) (p q:Nat),c=[.bool l,.int .i64 d,.int .i64 n,.string s,.int .i64 a,.slice o p q]∧SzN n s∧(k=107→l=true∧(∃ j:Nat,a=j∧j<na)∧K (.slice o p q))∧(k≠107→l=false)∧(k=110→d=1)∧(k=116→d=2)
theorem zQ.len {na:Nat}{K:Value→Prop}{k:UInt8}{c:List Value} (h:zQ na K k c):c.length=6:=by
 obtain⟨-,l,d,n,s,a,o,p,q,rfl,-⟩:=h
 rfl
def qN (na:Nat) (K:Value→Prop):List UInt8→List Value→Prop
 | [],xs=>xs=[]
 | k :: ks,xs=>∃ c ys,xs=c++ys∧zQ na K k c∧qN na K ks ys
theorem qN.len {na:Nat}{K:Value→Prop}{ks:List UInt8}{xs:List Value} (h:qN na K ks xs):xs.length=ks.length*6:=by
 induction ks generalizing xs with
 | nil=>rw[show xs=[] from h];rfl
 | cons k ks ih=>
  obtain⟨c,ys,rfl,h1,h2⟩:=h
  rw[Lla,ih h2,h1.len,List.length_cons,Nat.succ_mul];omega
theorem qN.push {na:Nat}{K:Value→Prop}{ks:List UInt8}{xs:List Value}{k:UInt8}{c:List Value} (h:qN na K ks xs) (hc:zQ na K k c):qN na K (ks++[k]) (xs++c):=by
 induction ks generalizing xs with
 | nil=>rw[show xs=[] from h];exact⟨c,[],by simp,hc,rfl⟩
 | cons k' ks ih=>
  obtain⟨d,ys,rfl,h1,h2⟩:=h
  exact⟨d,ys++c,by simp,h1,ih h2⟩
theorem qN.pop {na:Nat}{K:Value→Prop}{ks:List UInt8}{xs:List Value}{k:UInt8} (h:qN na K (ks++[k]) xs):∃ ys c,xs=ys++c∧qN na K ks ys∧zQ na K k c:=by
 induction ks generalizing xs with
 | nil=>
  obtain⟨c,ys,rfl,h1,h2⟩:=h
  rw[show ys=[] from h2]
  exact⟨[],c,by simp,rfl,h1⟩
 | cons k' ks ih=>
  obtain⟨d,ys,rfl,h1,h2⟩:=h
  obtain⟨zs,c,rfl,h3,h4⟩:=ih h2
  exact⟨d++zs,c,by simp,⟨d,zs,rfl,h1,h3⟩,h4⟩
theorem zQ.mono {na:Nat}{K K':Value→Prop}{k:UInt8}{c:List Value} (h:zQ na K k c) (hK:∀ v,K v→K' v):zQ na K' k c:=by
 obtain⟨m,l,d,n,s,a,o,p,q,rfl,h1,h2,h3⟩:=h
 exact⟨m,l,d,n,s,a,o,p,q,rfl,h1,fun e=>⟨(h2 e).1,(h2 e).2.1,hK _ (h2 e).2.2⟩,h3⟩
theorem qN.mono {na:Nat}{K K':Value→Prop}{ks:List UInt8}{xs:List Value} (h:qN na K ks xs) (hK:∀ v,K v→K' v):qN na K' ks xs:=by
 induction ks generalizing xs with
 | nil=>exact h
 | cons k ks ih=>
  obtain⟨c,ys,rfl,h1,h2⟩:=h
  exact⟨c,ys,rfl,h1.mono hK,ih h2⟩
def iC (n:Nat) (xs:List Value):Prop:=xs.length=n*3∧∀ i,i<n→∃ (d m:Int) (s:ByteArray),SzN m s∧xs[i*3]?=some (.int .i64 d)∧xs[i*3+1]?=some (.int .i64 m)∧xs[i*3+2]?=some (.string s)
def vA (n:Nat) (xs:List Value):Prop:=xs.length=n*4∧n≤30∧∀ i,i<n→∃ (k:ByteArray) (d m:Int) (s:ByteArray),k.size≤1048576∧SzN m s∧xs[i*4]?=some (.string k)∧xs[i*4+1]?=some (.int .i64 d)∧xs[i*4+2]?=some (.int .i64 m)∧xs[i*4+3]?=some (.string s)
structure FrV where
 f:Nat
 pl:Nat
 lv:Value
 sv:Value
def frC (x:FrV):List Value:=[.int .i64 x.f,.int .i64 x.pl,x.lv,x.sv]
structure aAq (w0:World) (rv dv:Value) (nr nd:Nat):Prop where
 r:∃ (o:Option Addr) (c:Nat),rv=.slice o nr c∧nr≤c∧nr≤1048576∧(0<nr→∃ g off,o=some ⟨g,off,none⟩∧g<w0.heap.size∧∀ i,i<nr→∃ s:ByteArray,s.size≤1048576∧w0.cell? ⟨g,off+i,none⟩=some (.string s))
 d:∃ (o:Option Addr) (c:Nat),dv=.slice o nd c∧nd≤c∧nd≤1048576∧(0<nd→∃ g off,o=some ⟨g,off,none⟩∧g<w0.heap.size∧∀ i,i<nd→∃ n:Int,(-9223372036854775808≤n∧n≤9223372036854775807)∧w0.cell? ⟨g,off+i,none⟩=some (.int .i64 n))
structure MB (w0:World) (X:Nat) (m:Mo) (lv:Nat→Bool) (R:Nat→Rw) (sz O:Nat→Nat) (C:Nat→Nat→Value) (st:Int) (us:Nat):Prop where
 x:O 0=X∧sz 0=13∧sz 1=7
 md:eR w0 (.agg #[C 0 0,C 0 1,C 0 2,C 0 3,C 0 4]) m∧C 0 2=.int .i64 m.globs∧C 0 3=.int .i64 m.arrs
 w:C 0 5=.pointer (some ⟨O 1,0,none⟩)
 gl:lv 2=true∧∃ (g:Nat) (xs:List Value) (ng c:Nat),m.globs=ng∧C 0 6=.slice (some ⟨g,0,none⟩) ng c∧R 2=⟨C 0 6,118,3,ng,xs⟩∧iC ng xs
 ar:lv 3=true∧∃ na:Nat,m.arrs=na∧R 3=⟨C 0 7,58,1,na,(List.range na).map fun j=>.pointer (some ⟨O (200+2*j),0,none⟩)⟩
 ae:∀ j:Nat,(j:Int)<m.arrs→sz (200+2*j)=1∧lv (201+2*j)=true∧∃ n xs,R (201+2*j)=⟨C (200+2*j) 0,171,4,n,xs⟩∧vA n xs
 rd:∃ nr nd k q:Nat,aAq w0 (C 1 0) (C 1 1) nr nd∧C 1 4=.int .i64 k∧k≤nr∧C 1 5=.int .i64 q∧q≤nd
 rc:(∃ s:ByteArray,C 1 2=.string s∧s.size≤1048576)∧∃ s:ByteArray,C 1 6=.string s∧s.size≤1000
 fd:lv 5=true∧∃ (L:List ByteArray),L.length≤1048577∧(∀ s ∈ L,s.size≤1048576)∧R 5=⟨C 1 3,9,1,L.length,L.map .string⟩
 st:C 0 9=.int .i64 st
 cd:∃ n:Int,C 0 10=.int .i64 n
 us:C 0 11=.int .i64 us
 sk:C 0 12=.bool false
 ah:m.arrs≤1000
structure aZt (m:Mo) (lv:Nat→Bool) (R:Nat→Rw) (K:Value→Prop) (i:Nat) (x:FrV) (ks:List UInt8):Prop where
 f:∃ fn:Wire.Fn,m.fns[x.f]?=some fn∧∃ (nl g c:Nat) (xs:List Value),fn.locs=nl∧x.lv=.slice (some ⟨g,0,none⟩) nl c∧lv (11+2*i)=true∧R (11+2*i)=⟨x.lv,118,3,nl,xs⟩∧iC nl xs
 s:lv (10+2*i)=true∧ks.length≤1024∧∃ xs,R (10+2*i)=⟨x.sv,123,6,ks.length,xs⟩∧qN m.arrs.toNat K ks xs
structure MS (w0 W:World) (X:Nat) (m:Mo) (tag:Nat→Nat) (lv:Nat→Bool) (R:Nat→Rw) (sz O:Nat→Nat) (C:Nat→Nat→Value) (K:Value→Prop) (st:Int) (us:Nat) (fs:List FrV) (kk:List (List UInt8)):Prop where
 S:Sto w0 W tag lv R sz O C K
 B:MB w0 X m lv R sz O C st us
 fr:lv 4=true∧R 4=⟨C 0 8,89,4,fs.length,fs.flatMap frC⟩
 ln:kk.length=fs.length∧fs.length≤21
 each:∀ i x ks,fs[i]?=some x→kk[i]?=some ks→aZt m lv R K i x ks
theorem aEe (L:List FrV)(i t:Nat)(x:FrV)(hi:L[i]?=some x)(ht:t<4):(L.flatMap frC)[i*4+t]?=(frC x)[t]?:=by
 induction L generalizing i with
 | nil=>simp at hi
 | cons y L ih=>
  cases i with
  | zero=>
   simp only[List.getElem?_cons_zero,Option.some.injEq] at hi
   subst hi
   rw[List.flatMap_cons,List.getElem?_append_left (by simp[frC];omega)]
   simp
  | succ i=>
   simp only[List.getElem?_cons_succ] at hi
   rw[List.flatMap_cons,List.getElem?_append_right (by simp[frC];omega),← ih i hi]
   congr 1
   simp[frC]
   omega
theorem aYy (L:List FrV):(L.flatMap frC).length=L.length*4:=by
 induction L with
 | nil=>rfl
 | cons y L ih=>rw[List.flatMap_cons,Lla,ih,List.length_cons,Nat.succ_mul];simp[frC];omega
theorem aEd (L:List FrV)(i t:Nat)(x y:FrV)(hi:L[i]?=some x)(ht:t<4)(u:Value)(hy:frC y=(frC x).set t u):(L.flatMap frC).set (i*4+t) u=(L.set i y).flatMap frC:=by
 induction L generalizing i with
 | nil=>simp at hi
 | cons z L ih=>
  cases i with
  | zero=>
   simp only[List.getElem?_cons_zero,Option.some.injEq] at hi
   subst hi
   rw[List.set_cons_zero,List.flatMap_cons,List.flatMap_cons,hy,List.set_append_left _ _ (by simp[frC];omega)]
   simp
  | succ i=>
   simp only[List.getElem?_cons_succ] at hi
   rw[List.set_cons_succ,List.flatMap_cons,List.flatMap_cons,List.set_append_right _ _ (by simp[frC];omega),← ih i hi]
   congr 2
   simp[frC]
   omega
theorem bV {w:World}{B:Nat}{e:TypeId}{z g n cap:Nat}{xs:List Value} (h:w.ownsRow B e z (.slice (some ⟨g,0,none⟩) n cap) n xs) {j:Nat}{u:Value} (hj:xs[j]?=some u):w.cell? ⟨g,j,none⟩=some u:=by
 have:=h.cells (g:=g) rfl j u hj
 rwa [iB] at this
theorem pB {w:World}{B:Nat}{e:TypeId}{z g n cap:Nat}{xs:List Value} (h:w.ownsRow B e z (.slice (some ⟨g,0,none⟩) n cap) n xs) (j:Nat):w.frozen? ⟨g,j,none⟩=false:=by
 rcases h.2 with ⟨h',_⟩ | ⟨g',cap',cur,h',hb,hg,_⟩
 ·cases h'
 ·simp only[Value.slice.injEq,Option.some.injEq,Addr.mk.injEq,and_true,true_and] at h'
  obtain⟨rfl,rfl⟩:=h'
  unfold World.frozen?
  rw[hg]
  simp
theorem fG {w:World}{B:Nat}{e:TypeId}{z n:Nat}{v:Value}{xs:List Value} (h:w.ownsRow B e z v n xs) (hn:0<n):∃ g cap,v=.slice (some ⟨g,0,none⟩) n cap∧n≤cap∧g<w.heap.size:=by
 rcases h.2 with ⟨h',h0⟩ | ⟨g,cap,cur,h',hb,hg,hc,_⟩
 ·omega
 ·exact⟨g,cap,h',hc,(Age.1 hg).1⟩
def oA (g:Nat):Nat→List Value→World→World
 | _,[],W=>W
 | i,v :: vs,W=>oA g (i+1) vs (W.setCell ⟨g,i,none⟩ v)
theorem uK (g:Nat)(i:Nat)(vs:List Value)(W:World):Fr [g] W (oA g i vs W):=by
 induction vs generalizing i W with
 | nil=>exact Fr.refl _ _
 | cons v vs ih=>exact ((Fr.refl [g] W).setCell (p:=⟨g,i,none⟩) (.inl (by simp)) v).trans (ih (i+1) _)
theorem aTw (g:Nat)(i j:Nat)(vs:List Value)(W:World)(h:j<i):(oA g i vs W).cell? ⟨g,j,none⟩=W.cell? ⟨g,j,none⟩:=by
 induction vs generalizing i W with
 | nil=>rfl
 | cons v vs ih=>
  show (oA g (i+1) vs _).cell? _=_
  rw[ih (i+1) _ (by omega),aA (by omega)]
theorem rI (g:Nat)(i:Nat)(vs:List Value)(W:World)(hc:∀ t,t<vs.length→∃ u,W.cell? ⟨g,i+t,none⟩=some u)(t:Nat)(v:Value)(hv:vs[t]?=some v):(oA g i vs W).cell? ⟨g,i+t,none⟩=some v:=by
 induction vs generalizing i W t with
 | nil=>simp at hv
 | cons x vs ih=>
  show (oA g (i+1) vs _).cell? _=_
  cases t with
  | zero=>
   simp at hv
   subst hv
   obtain⟨u,hu⟩:=hc 0 (by simp)
   exact (aTw g (i+1) i vs _ (by omega)).trans (aP hu)
  | succ t=>
   have:=ih (i+1) (W.setCell ⟨g,i,none⟩ x) (fun t' ht'=>by
    obtain⟨u,hu⟩:=hc (t'+1) (by simp;omega)
    exact⟨u,by rw[aA (by omega),show i+1+t'=i+(t'+1) by omega];exact hu⟩) t (by simpa using hv)
   rw[show i+(t+1)=i+1+t by omega]
   exact this
theorem Sto.out6 {w0 W W':World}{tag:Nat→Nat}{lv:Nat→Bool}{R:Nat→Rw}{sz O:Nat→Nat}{C:Nat→Nat→Value}{K:Value→Prop} (h:Sto w0 W tag lv R sz O C K) (hc:Chg tag [6] W W'):Sto w0 W' tag lv R sz O C K:=
 h.chg hc (fun _ _=>rfl) (fun i hi=>by
  rcases hi with h1 | h1 | rfl | rfl
  ·simpa using (h.num i (.inl h1)).1
  ·simpa using (h.num i (.inr h1)).1
  ·simp
  ·simp)
theorem MS.top {w0 W:World}{X:Nat}{m:Mo}{tag:Nat→Nat}{lv:Nat→Bool}{R:Nat→Rw}{sz O:Nat→Nat}{C:Nat→Nat→Value}{K:Value→Prop}{st:Int}{us:Nat}{fs:List FrV}{x:FrV}{kk:List (List UInt8)}{ks:List UInt8} (h:MS w0 W X m tag lv R sz O C K st us (fs++[x]) (kk++[ks])) :
  aZt m lv R K fs.length x ks:=by
 have hl:=h.ln.1
 simp at hl
 exact h.each fs.length x ks (by simp) (by rw[← hl];simp)
theorem MS.restack {w0 W W':World}{X:Nat}{m:Mo}{tag tag':Nat→Nat}{lv:Nat→Bool}{R:Nat→Rw}{sz O:Nat→Nat}{C:Nat→Nat→Value}{K:Value→Prop}{st:Int}{us:Nat}{fs:List FrV}{x:FrV}{kk:List (List UInt8)}{ks:List UInt8} (h:MS w0 W X m tag lv R sz O C K st us (fs++[x]) (kk++[ks])) {sv:Value}{ks':List UInt8}{xs':List Value}
  (hS:Sto w0 W' tag' lv (up (up R (10+2*fs.length) ⟨sv,123,6,ks'.length,xs'⟩) 4 ⟨C 0 8,89,4,fs.length+1,(fs++[{ x with sv:=sv }]).flatMap frC⟩) sz O C K) (hk:qN m.arrs.toNat K ks' xs') (hl:ks'.length≤1024) :
  MS w0 W' X m tag' lv (up (up R (10+2*fs.length) ⟨sv,123,6,ks'.length,xs'⟩) 4 ⟨C 0 8,89,4,fs.length+1,(fs++[{ x with sv:=sv }]).flatMap frC⟩) sz O C K st us (fs++[{ x with sv:=sv }]) (kk++[ks']):=by
 have e:∀ i,i≠10+2*fs.length→i≠4→up (up R (10+2*fs.length) ⟨sv,123,6,ks'.length,xs'⟩) 4 ⟨C 0 8,89,4,fs.length+1,(fs++[{ x with sv:=sv }]).flatMap frC⟩ i=R i:=fun i h1 h2=>by rw[aJ _ _ h2,aJ _ _ h1]
 have hln:=h.ln
 simp at hln
 have B:=h.B
 refine⟨hS,⟨B.x,B.md,B.w,?_,?_,fun j hj=>?_,B.rd,B.rc,?_,B.st,B.cd,B.us,B.sk,B.ah⟩,⟨h.fr.1,by rw[bG];simp⟩,by simp;omega,fun i y zs hi hz=>?_⟩
 ·rw[e 2 (by omega) (by omega)];exact B.gl
 ·rw[e 3 (by omega) (by omega)];exact B.ar
 ·have:=B.ah
  rw[e _ (by omega) (by omega)];exact B.ae j hj
 ·rw[e 5 (by omega) (by omega)];exact B.fd
 ·by_cases hlt:i<fs.length
  ·rw[List.getElem?_append_left hlt] at hi
   rw[List.getElem?_append_left (by omega)] at hz
   have o:=h.each i y zs (by rw[List.getElem?_append_left hlt];exact hi) (by rw[List.getElem?_append_left (by omega)];exact hz)
   obtain⟨fn,f1,nl,g,c,xs,f2,f3,f4,f5,f6⟩:=o.f
   obtain⟨s1,s2,xs2,s3,s4⟩:=o.s
   exact⟨⟨fn,f1,nl,g,c,xs,f2,f3,f4,by rw[e _ (by omega) (by omega)];exact f5,f6⟩,⟨s1,s2,xs2,by rw[e _ (by omega) (by omega)];exact s3,s4⟩⟩
  ·have hi':=(Lgs.1 hi).1
   simp at hi'
   obtain rfl:i=fs.length:=by omega
   have hz2:(kk++[ks'])[kk.length]?=some zs:=by rw[hln.1];exact hz
   simp at hi hz2
   subst hi hz2
   obtain⟨fn,f1,nl,g,c,xs,f2,f3,f4,f5,f6⟩:=h.top.f
   obtain⟨s1,s2,xs2,s3,s4⟩:=h.top.s
   exact⟨⟨fn,f1,nl,g,c,xs,f2,f3,f4,by rw[e _ (by omega) (by omega)];exact f5,f6⟩,⟨s1,hl,xs',by rw[aJ _ _ (by omega),bG],hk⟩⟩
structure Kp (tag tag':Nat→Nat) (W W':World):Prop where
 size:W.heap.size≤W'.heap.size
 ret:∀ k,k<W.heap.size→tag' k=tag k
 blk:∀ k,k<W.heap.size→tag k=6→W'.heap[k]?=W.heap[k]?
theorem Kp.refl (tag:Nat→Nat)(W:World):Kp tag tag W W:=⟨Nat.le_refl _,fun _ _=>rfl,fun _ _ _=>rfl⟩
theorem Kp.trans {t1 t2 t3:Nat→Nat}{a b c:World} (h:Kp t1 t2 a b) (k:Kp t2 t3 b c):Kp t1 t3 a c:=
 ⟨Nat.le_trans h.size k.size,fun i hi=>(k.ret i (Nll hi h.size)).trans (h.ret i hi),fun i hi ht=>(k.blk i (Nll hi h.size) (by rw[h.ret i hi];exact ht)).trans (h.blk i hi ht)⟩
theorem Kp.of_fr {tag tag':Nat→Nat}{a b:World} (h:Fr [] a b) (hr:∀ k,k<a.heap.size→tag' k=tag k):Kp tag tag' a b:=⟨h.size,hr,fun k hk _=>h.block k hk (by simp)⟩
theorem Kp.set {tag:Nat→Nat}{W:World}{g j:Nat}{v:Value} (hg:tag g≠6):Kp tag tag W (W.setCell ⟨g,j,none⟩ v):=⟨by simp[World.setCell],fun _ _=>rfl,fun k hk ht=>aL (fun e=>hg (by rw[← ht];congr 1;omega))⟩
def bIe (w0:World) (X:Nat) (m:Mo) (lv:Nat→Bool) (sz O:Nat→Nat) (C:Nat→Nat→Value) (K:Value→Prop) (st:Int) (us:Nat) (fs:List FrV) (x:FrV) (kk:List (List UInt8)) (ks:List UInt8) (k:UInt8) (tag:Nat→Nat) (W:World) (e:Ending) (W':World):Prop:=
 ∃ (l:Bool) (d n:Int) (s:ByteArray) (a:Int) (o:Option Addr) (p q:Nat),e=.returned (.agg #[.bool l,.int .i64 d,.int .i64 n,.string s,.int .i64 a,.slice o p q]) ∧
  zQ m.arrs.toNat K k [.bool l,.int .i64 d,.int .i64 n,.string s,.int .i64 a,.slice o p q]∧∃ tag' R' sv,MS w0 W' X m tag' lv R' sz O C K st us (fs++[{ x with sv:=sv }]) (kk++[ks])∧Kp tag tag' W W'
theorem aSs (w0 W:World)(X:Nat)(m:Mo)(tag:Nat→Nat)(lv:Nat→Bool)(R:Nat→Rw)(sz O:Nat→Nat)(C:Nat→Nat→Value)(K:Value→Prop)(st:Int)(us:Nat)(fs:List FrV)(x:FrV)(kk:List (List UInt8))(ks:List UInt8)(k:UInt8)(h:MS w0 W X m tag lv R sz O C K st us (fs++[x]) (kk++[ks++[k]])) :
  Calls prog 58 #[.pointer (some ⟨X,0,none⟩)] W (bIe w0 X m lv sz O C K st us fs x kk ks k tag W):=by
 obtain⟨s1,s2,xs,s3,s4⟩:=h.top.s
 obtain⟨ys,cc,rfl,hys,hcc⟩:=s4.pop
 obtain⟨l4,r4⟩:=h.fr
 have row4:=h.S.row l4 r4
 have rowS:=h.S.row s1 s3
 simp only[Lla,List.length_cons,List.length_nil,Nat.zero_add] at row4 rowS s2 r4 s3
 obtain⟨g4,c4,e4,hc4,hg4⟩:=fG row4.own (by omega)
 obtain⟨gs,cs,es,hcs,hgs⟩:=fG rowS.own (by omega)
 obtain⟨hm,l,d,n,s,a,o,p,q,rfl,hs,hk1,hk2,hk3,hk4⟩:=id hcc
 have hyl:ys.length=ks.length*6:=hys.len
 obtain⟨W1,hW1⟩:=eX (W.alloc (.cells #[.bool false,.int .i64 0,.int .i64 0,.string ⟨#[]⟩,.int .i64 0,.slice none 0 0] 123))
 have F1:Fr [] W W1:=by rw[← hW1];exact (Fr.refl [] W).alloc _
 have h1:=h.S.frm F1
 have hX:=h.B.x
 have f0:W1.cell? ⟨X,8,none⟩=some (.slice (some ⟨g4,0,none⟩) (fs.length+1) c4):=by rw[← hX.1,h1.oc (i:=0) (j:=8) (by rw[hX.2.1];decide),e4]
 have r4':=r4
 have s3':=s3
 rw[e4] at r4'
 rw[es] at s3'
 have row4':=(h1.row l4 r4').own
 have rowS':=(h1.row s1 s3').own
 have f1:W1.cell? ⟨g4,fs.length*4+3,none⟩=some (.slice (some ⟨gs,0,none⟩) (ks.length+1) cs):=bV row4' (by rw[aEe _ fs.length 3 x (by simp) (by decide),← es];rfl)
 have z1:W1.frozen? ⟨g4,fs.length*4+3,none⟩=false:=pB row4' _
 have ft:∀ t v,[Value.bool l,.int .i64 d,.int .i64 n,.string s,.int .i64 a,.slice o p q][t]?=some v→W1.cell? ⟨gs,ks.length*6+t,none⟩=some v:=fun t v hv=>bV rowS' (by rw[List.getElem?_append_right (by omega),hyl,Nat.add_sub_cancel_left];exact hv)
 have t0:=ft 0 _ rfl
 have t1:=ft 1 _ rfl
 have t2:=ft 2 _ rfl
 have t3:=ft 3 _ rfl
 have t4:=ft 4 _ rfl
 have t5:=ft 5 _ rfl
 simp only[Nat.add_zero] at t0
 have hj:fs.length≤21:=by have:=h.ln.2;simp at this;omega
 have hq:ks.length≤1024:=by omega
 have HH:Hid _:=AI h (AI F1 (AI r4' (AI s3' (AI hys hyl))))
 clear h h1 F1 r4 r4' s3 s3' row4 rowS row4' rowS' ft hys hyl hX s4 hcc
 generalize hjj:fs.length=j at *
 generalize hqq:ks.length=i at *
 have HE:Hid _:=AI hjj hqq
 clear hjj hqq
 go_enter func58,ntmps58
 go_wp2
 go_region
 obtain⟨WD,hWD⟩:=eX (W1.drew)
 have FD:Fr [] W1 WD:=by rw[← hWD];exact (Fr.refl [] W1).drew
 rw[hWD]
 have u:∀ a,WD.cell? a=W1.cell? a:=fun a=>by rw[← hWD];rfl
 have uz:∀ a,WD.frozen? a=W1.frozen? a:=fun a=>by rw[← hWD];rfl
 rw[← u] at t0 t1 t2 t3 t4 t5 f1
 rw[← uz] at z1
 clear u uz
 obtain⟨W2,hW2⟩:=eX (WD.alloc (.cells #[.bool l,.int .i64 d,.int .i64 n,.string s,.int .i64 a,.slice o p q] 123))
 have F2:Fr [] WD W2:=by rw[← hW2];exact (Fr.refl [] WD).alloc _
 have F2':Fr [] W W2:=(HH.out.2.1.trans FD).trans F2
 have hg4':g4<WD.heap.size:=Nll hg4 (HH.out.2.1.trans FD).size
 have f2:=(F2.cell (p:=⟨g4,j*4+3,none⟩) hg4' (by simp)).trans f1
 have z2:=(F2.frozen (p:=⟨g4,j*4+3,none⟩) hg4' (by simp)).trans z1
 obtain⟨W3,hW3⟩:=eX (W2.setCell ⟨g4,j*4+3,none⟩ (.slice (some ⟨gs,0,none⟩) i cs))
 have F3:Fr [g4] W2 W3:=by rw[← hW3];exact (Fr.refl _ _).setCell (.inl (by simp)) _
 have k2:=wan WD (.cells #[.bool l,.int .i64 d,.int .i64 n,.string s,.int .i64 a,.slice o p q] 123)
 rw[hW2] at k2
 have hbD:W1.heap.size=WD.heap.size:=by rw[← hWD];rfl
 have kb:∀ t,W3.cell? ⟨WD.heap.size,t,none⟩=(#[.bool l,.int .i64 d,.int .i64 n,.string s,.int .i64 a,.slice o p q]:Array Value)[t]?:=fun t=>(F3.cell (p:=⟨WD.heap.size,t,none⟩) (Age.1 k2).1 (by simp;omega)).trans (by unfold World.cell?;rw[k2];rfl)
 have b0:=kb 0
 have b1:=kb 1
 have b2:=kb 2
 have b3:=kb 3
 have b4:=kb 4
 have b5:=kb 5
 simp at b0 b1 b2 b3 b4 b5
 have k1:=wan W (.cells #[.bool false,.int .i64 0,.int .i64 0,.string ⟨#[]⟩,.int .i64 0,.slice none 0 0] 123)
 rw[hW1] at k1
 have hl1:=(Age.1 k1).1
 have k1D:WD.heap[W.heap.size]?=some (.cells #[.bool false,.int .i64 0,.int .i64 0,.string ⟨#[]⟩,.int .i64 0,.slice none 0 0] 123):=by rw[← hWD];exact k1
 have k3:W3.heap[W.heap.size]?=some (.cells #[.bool false,.int .i64 0,.int .i64 0,.string ⟨#[]⟩,.int .i64 0,.slice none 0 0] 123):=
  (F3.block W.heap.size (by have:=F2.size;omega) (by simp;omega)).trans ((F2.block W.heap.size (by omega) (by simp)).trans k1D)
 have ra:∀ t,W3.cell? ⟨W.heap.size,t,none⟩=(#[.bool false,.int .i64 0,.int .i64 0,.string ⟨#[]⟩,.int .i64 0,.slice none 0 0]:Array Value)[t]?:=fun t=>by unfold World.cell?;rw[k3];rfl
 have rz:∀ t,W3.frozen? ⟨W.heap.size,t,none⟩=false:=fun t=>by unfold World.frozen?;rw[k3];simp
 have a0:=ra 0
 have a1:=ra 1
 have a2:=ra 2
 have a3:=ra 3
 have a4:=ra 4
 have a5:=ra 5
 simp at a0 a1 a2 a3 a4 a5
 have y0:=rz 0
 have y1:=rz 1
 have y2:=rz 2
 have y3:=rz 3
 have y4:=rz 4
 have y5:=rz 5
 have PC:=rI W.heap.size 0 [.bool l,.int .i64 d,.int .i64 n,.string s,.int .i64 a,.slice o p q] W3 (fun t ht=>⟨_,by rw[Nat.zero_add,ra];exact Array.getElem?_eq_getElem (by simpa using ht)⟩)
 have PF:=uK W.heap.size 0 [.bool l,.int .i64 d,.int .i64 n,.string s,.int .i64 a,.slice o p q] W3
 have q0:=PC 0 _ rfl
 have q1:=PC 1 _ rfl
 have q2:=PC 2 _ rfl
 have q3:=PC 3 _ rfl
 have q4:=PC 4 _ rfl
 have q5:=PC 5 _ rfl
 simp only[Nat.zero_add] at q0 q1 q2 q3 q4 q5
 obtain⟨hM,hF1,hr4,hsS,hys,hyl⟩:=HH.out
 obtain⟨rfl,rfl⟩:=HE.out
 have S2:=(hM.S.re (tag':=aM tag W.heap.size 6) (fun k hk=>aI hk)).frm F2'
 have S3:=(S2.cut s1 hsS (n':=ks.length) (by omega)).put (i:=4) l4 (by rw[aJ _ _ (by omega)];exact hr4) (j:=fs.length*4+3) (by omega) (.slice (some ⟨gs,0,none⟩) ks.length cs)
 rw[hW3] at S3
 have eys:(ys++[Value.bool l,.int .i64 d,.int .i64 n,.string s,.int .i64 a,.slice o p q]).take (ks.length*6)=ys:=by rw[← hyl,List.take_left'];rfl
 rw[eys,aEd _ fs.length 3 x { x with sv:=.slice (some ⟨gs,0,none⟩) ks.length cs } (by simp) (by decide) _ rfl,List.set_append_right _ _ (Nat.le_refl _),Nat.sub_self,List.set_cons_zero,← e4] at S3
 have PG:Chg (aM tag W.heap.size 6) [6] W3 (oA W.heap.size 0 [.bool l,.int .i64 d,.int .i64 n,.string s,.int .i64 a,.slice o p q] W3):=⟨PF.os,PF.tape,PF.output,PF.size,fun k hk hn=>PF.block k hk (by simp at hn ⊢;rintro rfl;exact hn (cX (Nat.le_refl _)))⟩
 have S4:=S3.out6 PG
 have tg4:aM tag W.heap.size 6 g4≠6:=by rw[aI hg4,(hM.S.row l4 hr4).tg g4 rfl];decide
 have kp2:Kp tag (aM tag W.heap.size 6) W W2:=Kp.of_fr F2' (fun k hk=>aI hk)
 have kp3:Kp tag (aM tag W.heap.size 6) W W3:=by rw[← hW3];exact kp2.trans (Kp.set tg4)
 have kp4:Kp tag (aM tag W.heap.size 6) W (oA W.heap.size 0 [.bool l,.int .i64 d,.int .i64 n,.string s,.int .i64 a,.slice o p q] W3):=⟨Nat.le_trans kp3.size PF.size,kp3.ret,fun k hk ht=>(PF.block k (Nll hk kp3.size) (by simp;omega)).trans (kp3.blk k hk ht)⟩
 have HZ:Hid _:=AI (hM.restack (ks':=ks) S4 hys hq) kp4
 obtain⟨PW,hPW⟩:=eX ((((((W3.setCell ⟨W.heap.size,0,none⟩ (.bool l)).setCell ⟨W.heap.size,1,none⟩ (.int .i64 d)).setCell ⟨W.heap.size,2,none⟩ (.int .i64 n)).setCell ⟨W.heap.size,3,none⟩ (.string s)).setCell ⟨W.heap.size,4,none⟩ (.int .i64 a)).setCell ⟨W.heap.size,5,none⟩ (.slice o p q))
 have hPL:oA W.heap.size 0 [.bool l,.int .i64 d,.int .i64 n,.string s,.int .i64 a,.slice o p q] W3=PW:=hPW
 rw[hPL] at q0 q1 q2 q3 q4 q5 HZ
 clear hPL
 clear kp2 kp3 kp4 tg4 kb k2 ra rz PC PF PG S2 S3 S4 eys hM hF1 hr4 hsS hys hyl
 have HC:Hid _:=AI hm (AI hs (AI hk1 (AI hk2 (AI hk3 hk4))))
 clear hm hs hk1 hk2 hk3 hk4
 go_wp2
 refine bodyPost_ret (v:=.agg #[.bool l,.int .i64 d,.int .i64 n,.string s,.int .i64 a,.slice o p q]) (by simp[results,results58,go_sem,q0,q1,q2,q3,q4,q5]) rfl ?_
 obtain⟨hm,hs,hk1,hk2,hk3,hk4⟩:=HC.out
 exact⟨l,d,n,s,a,o,p,q,rfl,⟨hm,l,d,n,s,a,o,p,q,rfl,hs,hk1,hk2,hk3,hk4⟩,_,_,_,HZ.out.1,HZ.out.2⟩
end Go.Proofs.YtgpamchpeamnfaaGreatDoor
