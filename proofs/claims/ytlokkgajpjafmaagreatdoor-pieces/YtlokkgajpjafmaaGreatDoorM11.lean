import Derived.Shelf.Strings.SlTrimAscii
import Derived.Test.YtlokkgajpjafmaaGreatDoorRows
import Derived.Lib.AppendIntMem
import Derived.Lib.ItoaLen
import Derived.Test.YtlokkgajpjafmaaGreatDoorM00
import Derived.Test.YtlokkgajpjafmaaGreatDoorM04
import Derived.Test.YtlokkgajpjafmaaGreatDoorM02
set_option linter.unusedSimpArgs false
set_option linter.unusedVariables false
set_option maxRecDepth 100000
set_option maxHeartbeats 40000000
open _root_.Go.Proofs.Tryz
namespace Go.Proofs.YtlokkgajpjafmaaGreatDoor
open Go.RowKit
structure Chg (tag:NN) (S:LN) (W W':WL):Prop where
 os:W'.os=W.os
 tape:W'.tape=W.tape
 output:W'.output=W.output
 size:W.heap.size≤W'.heap.size
 block:∀ k,k<W.heap.size→tag k ∉ S→W'.heap[k]?=W.heap[k]?
theorem Chg.of_fr {tag:NN}{S:LN}{W W':WL} (h:Fr [] W W'):Chg tag S W W':=⟨h.os,h.tape,h.output,h.size,fun k hk _=>h.block k hk (by simp)⟩
theorem Chg.refl (tag:NN)(S:LN)(W:WL):Chg tag S W W:=Chg.of_fr (Fr.refl [] W)
theorem Chg.setCell {tag:NN}{S:LN} (W:WL) {p:Addr} (hp:tag p.block ∈ S) (u:Value):Chg tag S W (W.setCell p u):=
 ⟨rfl,rfl,rfl,by simp[World.setCell],fun k hk hn=>Below.heap_setCell _ _ _ _ (by rintro rfl;exact hn hp)⟩
theorem Chg.grown {tag:NN}{S:LN}{W W':WL}{row:Option Nat} (h:W.grownBy W' row) (hr:∀ k,row=some k→tag k ∈ S):Chg tag S W W':=
 ⟨h.os,h.tape,h.output,h.size,fun k hk hn=>h.block k hk (fun e=>hn (hr k e.symm))⟩
def Tg (tag:NN) (v:Value) (t:Nat):Prop:=∀ g,v.ownBlock=some g→tag g=t
theorem Tg.nil (tag:NN)(t:Nat):Tg tag (.slice none 0 0) t:=fun g h=>by cases h
theorem Tg.re {W:WL}{tag tag':NN}{v:Value}{t:Nat} (h:Tg tag v t) (hl:∀ g,v.ownBlock=some g→g<W.heap.size) (ht:∀ k,k<W.heap.size→tag k=t→tag' k=t):Tg tag' v t:=fun g hg=>ht g (hl g hg) (h g hg)
def up {α:Type} (f:Nat→α) (i:Nat) (x:α):Nat→α:=fun j=>if j=i then x else f j
theorem aG {α:Type}(f:Nat→α)(i:Nat)(x:α):up f i x i=x:=by simp[up]
theorem aE {α:Type}(f:Nat→α){i j:Nat}(x:α)(h:j≠i):up f i x j=f j:=by simp[up,h]
theorem xF {α:Type}(f:Nat→α)(i:Nat)(x y:α):up (up f i x) i y=up f i y:=by
 funext j;by_cases h:j=i <;> simp[up,h]
theorem aYq {α:Type}(f:Nat→α)(i:Nat):up f i (f i)=f:=by
 funext j;by_cases h:j=i
 ·subst h;simp[up]
 simp[up,h]
def aR (tag:NN) (n t:Nat):Nat→Nat:=fun k=>if k<n then tag k else t
theorem cD {tag:NN}{n t k:Nat} (h:k<n):aR tag n t k=tag k:=by simp[aR,h]
theorem dK {tag:NN}{n t k:Nat} (h:n≤k):aR tag n t k=t:=by simp[aR];omega
theorem zD (g j:Nat):((Ad g 0):Addr).add j=(Ad g j):=by cases j <;> simp[Addr.add]
theorem bP {W W':WL}{B:Nat}{e:TypeId}{k:Nat}{v:Value}{n:Nat}{xs:LV} (h:W.ownsRow B e k v n xs) (hb:∀ g,v.ownBlock=some g→W'.heap[g]?=W.heap[g]?):W'.ownsRow B e k v n xs:=by
 refine⟨h.1,?_⟩;rcases h.2 with h' | ⟨g,cap,cur,rfl,hg,hh,r⟩
 ·exact .inl h'
 exact .inr ⟨g,cap,cur,rfl,hg,by rw[hb g rfl];exact hh,r⟩
theorem bF {W:WL}{B:Nat}{e:TypeId}{k:Nat}{v:Value}{n:Nat}{xs:LV} (h:W.ownsRow B e k v n xs):∃ o cap,v=.slice o n cap:=by
 rcases h.2 with ⟨h',rfl⟩ | ⟨g,cap,cur,rfl,hg,hh,r⟩
 ·exact⟨none,0,h'⟩
 exact⟨_,_,rfl⟩
theorem fR {w:WL}{B:Nat}{e:TypeId}{z n:Nat}{v:Value}{xs:LV} (h:w.ownsRow B e z v n xs) (hn:0<n):∃ g cap,v=.slice (some (Ad g 0)) n cap∧n≤cap∧g<w.heap.size:=by
 rcases h.2 with ⟨_,h0⟩ | ⟨g,cap,cur,hv,hb,hg,hnc,_⟩
 ·omega
 exact⟨g,cap,hv,hnc,(Age.1 hg).1⟩
theorem aF {w:WL}{B:Nat}{e:TypeId}{z g n cap:Nat}{xs:LV} (h:w.ownsRow B e z (.slice (some (Ad g 0)) n cap) n xs) {j:Nat}{u:Value} (hj:xs[j]?=some u):w.cell? (Ad g j)=some u:=by
 have:=h.cells (g:=g) rfl j u hj
 rwa [zD] at this
theorem bB {w:WL}{B:Nat}{e:TypeId}{z g n cap:Nat}{xs:LV} (h:w.ownsRow B e z (.slice (some (Ad g 0)) n cap) n xs) (j:Nat):w.frozen? (Ad g j)=false:=by
 rcases h.2 with ⟨h',_⟩ | ⟨g',cap',cur,h',hb,hg,hnc,hcm,hcs,ht⟩
 ·cases h'
 simp only[Value.slice.injEq,Option.some.injEq,Addr.mk.injEq,and_true,true_and] at h';obtain⟨rfl,rfl⟩:=h';unfold World.frozen?;rw[hg];simp
theorem nH {w:WL}{B:Nat}{e:TypeId}{z g n cap:Nat}{xs:LV} (h:w.ownsRow B e z (.slice (some (Ad g 0)) n cap) n xs) {j:Nat} (hj:j<n*z) (u:Value):(w.setCell ⟨g,j,none⟩ u).ownsRow B e z (.slice (some (Ad g 0)) n cap) n (xs.set j u):=by
 refine⟨by rw[List.length_set];exact h.1,?_⟩;rcases h.2 with ⟨h',_⟩ | ⟨g',cap',cur,h',hb,hg,hnc,hcm,hcs,ht⟩
 ·cases h'
 simp only[Value.slice.injEq,Option.some.injEq,Addr.mk.injEq,and_true,true_and] at h';obtain⟨rfl,rfl⟩:=h';have hjc:j<cur.size:=by
  rw[hcs];exact Nll hj (Nat.mul_le_mul_right z hnc)
 refine .inr ⟨g,cap,cur.setIfInBounds j u,rfl,hb,?_,hnc,hcm,by simpa using hcs,?_⟩
 ·have hl:=(Age.1 hg).1;have hgg:w.heap[g]=.cells cur e (0,0):=(Age.1 hg).2;unfold World.setCell;simp[hl,Array.getElem_modify,hgg]
 rw[← ht];simp[List.take_set]
theorem aAt {w:WL}{B:Nat}{e:TypeId}{z g n n' cap:Nat}{xs:LV} (h:w.ownsRow B e z (.slice (some (Ad g 0)) n' cap) n' xs) (hn:n≤n'):w.ownsRow B e z (.slice (some (Ad g 0)) n cap) n (xs.take (n*z)):=by
 have hx:=h.1;rcases h.2 with ⟨h',_⟩ | ⟨g',cap',cur,h',hb,hg,hnc,hcm,hcs,ht⟩
 ·cases h'
 simp only[Value.slice.injEq,Option.some.injEq,Addr.mk.injEq,and_true,true_and] at h';obtain⟨rfl,rfl⟩:=h';have hm:n*z≤n'*z:=Nat.mul_le_mul_right z hn;refine⟨by rw[List.length_take,hx];omega,.inr ⟨g,cap,cur,rfl,hb,hg,by omega,hcm,hcs,?_⟩⟩;rw[← ht,List.take_take];congr 1;omega
theorem pL {w:WL}{b:Nat}{e:TypeId}{z:Nat}{xs:LV} (h:w.heap[b]?=some (.cells xs.toArray e (0,0))) (hz:xs.length=z):w.ownsRow 0 e z (.slice (some (Ad b 0)) 1 1) 1 xs:=
 ⟨by omega,.inr ⟨b,1,xs.toArray,rfl,Nat.zero_le _,h,Nat.le_refl _,by decide,by simp[hz],by simp[← hz]⟩⟩
structure Rw where
 v:Value
 e:TypeId
 z:Nat
 n:Nat
 xs:LV
def dV (W:WL) (b:Nat) (l:List (Value × Value)):Prop:=∃ es clock,W.heap[b]?=some (.map es clock)∧es.toList.map (fun e=>(e.key,e.val))=l
theorem dV.lt {W:WL}{b:Nat}{l:List (Value × Value)} (h:dV W b l):b<W.heap.size:=by
 obtain⟨es,c,h,-⟩:=h;exact (Age.1 h).1
theorem dV.of_block {W W':WL}{b:Nat}{l:List (Value × Value)} (h:dV W b l) (hb:W'.heap[b]?=W.heap[b]?):dV W' b l:=by
 obtain⟨es,c,h,r⟩:=h;exact⟨es,c,hb.trans h,r⟩
structure Sto (W:WL) (tag:NN) (lv:Nat→Bool) (R:Nat→Rw) (mp:Nat→Option (Nat × List (Value × Value))):Prop where
 rows:∀ i,lv i=true→W.ownsRow 0 (R i).e (R i).z (R i).v (R i).n (R i).xs∧Tg tag (R i).v i
 maps:∀ i b l,mp i=some (b,l)→dV W b l∧tag b=i
 far:∀ i,lv i=true→mp i=none
 num:∀ i,lv i=true∨mp i≠none→10≤i
structure Kp (tag tag':NN) (W W':WL):Prop where
 os:W'.os=W.os
 tape:W'.tape=W.tape
 output:W'.output=W.output
 size:W.heap.size≤W'.heap.size
 ret:∀ k,k<W.heap.size→tag' k=tag k
 blk:∀ k,k<W.heap.size→tag k<10→W'.heap[k]?=W.heap[k]?
theorem Kp.refl (tag:NN)(W:WL):Kp tag tag W W:=⟨rfl,rfl,rfl,Nat.le_refl _,fun _ _=>rfl,fun _ _ _=>rfl⟩
theorem Kp.trans {t1 t2 t3:NN}{a b c:WL} (h:Kp t1 t2 a b) (k:Kp t2 t3 b c):Kp t1 t3 a c:=
 ⟨k.os.trans h.os,k.tape.trans h.tape,k.output.trans h.output,Nat.le_trans h.size k.size,fun i hi=>(k.ret i (Nll hi h.size)).trans (h.ret i hi),fun i hi ht=>(k.blk i (Nll hi h.size) (by rw[h.ret i hi];exact ht)).trans (h.blk i hi ht)⟩
theorem Kp.of_fr {tag tag':NN}{a b:WL} (h:Fr [] a b) (hr:∀ k,k<a.heap.size→tag' k=tag k):Kp tag tag' a b:=⟨h.os,h.tape,h.output,h.size,hr,fun k hk _=>h.block k hk (by simp)⟩
theorem Kp.chg {tag tag':NN}{W W':WL}{S:LN} (h:Chg tag S W W') (hr:∀ k,k<W.heap.size→tag' k=tag k) (hS:∀ x ∈ S,10≤x):Kp tag tag' W W':=
 ⟨h.os,h.tape,h.output,h.size,hr,fun k hk ht=>h.block k hk (fun hx=>by have:=hS _ hx;omega)⟩
theorem Kp.cell {tag tag':NN}{W W':WL} (h:Kp tag tag' W W') {p:Addr} (hp:p.block<W.heap.size) (hn:tag p.block<10):W'.cell? p=W.cell? p:=World.cell?_of_block (w:=W) (h.blk p.block hp hn)
section
variable {W W':WL}{tag tag':NN}{lv:Nat→Bool}{R:Nat→Rw}{mp:Nat→Option (Nat × List (Value × Value))}{S:LN}
theorem Sto.chg (h:Sto W tag lv R mp)(hc:Chg tag S W W')(hr:∀ k,k<W.heap.size→tag' k=tag k)(hS:∀ i,10≤i→i ∉ S):Sto W' tag' lv R mp:=by
 refine⟨fun i hi=>?_,fun i b l hm=>?_,h.far,h.num⟩
 ·obtain⟨r,t⟩:=h.rows i hi;have hn:=h.num i (.inl hi);exact⟨bP r fun g hg=>hc.block g (r.lt g hg).2 (by rw[t g hg];exact hS i hn),t.re (fun g hg=>(r.lt g hg).2) (fun k hk e=>by rw[hr k hk];exact e)⟩
 obtain⟨m,t⟩:=h.maps i b l hm;have hn:=h.num i (.inr (by rw[hm];simp));exact⟨m.of_block (hc.block b m.lt (by rw[t];exact hS i hn)),by rw[hr b m.lt];exact t⟩
theorem Sto.kp (h:Sto W tag lv R mp)(hf:Fr [] W W')(hr:∀ k,k<W.heap.size→tag' k=tag k):Sto W' tag' lv R mp:=h.chg (S:=[]) (Chg.of_fr hf) hr (by simp)
theorem Sto.frm (h:Sto W tag lv R mp)(hf:Fr [] W W')(t:Nat):Sto W' (aR tag W.heap.size t) lv R mp:=h.kp hf fun k hk=>cD hk
theorem Sto.but (h:Sto W tag lv R mp){i:Nat}(hc:Chg tag [i] W W')(hr:∀ k,k<W.heap.size→tag' k=tag k):∀ q,q≠i→(lv q=true→W'.ownsRow 0 (R q).e (R q).z (R q).v (R q).n (R q).xs∧Tg tag' (R q).v q)∧∀ b l,mp q=some (b,l)→dV W' b l∧tag' b=q:=by
 intro q hq;refine⟨fun hl=>?_,fun b l hm=>?_⟩
 ·obtain⟨r,t⟩:=h.rows q hl;exact⟨bP r fun g hg=>hc.block g (r.lt g hg).2 (by rw[t g hg];simpa using hq),t.re (fun g hg=>(r.lt g hg).2) (fun k hk e=>by rw[hr k hk];exact e)⟩
 obtain⟨m,t⟩:=h.maps q b l hm;exact⟨m.of_block (hc.block b m.lt (by rw[t];simpa using hq)),by rw[hr b m.lt];exact t⟩
theorem Sto.turn (h:Sto W tag lv R mp){i:Nat}(hm:mp i=none)(hi:10≤i)(hc:Chg tag [i] W W')(hr:∀ k,k<W.heap.size→tag' k=tag k){r:Rw}(hown:W'.ownsRow 0 r.e r.z r.v r.n r.xs)(ht:Tg tag' r.v i):Sto W' tag' (up lv i true) (up R i r) mp:=by
 refine⟨fun q hq=>?_,fun q b l hq=>?_,fun q hq=>?_,fun q hq=>?_⟩
 ·by_cases e:q=i
  ·subst e;rw[aG];exact⟨hown,ht⟩
  rw[aE _ _ e] at hq ⊢;exact (h.but hc hr q e).1 hq
 ·by_cases e:q=i
  ·subst e;rw[hm] at hq;cases hq
  exact (h.but hc hr q e).2 b l hq
 ·by_cases e:q=i
  ·subst e;exact hm
  rw[aE _ _ e] at hq;exact h.far q hq
 by_cases e:q=i
 ·subst e;exact hi
 rw[aE _ _ e] at hq;exact h.num q hq
theorem lJ {i:Nat}(hl:lv i=true):up lv i true=lv:=by rw[← hl];exact aYq lv i
theorem Sto.put (h:Sto W tag lv R mp){i g n cap z:Nat}{e:TypeId}{xs:LV} (hl:lv i=true) (hR:R i=⟨.slice (some (Ad g 0)) n cap,e,z,n,xs⟩) {j:Nat} (hj:j<n*z) (u:Value) :
  Sto (W.setCell ⟨g,j,none⟩ u) tag lv (up R i ⟨.slice (some (Ad g 0)) n cap,e,z,n,xs.set j u⟩) mp∧Kp tag tag W (W.setCell ⟨g,j,none⟩ u):=by
 obtain⟨r,t⟩:=h.rows i hl;rw[hR] at r t;have hg:tag g=i:=t g rfl;have hc:Chg tag [i] W (W.setCell ⟨g,j,none⟩ u):=Chg.setCell W (by simp[hg]) u;have hn:=h.num i (.inl hl);have:=h.turn (h.far i hl) hn hc (fun _ _=>rfl) (r:=⟨.slice (some (Ad g 0)) n cap,e,z,n,xs.set j u⟩) (nH r hj u) t;rw[lJ hl] at this;exact⟨this,Kp.chg hc (fun _ _=>rfl) (by simpa using hn)⟩
theorem Sto.grow (h:Sto W tag lv R mp){i:Nat}(hl:lv i=true){e:TypeId}{z n:Nat}{v:Value}{xs:LV} (hown:W'.ownsRow 0 e z v n xs) (hg:W.grownBy W' (R i).v.ownBlock) (hwh:v.ownBlock=(R i).v.ownBlock∨v.ownBlock=some W.heap.size) :
  Sto W' (aR tag W.heap.size i) lv (up R i ⟨v,e,z,n,xs⟩) mp∧Kp tag (aR tag W.heap.size i) W W':=by
 obtain⟨r,t⟩:=h.rows i hl;have hn:=h.num i (.inl hl);have hc:Chg tag [i] W W':=Chg.grown hg (fun k hk=>by rw[t k hk];simp);have hr:∀ k,k<W.heap.size→aR tag W.heap.size i k=tag k:=fun k hk=>cD hk;have:=h.turn (h.far i hl) hn hc hr (r:=⟨v,e,z,n,xs⟩) hown (fun g hg2=>by
  rcases hwh with h1 | h1
  ·rw[h1] at hg2;rw[hr g (r.lt g hg2).2];exact t g hg2
  rw[h1] at hg2;obtain rfl:W.heap.size=g:=by simpa using hg2
  exact dK (Nat.le_refl _))
 rw[lJ hl] at this;exact⟨this,Kp.chg hc hr (by simpa using hn)⟩
theorem Sto.cut (h:Sto W tag lv R mp){i g n cap z n':Nat}{e:TypeId}{xs:LV} (hl:lv i=true) (hR:R i=⟨.slice (some (Ad g 0)) n cap,e,z,n,xs⟩) (hn:n'≤n) :
  Sto W tag lv (up R i ⟨.slice (some (Ad g 0)) n' cap,e,z,n',xs.take (n'*z)⟩) mp:=by
 obtain⟨r,t⟩:=h.rows i hl;rw[hR] at r t;have:=h.turn (h.far i hl) (h.num i (.inl hl)) (Chg.refl tag [i] W) (fun _ _=>rfl) (r:=⟨.slice (some (Ad g 0)) n' cap,e,z,n',xs.take (n'*z)⟩) (aAt r hn) (fun g' hg'=>t g' (by simpa [Value.ownBlock] using hg'))
 rwa [lJ hl] at this
theorem Sto.new (h:Sto W tag lv R mp){i:Nat}(hm:mp i=none)(hi:10≤i){r:Rw}(hf:Fr [] W W')(hown:W'.ownsRow 0 r.e r.z r.v r.n r.xs)(hwh:∀ g,r.v.ownBlock=some g→W.heap.size≤g) :
  Sto W' (aR tag W.heap.size i) (up lv i true) (up R i r) mp∧Kp tag (aR tag W.heap.size i) W W':=
 ⟨h.turn hm hi (Chg.of_fr hf) (fun k hk=>cD hk) hown (fun g hg=>dK (hwh g hg)),Kp.of_fr hf fun k hk=>cD hk⟩
theorem Sto.same (h:Sto W tag lv R mp){R':Nat→Rw}(hR:∀ i,lv i=true→R' i=R i):Sto W tag lv R' mp:=
 ⟨fun i hi=>by rw[hR i hi];exact h.rows i hi,h.maps,h.far,h.num⟩
theorem Sto.map (h:Sto W tag lv R mp){i b:Nat}{l:List (Value × Value)} (hl:lv i=false) (hi:10≤i) (hc:Chg tag [i] W W') (hr:∀ k,k<W.heap.size→tag' k=tag k) (hm:dV W' b l) (ht:tag' b=i):Sto W' tag' lv R (up mp i (some (b,l))):=by
 refine⟨fun q hq=>?_,fun q b' l' hq=>?_,fun q hq=>?_,fun q hq=>?_⟩
 ·by_cases e:q=i
  ·subst e;rw[hl] at hq;cases hq
  exact (h.but hc hr q e).1 hq
 ·by_cases e:q=i
  ·subst e;rw[aG] at hq;cases hq;exact⟨hm,ht⟩
  rw[aE _ _ e] at hq;exact (h.but hc hr q e).2 b' l' hq
 ·by_cases e:q=i
  ·subst e;rw[hl] at hq;cases hq
  rw[aE _ _ e];exact h.far q hq
 by_cases e:q=i
 ·subst e;exact hi
 rw[aE _ _ e] at hq;exact h.num q hq
end
open Wire Flow Mach
theorem D7 (c:UInt8):([32,9,10]:LB).contains c=fG c:=by
 simp only[fG,List.contains,List.elem,Bool.or_assoc];cases h1:c==32 <;> cases h2:c==9 <;> cases h3:c==10 <;> simp_all
theorem zS (l:LB):Lib.trimLeftS l [32,9,10]=jG l:=by
 unfold Lib.trimLeftS;induction l with
 | nil=>rfl
 | cons c l ih=>
  rw[List.dropWhile_cons,D7,jG];by_cases h:fG c=true
  ·rw[if_pos h,if_pos h];exact ih
  rw[if_neg h,if_neg h]
theorem i9 (p:UInt8→Bool)(l:LB):(l.dropWhile p).isEmpty=l.all p:=by
 induction l with
 | nil=>rfl
 | cons c l ih=>
  rw[List.dropWhile_cons,List.all_cons];by_cases h:p c=true
  ·rw[if_pos h,h,Bool.true_and];exact ih
  have h':p c=false:=by simpa using h
  rw[if_neg h,h'];rfl
theorem j4 (p:UInt8→Bool)(l:LB):(l.dropWhile p).all p=l.all p:=by
 induction l with
 | nil=>rfl
 | cons c l ih=>
  rw[List.dropWhile_cons];by_cases h:p c=true
  ·rw[if_pos h,ih,List.all_cons,h,Bool.true_and]
  rw[if_neg h]
theorem aMe (l:LB):(Lib.trimS l [32,9,10]).isEmpty=l.all fG:=by
 have hb:(fun c=>([32,9,10]:LB).contains c)=fG:=by funext c;exact D7 c
 unfold Lib.trimS Lib.trimLeftS Lib.trimRightS;rw[hb,i9,List.all_reverse,j4,List.all_reverse]
theorem aHc {x:BA}{c:UInt8}{l:LB} (h:x.data.toList=c :: l):x.extract 1 x.size=⟨l.toArray⟩:=by
 have hx:x=⟨(c :: l).toArray⟩:=by
  cases x;simp at h ⊢;rw[← h]
 subst hx;simp[ByteArray.extract,ByteArray.size,ByteArray.copySlice]
theorem vX {x:BA}(h:0<x.size):bl x=x[0] :: bl (x.extract 1 x.size):=by
 cases e:x.data.toList with
 | nil=>
  have:(bl x).length=x.size:=aO x;unfold bl at this;rw[e] at this;simp at this;omega
 | cons c l=>
  rw[aHc e];have hc:x[0]=c:=by
   have h1:x[0]=x.data[0]'h:=rfl;have h2:x.data.toList[0]?=some c:=by rw[e];rfl
   have h3:x.data[0]?=some (x.data[0]'h):=Array.getElem?_eq_getElem h;rw[← Array.getElem?_toList,h2] at h3;rw[h1];exact (Option.some.inj h3).symm
  show x.data.toList=_;rw[e,hc,aDm]
theorem aRd {x:BA}(h:x.size=0):bl x=[]:=List.length_eq_zero_iff.1 (by rw[aO];exact h)
theorem aMs {x:BA}(h:x≠⟨#[]⟩):0<x.size:=by
 rcases Nat.eq_zero_or_pos x.size with h0 | h0
 ·exact absurd (by rw[← A7 x,aRd h0]) h
 exact h0
theorem j9 {x:BA}(h:0<x.size):¬ x.toList=[]:=by
 rw[ByteArray.toList_eq];have:=vX h;unfold bl at this;rw[this];simp
theorem l7 {x:BA}(h:0<x.size):x.toList.isEmpty=false:=by
 cases e:x.toList with
 | nil=>exact absurd e (j9 h)
 | cons=>rfl
theorem aCv {n:Int}{k:Nat}{l:LB} (h0:0≤n) (h1:n≤1000000001):0≤(oJ n k l).1∧(oJ n k l).1≤1000000001:=by
 induction l generalizing n k with
 | nil=>exact⟨h0,h1⟩
 | cons c l ih=>
  unfold oJ;split
  ·rename_i hc
   have hd:48≤c.toNat∧c.toNat≤57:=by simpa [aLm] using hc
   refine ih ?_ ?_ <;> unfold more <;> split <;> omega
  exact⟨h0,h1⟩
theorem sF (l:LB):-1000000001≤(dG l).1∧(dG l).1≤1000000001:=by
 have:=aCv (n:=0) (k:=0) (l:=(oP (jG l)).2) (by decide) (by decide);unfold dG;dsimp only;split <;> omega
def aVw (s:BA) (W:WL) (e:Ending) (W':WL):Prop:=
 e=.returned (.tuple #[.int .i64 (dG (bl s)).1,.string ⟨(dG (bl s)).2.2.toArray⟩,.bool (decide (0<(dG (bl s)).2.1))])∧Fr [] W W'
theorem bAf (c:UInt8):Lib.hasPrefix ([]:LB) [c]=false:=rfl
theorem mK (a c:UInt8)(l:LB):Lib.hasPrefix (a :: l) [c]=(c==a):=by simp[Lib.hasPrefix,List.isPrefixOf]
theorem Z9 (s:BA)(hs:s.size≤1048576)(W:WL):Calls prog 158 #[.string s] W (aVw s W):=by
 have HT:Hid _:=fun (W:WL)=>Any.strings_TrimLeft_laid aTh (by kernel_rfl) s ⟨#[32,9,10]⟩ W (by decide) (ascii_of_all (by decide));have HP:Hid _:=fun (x p:BA) (W:WL)=>strings_HasPrefix x p W;go_enter func158,ntmps158;go_wp2_with fail;refine (HT.out _).mono ?_;rintro e W1 ⟨rfl,hB⟩;have F1:Fr [] W W1:=Fr.of_below hB;clear hB HT;have e0:Lib.trimLeftS s.data.toList ((⟨#[32,9,10]⟩:BA).data.toList)=jG (bl s):=zS _;rw[e0];clear e0;obtain⟨X,hX⟩:=eXi (jG (bl s));rw[hX];have hC:∃ (neg:Bool) (l0:LB),oP X=(neg,l0)∧((Lib.hasPrefix X [45]=false∧Lib.hasPrefix X [43]=false∧neg=false∧l0=X)∨(∃ c,X=c :: l0∧Lib.hasPrefix X [45]=neg∧Lib.hasPrefix X [43] = !neg)):=by
  cases X with
  | nil=>exact⟨false,[],rfl,.inl ⟨rfl,rfl,rfl,rfl⟩⟩
  | cons c l=>
   by_cases h1:c=43
   ·subst h1;exact⟨false,l,rfl,.inr ⟨_,rfl,by rw[mK];decide,by rw[mK];decide⟩⟩
   by_cases h2:c=45
   ·subst h2;exact⟨true,l,rfl,.inr ⟨_,rfl,by rw[mK];decide,by rw[mK];decide⟩⟩
   exact⟨false,c :: l,by simp[oP,h1,h2],.inl ⟨by rw[mK];simpa using fun e=>h2 e.symm,by rw[mK];simpa using fun e=>h1 e.symm,rfl,rfl⟩⟩
 obtain⟨neg,l0,hS,hC⟩:=hC;have HS:Hid (dG (bl s)=((if neg=true then -(oJ 0 0 l0).1 else (oJ 0 0 l0).1),(oJ 0 0 l0).2)):=by
  show dG (bl s)=_;unfold dG;rw[hX,hS]
 clear hS hX hs;have hA:∀ x:LB,(⟨x.toArray⟩:BA).data.toList=x:=fun x=>by simp
 have hX1:Lib.hasPrefix (⟨X.toArray⟩:BA).data.toList ((⟨#[45]⟩:BA).data.toList)=Lib.hasPrefix X [45]:=by rw[hA]
 have hX2:Lib.hasPrefix (⟨X.toArray⟩:BA).data.toList ((⟨#[43]⟩:BA).data.toList)=Lib.hasPrefix X [43]:=by rw[hA]
 have HP1:Hid _:=fun (W:WL)=>hX1 ▸ HP.out ⟨X.toArray⟩ ⟨#[45]⟩ W;have HP2:Hid _:=fun (W:WL)=>hX2 ▸ HP.out ⟨X.toArray⟩ ⟨#[43]⟩ W;clear hX1 hX2 HP;clear hA;have hT:∀ (c:UInt8) (l:LB),(⟨(c :: l).toArray⟩:BA).extract 1 (l.length+1)=⟨l.toArray⟩:=fun c l=>by
  have:=aHc (x:=⟨(c :: l).toArray⟩) (c:=c) (l:=l) (by simp);simpa [ByteArray.size] using this
 rcases hC with ⟨p1,p2,rfl,rfl⟩ | ⟨c,rfl,p1,p2⟩;rotate_left;cases neg
 all_goals
  rw[p1] at HP1;rw[p2] at HP2;clear p1 p2
  try have hT':=hT c l0
  go_wp2_with (first | (refine (HP1.out _).mono ?_;rintro e w' ⟨rfl,rfl⟩) | (refine (HP2.out _).mono ?_;rintro e w' ⟨rfl,rfl⟩))
  clear HP1 HP2 hT
  try clear hT'
  go_loop [0,2,4] (fun a n f=>∃ (x:BA) (m:Int) (k:Nat),a=.string x∧n=iA m∧f=.bool (decide (0<k))∧0≤m∧m≤1000000001∧Hid (oJ m k (bl x)=oJ 0 0 l0)) (fun a n f=>match a with | .string x=>x.size | _=>0)
  case atStart=>exact⟨_,0,0,rfl,rfl,rfl,by omega,by omega,(by rw[aDm]:oJ 0 0 (bl ⟨l0.toArray⟩)=oJ 0 0 l0)⟩
  case round=>
   obtain⟨x,m,k,rfl,rfl,rfl,h0,h1,hd⟩:=hrel;by_cases hx:x=⟨#[]⟩
   ·subst hx;have hend:=HS.out;rw[← hd.out] at hend;clear hd HS;go_wp2;go_ret3;refine⟨?_,F1⟩;rw[hend];rfl
   have hx0:=aMs hx;have hx1:=j9 hx0;have hx2:=l7 hx0;have hd8:=x[0].toNat_lt;by_cases hg:aLm x[0]=true
   ·have hdd:48≤x[0].toNat∧x[0].toNat≤57:=by simpa [aLm] using hg
    have g1:(48:Int)≤x[0].toNat:=by omega
    have g2:(x[0].toNat:Int)≤57:=by omega
    have hm:Hid (more m x[0]=min (10*m+((x[0].toNat:Int)-48)) 1000000001):=by
     show more m x[0]=_;unfold more;split <;> omega
    have hn:0≤min (10*m+((x[0].toNat:Int)-48)) 1000000001:=by omega
    go_wp2;refine⟨⟨_,_,k+1,rfl,rfl,by simp,hn,by omega,?_⟩,by simp[ByteArray.size_extract];omega⟩;have:=hd.out;rw[vX hx0,oJ,if_pos hg,hm.out] at this;exact this
   have hg':aLm x[0]=false:=by simpa using hg
   have hend:=HS.out;rw[← hd.out,vX hx0,oJ,if_neg hg,← vX hx0] at hend;clear hd HS;by_cases g1:(48:Int)≤x[0].toNat
   ·have g2:¬ (x[0].toNat:Int)≤57:=by
     intro h;exact hg (by simp[aLm];omega)
    go_wp2;go_ret3;refine⟨?_,F1⟩;rw[hend,A7];rfl
   go_wp2;go_ret3;refine⟨?_,F1⟩;rw[hend,A7];rfl
abbrev vlV (k n:Int) (s:BA):Value:=.agg #[.int .u8 k,.int .i64 n,.string s]
def vN (v:Val):Int:=if v.kind=1 then v.n else if v.kind=0∨v.kind=2 then 0 else aOi v.s
def vS (v:Val):BA:=if v.kind=0∨v.kind=1 then ⟨#[]⟩ else v.s
def vV (v:Val):Value:=vlV v.kind (vN v) (vS v)
def r6 : String := Rows.piecesUptoRow.named.getD 3 ""
def eL (w:WL):Prop:=Lib.TabIs prog w r6 .u64 Lib.pow10Tab
theorem aUk (w:WL)(k:Nat)(os:Array Obj):Fr [] w (Go.Sort.grow (w.drewN k) os):=
 ⟨rfl,rfl,rfl,by simp[Go.Sort.grow,World.drewN],fun i hi _=>by simp only[Go.Sort.grow,World.drewN];exact Array.getElem?_append_left hi⟩
def pA (n:Int):BA:=⟨(Lib.itoa n).toArray⟩
theorem aCc (n:Int)(w:WL)(h0:-9223372036854775808≤n)(h1:n≤9223372036854775807)(ht:eL w) :
  Calls prog 160 #[iA n] w fun e w'=>e=.returned (.string (pA n))∧Fr [] w w':=
 (Any.strconv_Itoa aOy n h0 h1 w ht).mono fun e w' ⟨he,k,os,hw⟩=>⟨he,by rw[hw];exact aUk w k os⟩
theorem eL.fr {w w':WL}(h:eL w)(hf:Fr [] w w'):eL w':=Lib.tabBelow_of_tabIs h w' (hf.below (Nat.le_refl _) (by simp))
theorem D4 (n:Int)(W:WL):Calls prog 159 #[iA n] W fun e W'=>e=.returned (iA (gX n))∧W'=W:=by
 have h:max (-1000000000) (min n 1000000000)=gX n:=by unfold gX;split <;> (try split) <;> omega
 rw[← h];clear h;go_enter func159,ntmps159;go_wp2;go_ret;exact⟨rfl,rfl⟩
theorem uL (n:Int)(W:WL):Calls prog 151 #[iA n] W fun e W'=>e=.returned (vlV 1 n ⟨#[]⟩)∧Fr [] W W':=by
 go_enter func151,ntmps151;go_wp2;refine bodyPost_ret (v:=vlV 1 n ⟨#[]⟩) (by simp[results,results151,go_sem]) rfl ?_;exact⟨rfl,(Fr.refl [] W).alloc _⟩
theorem m8 (s:BA)(W:WL):Calls prog 152 #[.string s] W fun e W'=>e=.returned (vlV 2 0 s)∧Fr [] W W':=by
 go_enter func152,ntmps152;go_wp2;refine bodyPost_ret (v:=vlV 2 0 s) (by simp[results,results152,go_sem]) rfl ?_;exact⟨rfl,(Fr.refl [] W).alloc _⟩
theorem iJ {w:WL}{b:Nat}{x y z:Value}{t:TypeId} (h:w.heap[b]?=some (.cells #[x,y,z] t)):(w.cell? (Ad b 0)=some x∧w.cell? (Ad b 1)=some y∧w.cell? (Ad b 2)=some z)∧w.frozen? (Ad b 0)=false∧w.frozen? (Ad b 1)=false∧w.frozen? (Ad b 2)=false:=by
 refine⟨⟨?_,?_,?_⟩,?_,?_,?_⟩ <;> first | (unfold World.cell?;rw[h];rfl) | (unfold World.frozen?;rw[h];simp)
theorem cW {w:WL}{p:Addr}{v u:Value} (h:w.cell? p=some v):(w.setCell p u).cell? p=some u:=World.cell?_setCell_same' _ _ _ (by rw[h];rfl)
theorem set3 {w:WL}{b:Nat}{x y z x' y' z':Value} (h:w.cell? (Ad b 0)=some x∧w.cell? (Ad b 1)=some y∧w.cell? (Ad b 2)=some z):∃ w',((w.setCell ⟨b,0,none⟩ x').setCell ⟨b,1,none⟩ y').setCell ⟨b,2,none⟩ z'=w'∧w'.cell? (Ad b 0)=some x'∧w'.cell? (Ad b 1)=some y'∧w'.cell? (Ad b 2)=some z'∧Fr [b] w w':=by
 obtain⟨h0,h1,h2⟩:=h;refine⟨_,rfl,?_,?_,?_,(((Fr.refl [b] w).setCell (.inl (by simp)) _).setCell (.inl (by simp)) _).setCell (.inl (by simp)) _⟩
 ·rw[aA (by decide),aA (by decide)];exact cW h0
 ·rw[aA (by decide)];exact cW (by rw[aA (by decide)];exact h1)
 exact cW (by rw[aA (by decide),aA (by decide)];exact h2)
theorem aIo (b:Bool)(W:WL):Calls prog 155 #[.bool b] W fun e W'=>e=.returned (vlV 1 (eZ b) ⟨#[]⟩)∧Fr [] W W':=by
 have HN:Hid _:=fun (n:Int) (W:WL)=>uL n W;obtain⟨W1,hW1⟩:=eXi (W.alloc (.cells #[.int .u8 0,iA 0,.string ⟨#[]⟩] 135));have F1:=frA hW1
 have k1:=kA hW1;have l1:=(Age.1 k1).1;cases b
 ·go_enter func155,ntmps155;go_wp2_with fail;refine (HN.out _ _).mono ?_;rintro e W2 ⟨rfl,F2⟩;obtain⟨hy,z0,z1,z2⟩:=iJ ((F2.block _ l1 (by simp)).trans k1);have F3:=F1.trans F2;obtain⟨W3,hW3,r0,r1,r2,F4⟩:=set3 (x':=.int .u8 1) (y':=iA 0) (z':=.string ⟨#[]⟩) hy;obtain⟨y0,y1,y2⟩:=hy;clear k1 F1 F2 l1 HN hW1;go_wp2;refine bodyPost_ret (v:=vlV 1 _ ⟨#[]⟩) (by simp[results,results155,go_sem,r0,r1,r2];rfl) rfl ?_;exact⟨rfl,F3.trans' F4 (by simp)⟩
 go_enter func155,ntmps155;go_wp2_with fail;refine (HN.out _ _).mono ?_;rintro e W2 ⟨rfl,F2⟩;obtain⟨hy,z0,z1,z2⟩:=iJ ((F2.block _ l1 (by simp)).trans k1);have F3:=F1.trans F2;obtain⟨W3,hW3,r0,r1,r2,F4⟩:=set3 (x':=.int .u8 1) (y':=iA 1) (z':=.string ⟨#[]⟩) hy;obtain⟨y0,y1,y2⟩:=hy;clear k1 F1 F2 l1 HN hW1;go_wp2;refine bodyPost_ret (v:=vlV 1 _ ⟨#[]⟩) (by simp[results,results155,go_sem,r0,r1,r2];rfl) rfl ?_;exact⟨rfl,F3.trans' F4 (by simp)⟩
theorem bD (W:WL)(k n:Int)(s:BA):∃ W1,W.alloc (.cells #[.int .u8 k,iA n,.string s] 135)=W1∧Fr [] W W1∧W1.cell? (Ad W.heap.size 0)=some (.int .u8 k)∧W1.cell? (Ad W.heap.size 1)=some (iA n)∧W1.cell? (Ad W.heap.size 2)=some (.string s)∧W.heap.size<W1.heap.size:=by
 have k1:=wan W (.cells #[.int .u8 k,iA n,.string s] 135);refine⟨_,rfl,(Fr.refl [] W).alloc _,?_,?_,?_,by simp⟩ <;> (unfold World.cell?;rw[k1];rfl)
theorem aMb (k n:Int)(s:BA)(hs:s.size≤1048576)(W:WL):Calls prog 124 #[vlV k n s] W fun e W'=>e=.returned (iA (if k=2 then aOi s else n))∧Fr [] W W':=by
 obtain⟨W1,hW1,F1,c0,c1,c2,-⟩:=bD W k n s;have HS:Hid _:=fun (W:WL)=>Z9 s hs W;have HC:Hid _:=fun (n:Int) (W:WL)=>D4 n W;by_cases hk:k=2
 ·subst hk;have HF:Hid _:=F1;clear F1;go_enter func124,ntmps124;go_wp2_with fail;refine (HS.out _).mono ?_;rintro e W2 ⟨rfl,F2⟩;replace HF:Hid _:=HF.out.trans F2;clear F2 c0 c1 c2;go_wp2_with (refine (HC.out _ _).mono ?_;rintro e w' ⟨rfl,rfl⟩);go_ret;exact⟨rfl,HF.out⟩
 have g:(k != 2)=true:=by simpa using hk
 rw[if_neg hk];go_enter func124,ntmps124;go_wp2_with fail;go_ret;exact⟨rfl,F1⟩
theorem aIm (k n:Int)(s:BA)(h0:-9223372036854775808≤n)(h1:n≤9223372036854775807)(W:WL)(hp:eL W):Calls prog 125 #[vlV k n s] W fun e W'=>e=.returned (.string (if k=1 then pA n else s))∧Fr [] W W':=by
 obtain⟨W1,hW1,F1,c0,c1,c2,-⟩:=bD W k n s;have HI:Hid _:=fun (_:Unit)=>aCc n W1 h0 h1 (hp.fr F1);have HF:Hid _:=F1;clear F1 hp;by_cases hk:k=1
 ·subst hk;go_enter func125,ntmps125;go_wp2_with fail;refine (HI.out ()).mono ?_;rintro e W2 ⟨rfl,F2⟩;go_wp2_with fail;go_ret;exact⟨rfl,HF.out.trans F2⟩
 have g:(k==1)=false:=by simpa using hk
 rw[if_neg hk];go_enter func125,ntmps125;go_wp2_with fail;go_ret;exact⟨rfl,HF.out⟩
def aCj (k n:Int) (s:BA):Bool:=if k=2 then !s.toList.isEmpty else n != 0
theorem Q0 (s:BA):(!s.toList.isEmpty)=decide (s.size≠0):=by
 rcases Nat.eq_zero_or_pos s.size with h | h
 ·rw[ByteArray.toList_eq,show s.data.toList=[] from aRd h];simp[h]
 have:s.size≠0:=by omega
 rw[l7 h,decide_eq_true this];rfl
theorem aUb (v:Val):aCj v.kind (vN v) (vS v)=pB v:=by
 unfold aCj pB;by_cases h:v.kind=2
 ·rw[if_pos (by omega),if_pos h,Q0];simp[vS,h]
 rw[if_neg (by omega),if_neg h];unfold vN numV;by_cases h0:v.kind=0
 ·simp[h0]
 by_cases h1:v.kind=1
 ·simp only[h1];by_cases h3:v.n=0 <;> simp[h3]
 simp[h0,h1,h];by_cases h3:aOi v.s=0 <;> simp[h3]
theorem aEe (k n:Int)(s:BA)(W:WL):Calls prog 126 #[vlV k n s] W fun e W'=>e=.returned (.bool (aCj k n s))∧Fr [] W W':=by
 obtain⟨W1,hW1,F1,c0,c1,c2,-⟩:=bD W k n s;by_cases hk:k=2
 ·subst hk;go_enter func126,ntmps126;go_wp2_with fail;go_ret;exact⟨rfl,F1⟩
 have g:(k==2)=false:=by simpa using hk
 rw[show aCj k n s=(n != 0) by unfold aCj;rw[if_neg hk]];go_enter func126,ntmps126;go_wp2_with fail;go_ret;exact⟨rfl,F1⟩
theorem aYp {v:Val}(h:SmV v):-1000000000≤vN v∧vN v≤1000000000:=by
 obtain⟨h1,h2,h3⟩:=h;unfold vN;split
 ·exact⟨h1,h2⟩
 split
 ·decide
 exact aDb _
theorem aYo {v:Val}(h:SmV v):(vS v).size≤100:=by
 unfold vS;split
 ·decide
 exact h.3
theorem aVr {v:Val}(h:SmV v)(W:WL):Calls prog 124 #[vV v] W fun e W'=>e=.returned (iA (numV v))∧Fr [] W W':=by
 refine (aMb _ _ _ (by have:=aYo h;omega) W).mono fun e W' ⟨he,hf⟩=>⟨?_,hf⟩;rw[he];congr 2;unfold vN vS numV;by_cases h0:v.kind=0
 ·simp[h0]
 by_cases h1:v.kind=1
 ·simp[h1]
 by_cases h2:v.kind=2
 ·simp[h2]
 simp[h0,h1,h2]
 try omega
theorem I4 {E:Env}(hE:E.itoa=pA){v:Val}(h:SmV v)(W:WL)(hp:eL W):Calls prog 125 #[vV v] W fun e W'=>e=.returned (.string (aD E v))∧Fr [] W W':=by
 have hn:=aYp h;refine (aIm _ _ _ (by omega) (by omega) W hp).mono fun e W' ⟨he,hf⟩=>⟨?_,hf⟩;rw[he];congr 2;unfold vN vS aD;rw[hE];by_cases h0:v.kind=0
 ·simp[h0];rfl
 by_cases h1:v.kind=1
 ·simp[h1]
 simp[h0,h1]
 try omega
theorem aUa (v:Val)(W:WL):Calls prog 126 #[vV v] W fun e W'=>e=.returned (.bool (pB v))∧Fr [] W W':=by
 rw[← aUb];exact aEe _ _ _ W
theorem aQn (a b:LB):Lib.compareBytes a b=aUx a b:=by
 induction a generalizing b with
 | nil=>cases b <;> rfl
 | cons x a ih=>
  cases b with
  | nil=>rfl
  | cons y b=>
   unfold Lib.compareBytes aUx;rw[ih];rfl
theorem aQo (x y:Int):Lib.compareInt x y=cmpI x y:=rfl
theorem T5 (k n:Int)(s:BA)(k' n':Int)(s' x x':BA)(W:WL)(ht:∀ w,Fr [] W w→Calls prog 125 #[vlV k n s] w fun e W'=>e=.returned (.string x)∧Fr [] w W')(ht':∀ w,Fr [] W w→Calls prog 125 #[vlV k' n' s'] w fun e W'=>e=.returned (.string x')∧Fr [] w W') :
  Calls prog 127 #[vlV k n s,vlV k' n' s'] W fun e W'=>e=.returned (iA (if k=2∨k'=2 then Lib.compareBytes x.data.toList x'.data.toList else Lib.compareInt n n'))∧Fr [] W W':=by
 have hm:=hmX
 obtain⟨W1,hW1,F1,c0,c1,c2,l1⟩:=bD W k n s;obtain⟨W2,hW2,F2,d0,d1,d2,l2⟩:=bD W1 k' n' s';have HT:Hid _:=ht;have HT':Hid _:=ht';have HC:Hid _:=fun (a b:BA) (w:WL)=>strings_Compare a b w;have HI:Hid _:=fun (a b:Int) (w:WL)=>cmp_Compare_int a b w;have CC:∀ w,Fr [] W2 w→w.cell? (Ad W.heap.size 0)=some (.int .u8 k)∧w.cell? (Ad W.heap.size 1)=some (iA n)∧w.cell? (Ad W.heap.size 2)=some (.string s) ∧
   w.cell? (Ad W1.heap.size 0)=some (.int .u8 k')∧w.cell? (Ad W1.heap.size 1)=some (iA n')∧w.cell? (Ad W1.heap.size 2)=some (.string s'):=fun w hw=>by
  have f:=F2.trans hw;refine⟨?_,?_,?_,?_,?_,?_⟩
  ·exact (f.cell (p:=Ad W.heap.size 0) l1 (by simp)).trans c0
  ·exact (f.cell (p:=Ad W.heap.size 1) l1 (by simp)).trans c1
  ·exact (f.cell (p:=Ad W.heap.size 2) l1 (by simp)).trans c2
  ·exact (hw.cell (p:=Ad W1.heap.size 0) l2 (by simp)).trans d0
  ·exact (hw.cell (p:=Ad W1.heap.size 1) l2 (by simp)).trans d1
  exact (hw.cell (p:=Ad W1.heap.size 2) l2 (by simp)).trans d2
 obtain⟨a0,a1,a2,b0,b1,b2⟩:=CC W2 (Fr.refl _ _);have F02:=F1.trans F2;have HZ:Hid _:=AI CC F02;clear CC F1 F2 F02 l1 l2 c0 c1 c2 d0 d1 d2 ht ht';by_cases hk:k=2∨k'=2
 ·rw[if_pos hk];have hb:((k==2)=true)∨((k==2)=false∧(k'==2)=true):=by
   rcases Int.decEq k 2 with h | h
   ·exact .inr ⟨by simpa using h,by simpa using hk.resolve_left h⟩
   exact .inl (by simpa using h)
  clear hk;rcases hb with g1 | ⟨g1,g2⟩
  all_goals
   go_enter func127,ntmps127;go_wp2_with fail;refine aI (fun w=>Fr [] W2 w) hm ?_;have hS:Fr [] W2 W2.drew:=(Fr.refl _ _).drew;refine wpAnyH_take (i:=0) (v:=?_) rfl (by kernel_rfl) (by kernel_rfl) (by kernel_rfl) (fun _ _ _ h=>h) (.inl ⟨rfl,fun w1 hS1=>?_⟩) hS ?_;rotate_left
   ·obtain⟨q0,q1,q2,-,-,-⟩:=HZ.out.1 w1 hS1;go_simp;rfl
   simp only[Act.put,Zp,Zq];refine wpAnyH_take (i:=2) (v:=?_) rfl (by kernel_rfl) (by kernel_rfl) (by kernel_rfl) (fun _ _ _ h=>h) (.inl ⟨rfl,fun w1 hS1=>?_⟩) hS ?_;rotate_left
   ·obtain⟨-,-,-,q0,q1,q2⟩:=HZ.out.1 w1 hS1;go_simp;rfl
   simp only[Act.put,Zp,Zq];refine rd1 (r:=1) (by kernel_rfl) rfl fun K hK=>?_;go_simp;refine (HT.out _ (HZ.out.2.trans hS)).mono ?_;rintro e w2 ⟨rfl,f2⟩;refine hK _ _ (hS.trans f2) ?_;clear hK K;intro _;have hS2:=hS.trans f2;refine rd1 (r:=3) (by kernel_rfl) rfl fun K hK=>?_;go_simp;refine (HT'.out _ (HZ.out.2.trans hS2)).mono ?_;rintro e w3 ⟨rfl,f3⟩;refine hK _ _ (hS2.trans f3) ?_;clear hK K;intro _;refine rd1 (r:=4) (by kernel_rfl) rfl fun K hK=>?_;go_simp;refine (HC.out _ _ _).mono ?_;rintro e w4 ⟨rfl,rfl⟩;refine hK _ _ (hS2.trans f3) ?_;clear hK K;intro _;refine rd1 (r:=5) (by kernel_rfl) rfl fun K hK=>?_;go_simp;refine hK _ _ (hS2.trans f3) ?_;clear hK K;intro _;refine wpAnyH_done (by kernel_rfl) ?_ _;go_wp2_with fail;go_ret;refine⟨?_,HZ.out.2.trans (hS2.trans f3)⟩;rfl
 rw[if_neg hk];have g1:(k==2)=false:=by simpa using fun h=>hk (.inl h)
 have g2:(k'==2)=false:=by simpa using fun h=>hk (.inr h)
 clear hk;go_enter func127,ntmps127;go_wp2_with (refine (HI.out _ _ _).mono ?_;rintro e w' ⟨rfl,rfl⟩);go_ret;exact⟨rfl,HZ.out.2⟩
theorem aLo {E:Env}(hE:E.itoa=pA){u v:Val}(hu:SmV u)(hv:SmV v)(W:WL)(hp:eL W):Calls prog 127 #[vV u,vV v] W fun e W'=>e=.returned (iA (aQm E u v))∧Fr [] W W':=by
 refine (T5 _ _ _ _ _ _ (aD E u) (aD E v) W (fun w hw=>I4 hE hu w (hp.fr hw)) (fun w hw=>I4 hE hv w (hp.fr hw))).mono fun e W' ⟨he,hf⟩=>⟨?_,hf⟩;rw[he];congr 2;unfold aQm;by_cases hk:u.kind=2∨v.kind=2
 ·rw[if_pos hk,if_pos (by omega)];exact aQn _ _
 rw[if_neg hk,if_neg (by omega),aQo];congr 1 <;> unfold numV vN <;> simp only[not_or] at hk <;> split <;> (try split) <;> simp_all
theorem aQj (n:Int)(k:Nat)(l:LB):(oJ n k l).2.2.length≤l.length:=by
 induction l generalizing n k with
 | nil=>exact Nat.le_refl _
 | cons c l ih=>
  unfold oJ;split
  ·have:=ih (more n c) (k+1);simp;omega
  exact Nat.le_refl _
theorem aIw (l:LB):(jG l).length≤l.length:=by
 induction l with
 | nil=>exact Nat.le_refl _
 | cons c l ih=>
  unfold jG;split
  ·simp;omega
  exact Nat.le_refl _
theorem aJe (l:LB):(dG l).2.2.length≤l.length:=by
 have h1:=aQj 0 0 (oP (jG l)).2;have h2:(oP (jG l)).2.length≤(jG l).length:=by
  cases jG l with
  | nil=>exact Nat.le_refl _
  | cons c l=>
   by_cases h1:c=43
   ·simp[oP,h1]
   by_cases h2:c=45 <;> simp[oP,h1,h2]
 have h3:=aIw l;unfold dG;dsimp only;omega
theorem qU (l:LB):(⟨l.toArray⟩:BA).toList.isEmpty=l.isEmpty:=by rw[ByteArray.toList_eq]
theorem aOr (s:BA):looks s=(decide (0<(dG (bl s)).2.1) && (dG (bl s)).2.2.all fG && decide ((dG (bl s)).1=gX (dG (bl s)).1)):=by
 have h:=sF (bl s);have hc:decide ((dG (bl s)).1=gX (dG (bl s)).1)=(decide (-1000000000≤(dG (bl s)).1) && decide ((dG (bl s)).1≤1000000000)):=by
  unfold gX;by_cases h1:(dG (bl s)).1>1000000000
  ·rw[if_pos h1,decide_eq_false (by omega),decide_eq_false (p:=_≤(1000000000:Int)) (by omega),Bool.and_false]
  rw[if_neg h1];by_cases h2:(dG (bl s)).1 < -1000000000
  ·rw[if_pos h2,decide_eq_false (by omega),decide_eq_false (p:=(-1000000000:Int)≤_) (by omega),Bool.false_and]
  rw[if_neg h2,decide_eq_true rfl,decide_eq_true (p:=(-1000000000:Int)≤_) (by omega),decide_eq_true (p:=_≤(1000000000:Int)) (by omega)];rfl
 rw[hc];unfold looks;cases (dG (bl s)).2.2.all fG <;> cases decide (0<(dG (bl s)).2.1) <;> simp
theorem aEm (s:BA)(hs:s.size≤1048576)(W:WL):Calls prog 153 #[.string s] W fun e W'=>e=.returned (vV (dF s))∧Fr [] W W':=by
 have hL:=aOr s;have hB:=sF (bl s);have HS:Hid _:=fun (W:WL)=>Z9 s hs W;have HT:Hid _:=fun (x:BA) (hx:x.size≤9223372036854775807) (W:WL)=>Any.strings_Trim_laid aTi (by kernel_rfl) x ⟨#[32,9,10]⟩ W hx (by decide) (ascii_of_all (by decide));have HC:Hid _:=fun (n:Int) (W:WL)=>D4 n W;have HX:Hid _:=fun (x:BA) (W:WL)=>m8 x W;have hl:(dG (bl s)).2.2.length≤1048576:=by have:=aJe (bl s);rw[aO] at this;omega
 obtain⟨n,hn⟩:=eXi ((dG (bl s)).1);obtain⟨r,hr⟩:=eXi ((dG (bl s)).2.2);obtain⟨f,hf⟩:=eXi (decide (0<(dG (bl s)).2.1));unfold aVw at HS;rw[hn,hr,hf] at HS;rw[hn,hr,hf] at hL;rw[hr] at hl;rw[hn] at hB;have hV:Hid (vV (dF s)=if looks s=true then vlV 3 n s else vlV 2 0 s):=by
  show vV (dF s)=_;unfold dF;by_cases h:looks s=true
  ·rw[if_pos h,if_pos h];have h2:n=gX n:=by
    rw[hL] at h;simp only[Bool.and_eq_true,decide_eq_true_eq] at h;exact h.2
   unfold vV vN vS aOi;rw[hn,← h2];rfl
  rw[if_neg h,if_neg h];rfl
 have HL:Hid _:=hL;have hre:(⟨r.toArray⟩:BA).data.toList=r:=by simp
 have hrs:(⟨r.toArray⟩:BA).size≤9223372036854775807:=by rw[← aO];show (⟨r.toArray⟩:BA).data.toList.length≤_;rw[hre];omega
 have hTr:Hid ((⟨(Lib.trimS (⟨r.toArray⟩:BA).data.toList ((⟨#[32,9,10]⟩:BA).data.toList)).toArray⟩:BA).toList.isEmpty=r.all fG):=by
  show _=_;rw[qU,hre];exact aMe r
 obtain⟨W1,hW1⟩:=eXi (W.alloc (.cells #[.int .u8 0,iA 0,.string ⟨#[]⟩] 135));have F1:=frA hW1
 have k1:=kA hW1;have l1:=(Age.1 k1).1;clear hn hr hf hL hre;go_enter func153,ntmps153;go_wp2_with fail;refine (HS.out _).mono ?_;rintro e W2 ⟨rfl,F2⟩;cases f
 ·have hno:Hid (¬ looks s=true):=by show ¬ looks s=true;rw[HL.out];simp
  clear HS HT HC HL hTr hrs;go_wp2_with fail;refine (HX.out _ _).mono ?_;rintro e W9 ⟨rfl,F9⟩;have F8:=F2.trans F9;obtain⟨hy,z0,z1,z2⟩:=iJ ((F8.block _ l1 (by simp)).trans k1);obtain⟨W7,hW7,r0,r1,r2,F7⟩:=set3 (x':=.int .u8 2) (y':=iA 0) (z':=.string s) hy;obtain⟨y0,y1,y2⟩:=hy;have FF:Hid _:=(F1.trans F8).trans' F7 (by simp);clear F7 F8 F9 k1 l1 F1 hW1 F2;go_wp2_with fail;refine bodyPost_ret (v:=vlV 2 0 s) (by simp[results,results153,go_sem,r0,r1,r2]) rfl ?_;exact⟨by rw[hV.out,if_neg (hno.out)],FF.out⟩
 go_wp2_with fail;refine (HT.out _ hrs _).mono ?_;rintro e W3 ⟨rfl,hB3⟩;have F3:=F2.trans (Fr.of_below hB3);clear hB3 F2 HT HS hrs;by_cases hb:r.all fG=true
 ·have t1:Lib.trimS r [32,9,10]=[]:=List.isEmpty_iff.1 (by rw[← qU];exact hTr.out.trans hb);by_cases hc:n=gX n
  ·have g:(n != gX n)=false:=by simpa using hc
   have hyes:Hid (looks s=true):=by show looks s=true;rw[HL.out,hb,decide_eq_true hc];rfl
   have HF3:Hid _:=F3;obtain⟨hy,z0,z1,z2⟩:=iJ ((F3.block _ l1 (by simp)).trans k1);obtain⟨W7,hW7,r0,r1,r2,F7⟩:=set3 (x':=.int .u8 3) (y':=iA n) (z':=.string s) hy;obtain⟨y0,y1,y2⟩:=hy;have FF:Hid _:=(F1.trans F3).trans' F7 (by simp);have HCC:Hid _:=hc;clear F7 F3 k1 l1 F1 hW1 HL hTr hb hc HX;go_wp2_with (refine (HC.out _ _).mono ?_;rintro e w' ⟨rfl,rfl⟩);refine bodyPost_ret (v:=vlV 3 n s) (by simp[results,results153,go_sem,r0,r1,r2]) rfl ?_;exact⟨by rw[hV.out,if_pos hyes.out],FF.out⟩
  have g:(n != gX n)=true:=by simpa using hc
  have hno:Hid (¬ looks s=true):=by show ¬ looks s=true;rw[HL.out,decide_eq_false hc];simp
  clear HL hTr hb hc;go_wp2_with fail;refine (HC.out _ _).mono ?_;rintro e w' ⟨rfl,rfl⟩;go_wp2_with fail;refine (HX.out _ _).mono ?_;rintro e W9 ⟨rfl,F9⟩;have F8:=F3.trans F9;obtain⟨hy,z0,z1,z2⟩:=iJ ((F8.block _ l1 (by simp)).trans k1);obtain⟨W7,hW7,r0,r1,r2,F7⟩:=set3 (x':=.int .u8 2) (y':=iA 0) (z':=.string s) hy;obtain⟨y0,y1,y2⟩:=hy;have FF:Hid _:=(F1.trans F8).trans' F7 (by simp);clear F7 F8 F9 k1 l1 F1 hW1 F3;go_wp2_with fail;refine bodyPost_ret (v:=vlV 2 0 s) (by simp[results,results153,go_sem,r0,r1,r2]) rfl ?_;exact⟨by rw[hV.out,if_neg (hno.out)],FF.out⟩
 have hb':r.all fG=false:=by simpa using hb
 have t1:¬ Lib.trimS r [32,9,10]=[]:=fun h=>by have:=hTr.out.trans hb';rw[qU] at this;rw[h] at this;cases this
 have hno:Hid (¬ looks s=true):=by show ¬ looks s=true;rw[HL.out,hb'];simp
 clear HL hTr hb hb' HC;go_wp2_with fail;refine (HX.out _ _).mono ?_;rintro e W9 ⟨rfl,F9⟩;have F8:=F3.trans F9;obtain⟨hy,z0,z1,z2⟩:=iJ ((F8.block _ l1 (by simp)).trans k1);obtain⟨W7,hW7,r0,r1,r2,F7⟩:=set3 (x':=.int .u8 2) (y':=iA 0) (z':=.string s) hy;obtain⟨y0,y1,y2⟩:=hy;have FF:Hid _:=(F1.trans F8).trans' F7 (by simp);clear F7 F8 F9 k1 l1 F1 hW1 F3;go_wp2_with fail;refine bodyPost_ret (v:=vlV 2 0 s) (by simp[results,results153,go_sem,r0,r1,r2]) rfl ?_;exact⟨by rw[hV.out,if_neg (hno.out)],FF.out⟩
def rng (n:Nat) (f:Nat→LV):LV:=(List.range n).flatMap f
theorem aNd (f:Nat→LV):rng 0 f=[]:=rfl
theorem eN (n:Nat)(f:Nat→LV):rng (n+1) f=rng n f++f n:=by
 unfold rng;rw[List.range_succ,List.flatMap_append];simp
theorem jO {n z:Nat}{f:Nat→LV} (hf:∀ j,j<n→(f j).length=z):(rng n f).length=n*z:=by
 induction n with
 | zero=>simp[rng]
 | succ n ih=>rw[eN,Lla,ih (fun j hj=>hf j (by omega)),hf n (by omega),Nat.succ_mul]
theorem bK {n:Nat}{f g:Nat→LV} (h:∀ j,j<n→f j=g j):rng n f=rng n g:=by
 induction n with
 | zero=>rfl
 | succ n ih=>rw[eN,eN,ih (fun j hj=>h j (by omega)),h n (by omega)]
theorem dC {n z:Nat}{f:Nat→LV} (hf:∀ j,j<n→(f j).length=z) {j t:Nat} (hj:j<n) (ht:t<z):(rng n f)[j*z+t]?=(f j)[t]?:=by
 induction n with
 | zero=>omega
 | succ n ih=>
  have hl:=jO (n:=n) (fun j hj=>hf j (by omega));rw[eN];by_cases e:j<n
  ·have:j*z+t<n*z:=by
    have:(j+1)*z≤n*z:=Nat.mul_le_mul_right z e;rw[Nat.succ_mul] at this;omega
   rw[List.getElem?_append_left (by omega)];exact ih (fun j hj=>hf j (by omega)) e
  obtain rfl:j=n:=by omega
  rw[List.getElem?_append_right (by omega),hl];congr 1;omega
theorem aNe {n m z:Nat}{f:Nat→LV} (hf:∀ j,j<n→(f j).length=z) (hm:m≤n):(rng n f).take (m*z)=rng m f:=by
 induction n with
 | zero=>
  obtain rfl:m=0:=by omega
  simp[rng]
 | succ n ih=>
  have hl:=jO (n:=n) (fun j hj=>hf j (by omega));by_cases e:m=n+1
  ·subst e;rw[List.take_of_length_le];rw[jO hf];exact Nat.le_refl _
  rw[eN,List.take_append_of_le_length (by rw[hl];exact Nat.mul_le_mul_right z (by omega))];exact ih (fun j hj=>hf j (by omega)) (by omega)
theorem jM {n z:Nat}{f:Nat→LV} (hf:∀ j,j<n→(f j).length=z) {j t:Nat} (hj:j<n) (ht:t<z) (u:Value):(rng n f).set (j*z+t) u=rng n (up f j ((f j).set t u)):=by
 induction n with
 | zero=>omega
 | succ n ih=>
  have hl:=jO (n:=n) (fun j hj=>hf j (by omega));rw[eN,eN];by_cases e:j<n
  ·have:j*z+t<n*z:=by
    have:(j+1)*z≤n*z:=Nat.mul_le_mul_right z e;rw[Nat.succ_mul] at this;omega
   rw[List.set_append_left _ _ (by omega),ih (fun j hj=>hf j (by omega)) e,aE _ _ (by omega)]
  obtain rfl:j=n:=by omega
  rw[List.set_append_right _ _ (by omega),hl,aG];rw[bK (g:=f) (fun i hi=>aE _ _ (by omega))];congr 2;omega
def vC (v:Val):LV:=[.int .u8 v.kind,.int .i64 (vN v),.string (vS v)]
theorem xD (v:Val):(vC v).length=3:=rfl
abbrev ptr (b:Nat):Value:=.pointer (some ⟨b,0,none⟩)
def RoL (W:WL) (tag:NN) (v:Value) (xs:LV):Prop:=
 ∃ o c,v=.slice o xs.length c∧xs.length≤c∧c≤9223372036854775807∧(0<xs.length→∃ g off,o=some ⟨g,off,none⟩∧g<W.heap.size∧tag g=9∧∀ (i:Nat) (x:Value),xs[i]?=some x→W.cell? ⟨g,off+i,none⟩=some x)
theorem RoL.kp {W W':WL}{tag tag':NN}{v:Value}{xs:LV} (h:RoL W tag v xs) (k:Kp tag tag' W W'):RoL W' tag' v xs:=by
 obtain⟨o,c,h1,h2,h2',h3⟩:=h;refine⟨o,c,h1,h2,h2',fun h0=>?_⟩;obtain⟨g,off,e1,e2,e3,e4⟩:=h3 h0;exact⟨g,off,e1,Nll e2 k.size,(k.ret g e2).trans e3,fun i x hx=>(k.cell (p:=Ad g (off+i)) e2 (by show tag g<10;omega)).trans (e4 i x hx)⟩
def aGk (p:Value) (c:aJ):LV:=if c.list=true then [.int .u8 0,.int .i64 0,.string ⟨#[]⟩,p] else [.int .u8 c.v.kind,.int .i64 (vN c.v),.string (vS c.v),.pointer none]
theorem aQt (p:Value)(c:aJ):(aGk p c).length=4:=by unfold aGk;split <;> rfl
def mZ (pw:NN) (l:List aJ):LV:=rng l.length fun j=>aGk (ptr (pw j)) (l.getD j c0)
theorem rW (pw:NN)(l:List aJ):(mZ pw l).length=l.length*4:=jO fun _ _=>aQt _ _
theorem jW (pw:NN)(l:List aJ)(c:aJ):mZ pw (l++[c])=mZ pw l++aGk (ptr (pw l.length)) c:=by
 unfold mZ;rw[Lla,List.length_singleton,eN];congr 1
 ·refine bK fun j hj=>?_;rw[List.getD_eq_getElem?_getD,List.getD_eq_getElem?_getD,List.getElem?_append_left hj]
 rw[List.getD_eq_getElem?_getD,List.getElem?_append_right (Nat.le_refl _)];simp
theorem aMn (pw:NN)(l:List aJ)(c:aJ):(mZ pw (l++[c])).take (l.length*4)=mZ pw l:=by
 rw[jW,List.take_append_of_le_length (by rw[rW];exact Nat.le_refl _),List.take_of_length_le (by rw[rW];exact Nat.le_refl _)]
theorem n9 (pw:NN)(l:List aJ)(c:aJ)(t:Nat)(ht:t<4):(mZ pw (l++[c]))[l.length*4+t]?=(aGk (ptr (pw l.length)) c)[t]?:=by
 rw[jW,List.getElem?_append_right (by rw[rW];omega),rW];congr 1;omega
theorem aSb {pw pw':NN}{l:List aJ} (h:∀ j,j<l.length→pw' j=pw j):mZ pw' l=mZ pw l:=bK fun j hj=>by rw[h j hj]
def vH (l:List Val):LV:=rng 16 fun i=>vC (l.getD i nothing)
theorem iX (l:List Val):(vH l).length=48:=jO fun _ _=>xD _
structure FrX where
 cv:Value
 ix:Nat
 sv:Value
 pw:Nat→Nat
def fr0:Frm:=⟨0,0,[],[]⟩
def frC (x:FrX) (f:Frm):LV:=[x.cv,.int .i64 x.ix]++vH f.locs++[x.sv]
theorem fZ (x:FrX)(f:Frm):(frC x f).length=51:=by simp[frC,iX]
theorem aUl (x:FrX)(f:Frm):(frC x f)[50]?=some x.sv:=by
 unfold frC;rw[List.getElem?_append_right (by simp[iX])];simp[iX]
theorem aUn (x:FrX)(f:Frm){i t:Nat}(hi:i<16)(ht:t<3):(frC x f)[2+(i*3+t)]?=(vC (f.locs.getD i nothing))[t]?:=by
 unfold frC;rw[List.getElem?_append_left (by simp[iX];omega),List.getElem?_append_right (by simp)];simp only[List.length_cons,List.length_nil,Nat.zero_add,Nat.add_sub_cancel_left];exact dC (fun _ _=>xD _) hi ht
theorem bAj {w:WL}{b:Nat}{x y z u x' y' z' u':Value} (h:w.cell? (Ad b 0)=some x∧w.cell? (Ad b 1)=some y∧w.cell? (Ad b 2)=some z∧w.cell? (Ad b 3)=some u):∃ w',(((w.setCell ⟨b,0,none⟩ x').setCell ⟨b,1,none⟩ y').setCell ⟨b,2,none⟩ z').setCell ⟨b,3,none⟩ u'=w'∧w'.cell? (Ad b 0)=some x'∧w'.cell? (Ad b 1)=some y'∧w'.cell? (Ad b 2)=some z'∧w'.cell? (Ad b 3)=some u'∧Fr [b] w w':=by
 obtain⟨h0,h1,h2,h3⟩:=h;refine⟨_,rfl,?_,?_,?_,?_,((((Fr.refl [b] w).setCell (.inl (by simp)) _).setCell (.inl (by simp)) _).setCell (.inl (by simp)) _).setCell (.inl (by simp)) _⟩
 ·rw[aA (by decide),aA (by decide),aA (by decide)];exact cW h0
 ·rw[aA (by decide),aA (by decide)];exact cW (by rw[aA (by decide)];exact h1)
 ·rw[aA (by decide)];exact cW (by rw[aA (by decide),aA (by decide)];exact h2)
 exact cW (by rw[aA (by decide),aA (by decide),aA (by decide)];exact h3)
theorem aYb {w:WL}{b:Nat}{x y z u:Value}{t:TypeId} (h:w.heap[b]?=some (.cells #[x,y,z,u] t)):(w.cell? (Ad b 0)=some x∧w.cell? (Ad b 1)=some y∧w.cell? (Ad b 2)=some z∧w.cell? (Ad b 3)=some u)∧w.frozen? (Ad b 0)=false∧w.frozen? (Ad b 1)=false∧w.frozen? (Ad b 2)=false∧w.frozen? (Ad b 3)=false:=by
 refine⟨⟨?_,?_,?_,?_⟩,?_,?_,?_,?_⟩ <;> first | (unfold World.cell?;rw[h];rfl) | (unfold World.frozen?;rw[h];simp)
theorem aHb (g o gs n cs:Nat)(a b:Int)(s:BA)(p:OA)(W:WL)(hs:W.cell? (Ad g (o+50))=some (.slice (some (Ad gs 0)) (n+1) cs))(hn:n<4000)
  (h0:W.cell? (Ad gs (n*4))=some (.int .u8 a)) (h1:W.cell? (Ad gs (n*4+1))=some (iA b)) (h2:W.cell? (Ad gs (n*4+2))=some (.string s)) (h3:W.cell? (Ad gs (n*4+3))=some (.pointer p)) :
  Calls prog 113 #[.pointer (some (Ad g o))] W fun e W'=>e=.returned (.agg #[.int .u8 a,iA b,.string s,.pointer p])∧Fr [] W W':=by
 have hm:=hmX
 obtain⟨W1,hW1⟩:=eXi (W.alloc (.cells #[.int .u8 0,iA 0,.string ⟨#[]⟩,.pointer none] 191));have F1:=frA hW1
 have k1:=kA hW1;have q0:=(F1.cell (p:=Ad g (o+50)) (aB hs) (by simp)).trans hs;have r0:=(F1.cell (p:=Ad gs (n*4)) (aB h0) (by simp)).trans h0;have r1:=(F1.cell (p:=Ad gs (n*4+1)) (aB h1) (by simp)).trans h1;have r2:=(F1.cell (p:=Ad gs (n*4+2)) (aB h2) (by simp)).trans h2;have r3:=(F1.cell (p:=Ad gs (n*4+3)) (aB h3) (by simp)).trans h3;obtain⟨hy,z0,z1,z2,z3⟩:=aYb k1;obtain⟨W2,hW2,u0,u1,u2,u3,F2⟩:=bAj (x':=.int .u8 a) (y':=iA b) (z':=.string s) (u':=.pointer p) hy;obtain⟨y0,y1,y2,y3⟩:=hy;clear hs h0 h1 h2 h3;have HF:Hid _:=(F1.trans' F2 (by simp)).drew;clear F2;clear F1 k1;have hw64:IntKind.i64.wrap (n:Int)=n:=by rw[IntKind.wrap_i64];omega
 have hlt:(n:Int)<(n:Int)+1:=by omega
 go_enter func113,ntmps113;go_wp2_with fail;refine aP 12 hm (by kernel_rfl) ?_;simp only[Zt]
 repeat still_step
 refine wpStill_nil ?_;go_wp2_with fail;refine bodyPost_ret (v:=.agg #[.int .u8 a,iA b,.string s,.pointer p]) (by simp[results,results113,go_sem,u0,u1,u2,u3]) rfl ?_;exact⟨rfl,HF.out⟩
theorem aFs (a b:Int)(s:BA)(p:OA)(w:WL):(Instr.field 191 (.agg #[.int .u8 a,iA b,.string s,.pointer p]) 0).run prog w=.ok (vlV a b s) w:=by
 kernel_rfl
theorem zU {W V:WL}{g o:Nat}{v:Value} (h:V.heap[g]?=W.heap[g]?):(V.setCell ⟨g,o,none⟩ v).heap[g]?=(W.setCell ⟨g,o,none⟩ v).heap[g]?:=by
 unfold World.setCell;simp only[Array.getElem?_modify,h]
def aDz (W:WL) (g o:Nat) (v:Value) (W':WL):Prop:=Fr [] (W.setCell ⟨g,o,none⟩ v) W'
theorem aDz.of {W V W':WL}{g o:Nat}{v:Value}{S:LN} (h:Fr [] W V) (h':Fr S (V.setCell ⟨g,o,none⟩ v) W') (hg:g<W.heap.size) (hS:∀ x ∈ S,W.heap.size≤x):aDz W g o v W':=by
 have hs:(W.setCell ⟨g,o,none⟩ v).heap.size=W.heap.size:=by simp[World.setCell]
 have hs':(V.setCell ⟨g,o,none⟩ v).heap.size=V.heap.size:=by simp[World.setCell]
 have h1:=h.size;refine⟨h'.os.trans h.os,h'.tape.trans h.tape,h'.output.trans h.output,by have:=h'.size;omega,fun k hk _=>?_⟩;refine (h'.block k (by omega) (fun hx=>by have:=hS k hx;omega)).trans ?_;by_cases e:k=g
 ·subst e;exact zU (h.block k (by omega) (by simp))
 rw[Below.heap_setCell _ _ _ _ (by simpa using e),Below.heap_setCell _ _ _ _ (by simpa using e)];exact h.block k (by omega) (by simp)
def bCc (g o gs n cs:Nat) (a b:Int) (s:BA) (W:WL) (e:Ending) (W':WL):Prop:=
 e=.returned (vlV a b s)∧aDz W g (o+50) (.slice (some ⟨gs,0,none⟩) n cs) W'
theorem aNn (g o gs n cs:Nat)(a b:Int)(s:BA)(p:OA)(W:WL)(hs:W.cell? (Ad g (o+50))=some (.slice (some (Ad gs 0)) (n+1) cs))(hz:W.frozen? (Ad g (o+50))=false)(hn:n<4000)(hc:n+1≤cs)
  (h0:W.cell? (Ad gs (n*4))=some (.int .u8 a)) (h1:W.cell? (Ad gs (n*4+1))=some (iA b)) (h2:W.cell? (Ad gs (n*4+2))=some (.string s)) (h3:W.cell? (Ad gs (n*4+3))=some (.pointer p)) :
  Calls prog 108 #[.pointer (some (Ad g o))] W (bCc g o gs n cs a b s W):=by
 have hm:=hmX
 obtain⟨W1,hW1⟩:=eXi (W.alloc (.cells #[.int .u8 0,iA 0,.string ⟨#[]⟩] 135));have F1:=frA hW1
 have k1:=kA hW1;have l1:=(Age.1 k1).1;have HT:Hid _:=fun (_:Unit)=>aHb g o gs n cs a b s p W1 ((F1.cell (p:=Ad g (o+50)) (aB hs) (by simp)).trans hs) hn ((F1.cell (p:=Ad gs (n*4)) (aB h0) (by simp)).trans h0) ((F1.cell (p:=Ad gs (n*4+1)) (aB h1) (by simp)).trans h1) ((F1.cell (p:=Ad gs (n*4+2)) (aB h2) (by simp)).trans h2) ((F1.cell (p:=Ad gs (n*4+3)) (aB h3) (by simp)).trans h3);clear h0 h1 h2 h3;have hw64:IntKind.i64.wrap (n:Int)=n:=by rw[IntKind.wrap_i64];omega
 have hfd:=aFs a b s p;have hcs:(n:Int)≤cs:=by omega
 have hn0:(0:Int)≤n:=by omega
 go_enter func108,ntmps108;go_wp2_with fail;refine (HT.out ()).mono ?_;rintro e W2 ⟨rfl,F2⟩;clear HT;obtain⟨W3,hW3,F3,x0,x1,x2,l3⟩:=bD W2 a b s;have F13:=F2.trans F3;have F03:=F1.trans F13;have q0:=(F03.cell (p:=Ad g (o+50)) (aB hs) (by simp)).trans hs;have q1:=(F03.frozen (p:=Ad g (o+50)) (aB hs) (by simp)).trans hz;have k3:=(F13.block _ l1 (by simp)).trans k1;have hgl:=aB hs;simp only at hgl;have hs2:=F1.size;have hs3:=F2.size;obtain⟨W4,hW4⟩:=eXi (W3.setCell ⟨g,o+50,none⟩ (.slice (some ⟨gs,0,none⟩) n cs));have F4:Fr [g] W3 W4:=by rw[← hW4];exact (Fr.refl [g] W3).setCell (.inl (by simp)) _
 have y0:=(F4.cell (p:=Ad W2.heap.size 0) l3 (by simp;omega)).trans x0;have y1:=(F4.cell (p:=Ad W2.heap.size 1) l3 (by simp;omega)).trans x1;have y2:=(F4.cell (p:=Ad W2.heap.size 2) l3 (by simp;omega)).trans x2;obtain⟨hc4,z0,z1,z2⟩:=iJ ((F4.block W.heap.size (by have:=F13.size;omega) (by simp;omega)).trans k3);obtain⟨W5,hW5,u0,u1,u2,F5⟩:=set3 (x':=.int .u8 a) (y':=iA b) (z':=.string s) hc4;obtain⟨c0,c1,c2⟩:=hc4;have HR:Hid (aDz W g (o+50) (.slice (some (Ad gs 0)) n cs) W5.drew):=by
  refine aDz.of F03 (S:=[W.heap.size]) ?_ hgl (by simp);rw[hW4];exact F5.drew
 clear F4 F5 k3 k1 x0 x1 x2 F13 F03 F1 F2 F3 hW1 l1 l3 hs hz hgl;go_wp2_with fail;refine aP 14 hm (by kernel_rfl) ?_;simp only[Zt]
 repeat still_step
 refine wpStill_nil ?_;go_wp2_with fail;refine bodyPost_ret (v:=vlV a b s) (by simp[results,results108,go_sem,u0,u1,u2]) rfl ?_;exact⟨rfl,HR.out⟩
theorem aVt:(prog.info? 191).map (fun i=>(i.zero,i.size,i.bytes))=some (some (.agg #[.int .u8 0,iA 0,.string ⟨#[]⟩,.pointer none]),4,40):=by kernel_rfl
theorem mR (w:WL)(vs:Array Value)(t:TypeId):∀ j u,vs.toList[j]?=some u→(w.alloc (.cells vs t)).cell? (((Ad w.heap.size 0):Addr).add j)=some u:=by
 intro j u hj;rw[zD];unfold World.cell?;rw[wan w (.cells vs t)];simpa using hj
theorem gU {o:Oper}{a:Act}{w w':WL}{K:Act→WL→Prop}{Q:Exit→Act→WL→Prop} (s x:Operand) (t:TypeId) (ho:o.op=.call { callee:=.builtin .append,args:=#[s,x],argTypes:=#[t,t] }) (v u r:Value) (hs:a.eval s=v) (hx:a.eval x=u)
  (hr:(Builtin.append_ #[t,t] o.type #[v,u]).run prog w=.ok r w') (h:K (a.put o.dst r) w'):o.wp prog a w K Q:=by
 unfold Oper.wp execOp;simp only[ho,resolve,invoke,builtin,Sem.run_bind,Sem.run_pure,Result.andThen_ok,List.map_toArray,List.map_cons,List.map_nil,hs,hx,hr];exact h
theorem kC {ops:Array Oper}{rest:List Oper}{o:Oper}{a:Act}{w w':WL}{Q:Exit→Act→WL→Prop} (hgd:o.guard=none) (s x:Operand) (t:TypeId) (ho:o.op=.call { callee:=.builtin .append,args:=#[s,x],argTypes:=#[t,t] }) (v u r:Value) (hs:a.eval s=v) (hx:a.eval x=u)
  (hr:(Builtin.append_ #[t,t] o.type #[v,u]).run prog w=.ok r w') (h:wpList prog ops Q rest (a.put o.dst r) w'):wpList prog ops Q (o :: rest) a w:=by
 refine wpList_plain hgd fun K hK=>?_;exact gU s x t ho v u r hs hx hr (hK _ _ h)
theorem aGl (a b:Int)(s:BA)(w:WL):(Instr.build 191 #[(0,vlV a b s)]).run prog w=.ok (.agg #[.int .u8 a,iA b,.string s,.pointer none]) w:=by
 kernel_rfl
theorem uY (a b:Int)(s:BA)(p:OA)(w:WL):(Instr.buildSlice 137 1 #[(0,.agg #[.int .u8 a,iA b,.string s,.pointer p])]).run prog w=.ok (.slice (some (Ad w.heap.size 0)) 1 1) (w.alloc (.cells #[.int .u8 a,iA b,.string s,.pointer p] 191)):=by
 kernel_rfl
section
variable {W:WL}{tag:NN}{lv:Nat→Bool}{R:Nat→Rw}{mp:Nat→Option (Nat × List (Value × Value))}
def aZy (W:WL) (tag:NN) (lv:Nat→Bool) (R:Nat→Rw) (mp:Nat→Option (Nat × List (Value × Value))) (m g n cap j h:Nat) (xs ys news:LV) (e:Ending) (W':WL):Prop:=
 e=.returned (.tuple #[])∧∃ tag' sv',Sto W' tag' lv (up (up R m ⟨sv',191,4,h+1,ys++news⟩) 11 ⟨.slice (some ⟨g,0,none⟩) n cap,139,51,n,xs.set j sv'⟩) mp∧Kp tag tag' W W'
theorem aJg (hS:Sto W tag lv R mp){m k g n cap h:Nat}{xs ys:LV}{sv:Value} (l11:lv 11=true) (r11:R 11=⟨.slice (some (Ad g 0)) n cap,139,51,n,xs⟩) (hk:k<n) (hm11:m≠11) (lm:lv m=true) (rm:R m=⟨sv,191,4,h,ys⟩) (hx:xs[k*51+50]?=some sv) (hh:h<2000) (a b:Int) (s:BA) :
  Calls prog 107 #[.pointer (some (Ad g (k*51))),vlV a b s] W (aZy W tag lv R mp m g n cap (k*51+50) h xs ys [.int .u8 a,iA b,.string s,.pointer none]):=by
 have hm:=hmX
 obtain⟨i0,hi,hz0,hz1,hz2⟩:=info_parts aVt;have o11:W.ownsRow 0 139 51 (.slice (some (Ad g 0)) n cap) n xs:=by have:=(hS.rows 11 l11).1;rw[r11] at this;exact this
 have om:W.ownsRow 0 191 4 sv h ys:=by have:=(hS.rows m lm).1;rw[rm] at this;exact this
 obtain⟨so,sc,rfl⟩:=bF om;have hgl:g<W.heap.size:=(o11.lt g rfl).2;obtain⟨W1,hW1,F1,x0,x1,x2,l1⟩:=bD W a b s;have q0:W1.cell? (Ad g (k*51+50))=some (.slice so h sc):=(F1.cell (p:=Ad g (k*51+50)) hgl (by simp)).trans (aF o11 hx);obtain⟨WD,hWD⟩:=eXi (W1.drew);have FD:Fr [] W1 WD:=by rw[← hWD];exact (Fr.refl [] W1).drew
 have q0':WD.cell? (Ad g (k*51+50))=some (.slice so h sc):=by rw[← hWD];exact q0
 have x0':WD.cell? (Ad W.heap.size 0)=some (.int .u8 a):=by rw[← hWD];exact x0
 have x1':WD.cell? (Ad W.heap.size 1)=some (iA b):=by rw[← hWD];exact x1
 have x2':WD.cell? (Ad W.heap.size 2)=some (.string s):=by rw[← hWD];exact x2
 obtain⟨W3,hW3⟩:=eXi (WD.alloc (.cells #[.int .u8 a,iA b,.string s,.pointer none] 191));have F3:=frA hW3
 have F03:Fr [] W W3:=(F1.trans FD).trans F3;have hnews:=mR WD #[.int .u8 a,iA b,.string s,.pointer none] 191;rw[hW3] at hnews;have S3:=hS.frm F03 6;have om3:W3.ownsRow 0 191 4 (.slice so h sc) h ys:=by have:=(S3.rows m lm).1;rw[rm] at this;exact this
 obtain⟨v',W4,hr4,hown',hgrow,-,hwh⟩:=run_append_own_at (P:=prog) (w:=W3) 0 137 137 191 i0 _ 4 40 underlying137 hi hz0 hz1 hz2 rfl (by decide) _ _ _ om3 (Ad WD.heap.size 0) 1 1 [.int .u8 a,iA b,.string s,.pointer none] rfl hnews (by intro u hu;simp at hu;rcases hu with rfl | rfl | rfl | rfl <;> rfl) (by unfold maxLen;omega) (by omega) (Nat.zero_le _)
 obtain⟨vo,vc,rfl⟩:=bF hown';obtain⟨S4,K4⟩:=S3.grow (i:=m) lm hown' (by rw[rm];exact hgrow) (by rw[rm];exact hwh);have r11':up R m ⟨.slice vo (h+1) vc,191,4,h+1,ys++[.int .u8 a,iA b,.string s,.pointer none]⟩ 11=⟨.slice (some (Ad g 0)) n cap,139,51,n,xs⟩:=by rw[aE _ _ (by omega)];exact r11
 have hj:k*51+50<n*51:=by omega
 obtain⟨S5,K5⟩:=S4.put l11 r11' hj (.slice vo (h+1) vc);have o4:W4.ownsRow 0 139 51 (.slice (some (Ad g 0)) n cap) n xs:=by have:=(S4.rows 11 l11).1;rw[r11'] at this;exact this
 have c4:=aF o4 hx;have z4:=bB o4 (k*51+50);have K:Kp tag _ W _:=((Kp.of_fr F03 (fun k hk=>cD hk)).trans K4).trans K5;have HZ:Hid _:=AI S5 K;have Hr4:Hid _:=hr4;have H3:Hid _:=F3;have HQ:Hid _:=fun (w:WL) (hw:Fr [] WD w)=>AI ((hw.cell (p:=Ad g (k*51+50)) (aB q0') (by simp)).trans q0') (AI ((hw.cell (p:=Ad W.heap.size 0) (aB x0') (by simp)).trans x0') (AI ((hw.cell (p:=Ad W.heap.size 1) (aB x1') (by simp)).trans x1') ((hw.cell (p:=Ad W.heap.size 2) (aB x2') (by simp)).trans x2')));clear S5 K K5 K4 S4 S3 hown' hgrow hwh hr4 hnews om3 om o4 o11 hS r11 r11' rm lm l11 F1 F3 F03 FD hi hz0 hz1 hz2;have hbd:=aGl a b s;have hbs:=uY a b s none;go_enter func107,ntmps107;go_wp2_with fail;refine lE (fun w=>Fr [] WD w) 8 hm ?_;rw[hWD];have hS:Fr [] WD WD:=Fr.refl _ _;refine dE (fuel:=8) [0,1,2,3] (by kernel_rfl) (fun _ _ _ _ _ h=>h) (.inr hS) ?_
 iterate 4
  refine Yls.cons (v:=?_) rfl (.inl ⟨rfl,fun w1 hS1=>?_⟩) ?_;rotate_left
  ·go_simp
   first | rfl | (refine (if_neg (by omega)).trans ?_;rfl)
  simp only[Act.put,Zp,Zq]
 refine Yls.nil ?_;refine jJ (fuel:=5) [4,5,6] (by kernel_rfl) (fun _ _ _ _ _ h=>h) hS ?_
 iterate 3
  refine Yls.cons (v:=?_) rfl (.inl ⟨rfl,fun w1 hS1=>?_⟩) ?_;rotate_left
  ·obtain⟨s0,s1,s2,s3⟩:=HQ.out _ hS1;go_simp
   first | rfl | (refine (if_neg (by omega)).trans ?_;rfl)
  simp only[Act.put,Zp,Zq]
 refine Yls.nil ?_;refine bN (rs:=[7]) (by kernel_rfl) (by simp) ?_;refine aT.cons rfl (fun K hK=>?_) aT.nil;go_simp;refine hK _ _ (.inr H3.out) ?_;clear hK K
 try simp only[Act.put,Zp,Zq]
 refine bN (rs:=[8]) (by kernel_rfl) (by simp) ?_;refine aT.cons rfl (fun K hK=>?_) aT.nil;refine gU (.tmp 8) (.tmp 11) 137 rfl _ _ _ rfl rfl Hr4.out ?_;refine hK _ _ (.inl rfl) ?_;clear hK K
 try simp only[Act.put,Zp,Zq]
 refine dE (fuel:=1) [9,10] (by kernel_rfl) (fun _ _ _ _ _ h=>h) (.inl rfl) ?_
 iterate 2
  refine Yls.cons (v:=?_) rfl (.inl ⟨rfl,fun w1 hS1=>?_⟩) ?_;rotate_left
  ·go_simp
   first | rfl | (refine (if_neg (by omega)).trans ?_;rfl)
  simp only[Act.put,Zp,Zq]
 refine Yls.nil ?_;refine bN (rs:=[11]) (by kernel_rfl) (by simp) ?_;refine aT.cons rfl (fun K hK=>?_) aT.nil;go_simp;refine hK _ _ (.inl rfl) ?_;clear hK K
 try simp only[Act.put,Zp,Zq]
 refine lH (by kernel_rfl) ?_ _;refine NoPanic.normal ?_;go_wp2;refine bodyPost_ret (results_none rfl _ _ _) rfl ?_;exact⟨rfl,_,_,HZ.out.1,HZ.out.2⟩
end
end Go.Proofs.YtlokkgajpjafmaaGreatDoor
