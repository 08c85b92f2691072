import Derived.Shelf.Strings.SlTrimAscii
import Derived.Test.YtmolfmgchbjnbaaGreatDoorRows
import Derived.Lib.AppendIntMem
import Derived.Lib.ItoaLen
import Derived.Test.YtmolfmgchbjnbaaGreatDoorM00
import Derived.Test.YtmolfmgchbjnbaaGreatDoorM01
import Derived.Test.YtmolfmgchbjnbaaGreatDoorM04
import Derived.Test.YtmolfmgchbjnbaaGreatDoorM02
set_option linter.unusedSimpArgs false
set_option linter.unusedVariables false
set_option linter.unusedSectionVars false
set_option maxRecDepth 100000
set_option maxHeartbeats 40000000
open _root_.Go.Proofs.Tryz
namespace Go.Proofs.YtmolfmgchbjnbaaGreatDoor
open Go.RowKit
structure Chg (tag:NN) (S:LN) (W W':WL):Prop where
 os:W'.os=W.os
 tape:W'.tape=W.tape
 output:W'.output=W.output
 size:W.heap.size≤W'.heap.size
 block:∀ k,k<W.heap.size→tag k ∉ S→W'.heap[k]?=W.heap[k]?
theorem Chg.of_fr {tag:NN}{S:LN}{W W':WL} (h:Fr [] W W'):Chg tag S W W':=⟨h.os,h.tape,h.output,h.size,fun k hk _=>h.block k hk (by simp)⟩
theorem Chg.refl (tag:NN)(S:LN)(W:WL):Chg tag S W W:=Chg.of_fr (Fr.refl [] W)
theorem Chg.setCell {tag:NN}{S:LN} (W:WL) {p:Addr} (hp:tag p.block ∈ S) (u:Value):Chg tag S W (W.setCell p u):=
 ⟨rfl,rfl,rfl,by simp[World.setCell],fun k hk hn=>Below.heap_setCell _ _ _ _ (by rintro rfl;exact hn hp)⟩
theorem Chg.grown {tag:NN}{S:LN}{W W':WL}{row:Option Nat} (h:W.grownBy W' row) (hr:∀ k,row=some k→tag k ∈ S):Chg tag S W W':=
 ⟨h.os,h.tape,h.output,h.size,fun k hk hn=>h.block k hk (fun e=>hn (hr k e.symm))⟩
def Tg (tag:NN) (v:Value) (t:Nat):Prop:=∀ g,v.ownBlock=some g→tag g=t
theorem Tg.nil (tag:NN)(t:Nat):Tg tag (.slice none 0 0) t:=fun g h=>by cases h
theorem Tg.re {W:WL}{tag tag':NN}{v:Value}{t:Nat} (h:Tg tag v t) (hl:∀ g,v.ownBlock=some g→g<W.heap.size) (ht:∀ k,k<W.heap.size→tag k=t→tag' k=t):Tg tag' v t:=fun g hg=>ht g (hl g hg) (h g hg)
def up {α:Type} (f:Nat→α) (i:Nat) (x:α):Nat→α:=fun j=>if j=i then x else f j
theorem up_same {α:Type}(f:Nat→α)(i:Nat)(x:α):up f i x i=x:=by simp[up]
theorem up_off {α:Type}(f:Nat→α){i j:Nat}(x:α)(h:j≠i):up f i x j=f j:=by simp[up,h]
theorem up_up {α:Type}(f:Nat→α)(i:Nat)(x y:α):up (up f i x) i y=up f i y:=by
 funext j;by_cases h:j=i <;> simp[up,h]
theorem up_id {α:Type}(f:Nat→α)(i:Nat):up f i (f i)=f:=by
 funext j;by_cases h:j=i
 ·subst h;simp[up]
 simp[up,h]
def newTag (tag:NN) (n t:Nat):Nat→Nat:=fun k=>if k<n then tag k else t
theorem newTag_old {tag:NN}{n t k:Nat} (h:k<n):newTag tag n t k=tag k:=by simp[newTag,h]
theorem newTag_new {tag:NN}{n t k:Nat} (h:n≤k):newTag tag n t k=t:=by simp[newTag];omega
theorem add_plainA (g j:Nat):((Ad g 0):Addr).add j=(Ad g j):=by cases j <;> simp[Addr.add]
theorem own_of_block {W W':WL}{B:Nat}{e:TypeId}{k:Nat}{v:Value}{n:Nat}{xs:LV} (h:W.ownsRow B e k v n xs) (hb:∀ g,v.ownBlock=some g→W'.heap[g]?=W.heap[g]?):W'.ownsRow B e k v n xs:=by
 refine⟨h.1,?_⟩;rcases h.2 with h' | ⟨g,cap,cur,rfl,hg,hh,r⟩
 ·exact .inl h'
 exact .inr ⟨g,cap,cur,rfl,hg,by rw[hb g rfl];exact hh,r⟩
theorem own_form {W:WL}{B:Nat}{e:TypeId}{k:Nat}{v:Value}{n:Nat}{xs:LV} (h:W.ownsRow B e k v n xs):∃ o cap,v=.slice o n cap:=by
 rcases h.2 with ⟨h',rfl⟩ | ⟨g,cap,cur,rfl,hg,hh,r⟩
 ·exact⟨none,0,h'⟩
 exact⟨_,_,rfl⟩
theorem own_some {w:WL}{B:Nat}{e:TypeId}{z n:Nat}{v:Value}{xs:LV} (h:w.ownsRow B e z v n xs) (hn:0<n):∃ g cap,v=.slice (some (Ad g 0)) n cap∧n≤cap∧g<w.heap.size:=by
 rcases h.2 with ⟨_,h0⟩ | ⟨g,cap,cur,hv,hb,hg,hnc,_⟩
 ·omega
 exact⟨g,cap,hv,hnc,(Age.1 hg).1⟩
theorem own_cell {w:WL}{B:Nat}{e:TypeId}{z g n cap:Nat}{xs:LV} (h:w.ownsRow B e z (.slice (some (Ad g 0)) n cap) n xs) {j:Nat}{u:Value} (hj:xs[j]?=some u):w.cell? (Ad g j)=some u:=by
 have:=h.cells (g:=g) rfl j u hj
 rwa [add_plainA] at this
theorem own_thaw {w:WL}{B:Nat}{e:TypeId}{z g n cap:Nat}{xs:LV} (h:w.ownsRow B e z (.slice (some (Ad g 0)) n cap) n xs) (j:Nat):w.frozen? (Ad g j)=false:=by
 rcases h.2 with ⟨h',_⟩ | ⟨g',cap',cur,h',hb,hg,hnc,hcm,hcs,ht⟩
 ·cases h'
 simp only[Value.slice.injEq,Option.some.injEq,Addr.mk.injEq,and_true,true_and] at h';obtain⟨rfl,rfl⟩:=h';unfold World.frozen?;rw[hg];simp
theorem own_set {w:WL}{B:Nat}{e:TypeId}{z g n cap:Nat}{xs:LV} (h:w.ownsRow B e z (.slice (some (Ad g 0)) n cap) n xs) {j:Nat} (hj:j<n*z) (u:Value):(w.setCell ⟨g,j,none⟩ u).ownsRow B e z (.slice (some (Ad g 0)) n cap) n (xs.set j u):=by
 refine⟨by rw[List.length_set];exact h.1,?_⟩;rcases h.2 with ⟨h',_⟩ | ⟨g',cap',cur,h',hb,hg,hnc,hcm,hcs,ht⟩
 ·cases h'
 simp only[Value.slice.injEq,Option.some.injEq,Addr.mk.injEq,and_true,true_and] at h';obtain⟨rfl,rfl⟩:=h';have hjc:j<cur.size:=by
  rw[hcs];exact Nll hj (Nat.mul_le_mul_right z hnc)
 refine .inr ⟨g,cap,cur.setIfInBounds j u,rfl,hb,?_,hnc,hcm,by simpa using hcs,?_⟩
 ·have hl:=(Age.1 hg).1;have hgg:w.heap[g]=.cells cur e (0,0):=(Age.1 hg).2;unfold World.setCell;simp[hl,Array.getElem_modify,hgg]
 rw[← ht];simp[List.take_set]
theorem own_shorter {w:WL}{B:Nat}{e:TypeId}{z g n n' cap:Nat}{xs:LV} (h:w.ownsRow B e z (.slice (some (Ad g 0)) n' cap) n' xs) (hn:n≤n'):w.ownsRow B e z (.slice (some (Ad g 0)) n cap) n (xs.take (n*z)):=by
 have hx:=h.1;rcases h.2 with ⟨h',_⟩ | ⟨g',cap',cur,h',hb,hg,hnc,hcm,hcs,ht⟩
 ·cases h'
 simp only[Value.slice.injEq,Option.some.injEq,Addr.mk.injEq,and_true,true_and] at h';obtain⟨rfl,rfl⟩:=h';have hm:n*z≤n'*z:=Nat.mul_le_mul_right z hn;refine⟨by rw[List.length_take,hx];omega,.inr ⟨g,cap,cur,rfl,hb,hg,by omega,hcm,hcs,?_⟩⟩;rw[← ht,List.take_take];congr 1;omega
theorem own_one {w:WL}{b:Nat}{e:TypeId}{z:Nat}{xs:LV} (h:w.heap[b]?=some (.cells xs.toArray e (0,0))) (hz:xs.length=z):w.ownsRow 0 e z (.slice (some (Ad b 0)) 1 1) 1 xs:=
 ⟨by omega,.inr ⟨b,1,xs.toArray,rfl,Nat.zero_le _,h,Nat.le_refl _,by decide,by simp[hz],by simp[← hz]⟩⟩
structure Rw where
 v:Value
 e:TypeId
 z:Nat
 n:Nat
 xs:LV
def MapAt (W:WL) (b:Nat) (l:List (Value × Value)):Prop:=∃ es clock,W.heap[b]?=some (.map es clock)∧es.toList.map (fun e=>(e.key,e.val))=l
theorem MapAt.lt {W:WL}{b:Nat}{l:List (Value × Value)} (h:MapAt W b l):b<W.heap.size:=by
 obtain⟨es,c,h,-⟩:=h;exact (Age.1 h).1
theorem MapAt.of_block {W W':WL}{b:Nat}{l:List (Value × Value)} (h:MapAt W b l) (hb:W'.heap[b]?=W.heap[b]?):MapAt W' b l:=by
 obtain⟨es,c,h,r⟩:=h;exact⟨es,c,hb.trans h,r⟩
structure Sto (W:WL) (tag:NN) (lv:Nat→Bool) (R:Nat→Rw) (mp:Nat→Option (Nat × List (Value × Value))):Prop where
 rows:∀ i,lv i=true→W.ownsRow 0 (R i).e (R i).z (R i).v (R i).n (R i).xs∧Tg tag (R i).v i
 maps:∀ i b l,mp i=some (b,l)→MapAt W b l∧tag b=i
 far:∀ i,lv i=true→mp i=none
 num:∀ i,lv i=true∨mp i≠none→10≤i
structure Kp (tag tag':NN) (W W':WL):Prop where
 os:W'.os=W.os
 tape:W'.tape=W.tape
 output:W'.output=W.output
 size:W.heap.size≤W'.heap.size
 ret:∀ k,k<W.heap.size→tag' k=tag k
 blk:∀ k,k<W.heap.size→tag k<10→W'.heap[k]?=W.heap[k]?
theorem Kp.refl (tag:NN)(W:WL):Kp tag tag W W:=⟨rfl,rfl,rfl,Nat.le_refl _,fun _ _=>rfl,fun _ _ _=>rfl⟩
theorem Kp.trans {t1 t2 t3:NN}{a b c:WL} (h:Kp t1 t2 a b) (k:Kp t2 t3 b c):Kp t1 t3 a c:=
 ⟨k.os.trans h.os,k.tape.trans h.tape,k.output.trans h.output,Nat.le_trans h.size k.size,fun i hi=>(k.ret i (Nll hi h.size)).trans (h.ret i hi),fun i hi ht=>(k.blk i (Nll hi h.size) (by rw[h.ret i hi];exact ht)).trans (h.blk i hi ht)⟩
theorem Kp.of_fr {tag tag':NN}{a b:WL} (h:Fr [] a b) (hr:∀ k,k<a.heap.size→tag' k=tag k):Kp tag tag' a b:=⟨h.os,h.tape,h.output,h.size,hr,fun k hk _=>h.block k hk (by simp)⟩
theorem Kp.chg {tag tag':NN}{W W':WL}{S:LN} (h:Chg tag S W W') (hr:∀ k,k<W.heap.size→tag' k=tag k) (hS:∀ x ∈ S,10≤x):Kp tag tag' W W':=
 ⟨h.os,h.tape,h.output,h.size,hr,fun k hk ht=>h.block k hk (fun hx=>by have:=hS _ hx;omega)⟩
theorem Kp.cell {tag tag':NN}{W W':WL} (h:Kp tag tag' W W') {p:Addr} (hp:p.block<W.heap.size) (hn:tag p.block<10):W'.cell? p=W.cell? p:=World.cell?_of_block (w:=W) (h.blk p.block hp hn)
section
variable {W W':WL}{tag tag':NN}{lv:Nat→Bool}{R:Nat→Rw}{mp:Nat→Option (Nat × List (Value × Value))}{S:LN}
theorem Sto.chg (h:Sto W tag lv R mp)(hc:Chg tag S W W')(hr:∀ k,k<W.heap.size→tag' k=tag k)(hS:∀ i,10≤i→i ∉ S):Sto W' tag' lv R mp:=by
 refine⟨fun i hi=>?_,fun i b l hm=>?_,h.far,h.num⟩
 ·obtain⟨r,t⟩:=h.rows i hi;have hn:=h.num i (.inl hi);exact⟨own_of_block r fun g hg=>hc.block g (r.lt g hg).2 (by rw[t g hg];exact hS i hn),t.re (fun g hg=>(r.lt g hg).2) (fun k hk e=>by rw[hr k hk];exact e)⟩
 obtain⟨m,t⟩:=h.maps i b l hm;have hn:=h.num i (.inr (by rw[hm];simp));exact⟨m.of_block (hc.block b m.lt (by rw[t];exact hS i hn)),by rw[hr b m.lt];exact t⟩
theorem Sto.kp (h:Sto W tag lv R mp)(hf:Fr [] W W')(hr:∀ k,k<W.heap.size→tag' k=tag k):Sto W' tag' lv R mp:=h.chg (S:=[]) (Chg.of_fr hf) hr (by simp)
theorem Sto.frm (h:Sto W tag lv R mp)(hf:Fr [] W W')(t:Nat):Sto W' (newTag tag W.heap.size t) lv R mp:=h.kp hf fun k hk=>newTag_old hk
theorem Sto.but (h:Sto W tag lv R mp){i:Nat}(hc:Chg tag [i] W W')(hr:∀ k,k<W.heap.size→tag' k=tag k):∀ q,q≠i→(lv q=true→W'.ownsRow 0 (R q).e (R q).z (R q).v (R q).n (R q).xs∧Tg tag' (R q).v q)∧∀ b l,mp q=some (b,l)→MapAt W' b l∧tag' b=q:=by
 intro q hq;refine⟨fun hl=>?_,fun b l hm=>?_⟩
 ·obtain⟨r,t⟩:=h.rows q hl;exact⟨own_of_block r fun g hg=>hc.block g (r.lt g hg).2 (by rw[t g hg];simpa using hq),t.re (fun g hg=>(r.lt g hg).2) (fun k hk e=>by rw[hr k hk];exact e)⟩
 obtain⟨m,t⟩:=h.maps q b l hm;exact⟨m.of_block (hc.block b m.lt (by rw[t];simpa using hq)),by rw[hr b m.lt];exact t⟩
theorem Sto.turn (h:Sto W tag lv R mp){i:Nat}(hm:mp i=none)(hi:10≤i)(hc:Chg tag [i] W W')(hr:∀ k,k<W.heap.size→tag' k=tag k){r:Rw}(hown:W'.ownsRow 0 r.e r.z r.v r.n r.xs)(ht:Tg tag' r.v i):Sto W' tag' (up lv i true) (up R i r) mp:=by
 refine⟨fun q hq=>?_,fun q b l hq=>?_,fun q hq=>?_,fun q hq=>?_⟩
 ·by_cases e:q=i
  ·subst e;rw[up_same];exact⟨hown,ht⟩
  rw[up_off _ _ e] at hq ⊢;exact (h.but hc hr q e).1 hq
 ·by_cases e:q=i
  ·subst e;rw[hm] at hq;cases hq
  exact (h.but hc hr q e).2 b l hq
 ·by_cases e:q=i
  ·subst e;exact hm
  rw[up_off _ _ e] at hq;exact h.far q hq
 by_cases e:q=i
 ·subst e;exact hi
 rw[up_off _ _ e] at hq;exact h.num q hq
theorem up_true {i:Nat}(hl:lv i=true):up lv i true=lv:=by rw[← hl];exact up_id lv i
theorem Sto.put (h:Sto W tag lv R mp){i g n cap z:Nat}{e:TypeId}{xs:LV} (hl:lv i=true) (hR:R i=⟨.slice (some (Ad g 0)) n cap,e,z,n,xs⟩) {j:Nat} (hj:j<n*z) (u:Value) :
  Sto (W.setCell ⟨g,j,none⟩ u) tag lv (up R i ⟨.slice (some (Ad g 0)) n cap,e,z,n,xs.set j u⟩) mp∧Kp tag tag W (W.setCell ⟨g,j,none⟩ u):=by
 obtain⟨r,t⟩:=h.rows i hl;rw[hR] at r t;have hg:tag g=i:=t g rfl;have hc:Chg tag [i] W (W.setCell ⟨g,j,none⟩ u):=Chg.setCell W (by simp[hg]) u;have hn:=h.num i (.inl hl);have:=h.turn (h.far i hl) hn hc (fun _ _=>rfl) (r:=⟨.slice (some (Ad g 0)) n cap,e,z,n,xs.set j u⟩) (own_set r hj u) t;rw[up_true hl] at this;exact⟨this,Kp.chg hc (fun _ _=>rfl) (by simpa using hn)⟩
theorem Sto.grow (h:Sto W tag lv R mp){i:Nat}(hl:lv i=true){e:TypeId}{z n:Nat}{v:Value}{xs:LV} (hown:W'.ownsRow 0 e z v n xs) (hg:W.grownBy W' (R i).v.ownBlock) (hwh:v.ownBlock=(R i).v.ownBlock∨v.ownBlock=some W.heap.size) :
  Sto W' (newTag tag W.heap.size i) lv (up R i ⟨v,e,z,n,xs⟩) mp∧Kp tag (newTag tag W.heap.size i) W W':=by
 obtain⟨r,t⟩:=h.rows i hl;have hn:=h.num i (.inl hl);have hc:Chg tag [i] W W':=Chg.grown hg (fun k hk=>by rw[t k hk];simp);have hr:∀ k,k<W.heap.size→newTag tag W.heap.size i k=tag k:=fun k hk=>newTag_old hk;have:=h.turn (h.far i hl) hn hc hr (r:=⟨v,e,z,n,xs⟩) hown (fun g hg2=>by
  rcases hwh with h1 | h1
  ·rw[h1] at hg2;rw[hr g (r.lt g hg2).2];exact t g hg2
  rw[h1] at hg2;obtain rfl:W.heap.size=g:=by simpa using hg2
  exact newTag_new (Nat.le_refl _))
 rw[up_true hl] at this;exact⟨this,Kp.chg hc hr (by simpa using hn)⟩
theorem Sto.cut (h:Sto W tag lv R mp){i g n cap z n':Nat}{e:TypeId}{xs:LV} (hl:lv i=true) (hR:R i=⟨.slice (some (Ad g 0)) n cap,e,z,n,xs⟩) (hn:n'≤n) :
  Sto W tag lv (up R i ⟨.slice (some (Ad g 0)) n' cap,e,z,n',xs.take (n'*z)⟩) mp:=by
 obtain⟨r,t⟩:=h.rows i hl;rw[hR] at r t;have:=h.turn (h.far i hl) (h.num i (.inl hl)) (Chg.refl tag [i] W) (fun _ _=>rfl) (r:=⟨.slice (some (Ad g 0)) n' cap,e,z,n',xs.take (n'*z)⟩) (own_shorter r hn) (fun g' hg'=>t g' (by simpa [Value.ownBlock] using hg'))
 rwa [up_true hl] at this
theorem Sto.new (h:Sto W tag lv R mp){i:Nat}(hm:mp i=none)(hi:10≤i){r:Rw}(hf:Fr [] W W')(hown:W'.ownsRow 0 r.e r.z r.v r.n r.xs)(hwh:∀ g,r.v.ownBlock=some g→W.heap.size≤g) :
  Sto W' (newTag tag W.heap.size i) (up lv i true) (up R i r) mp∧Kp tag (newTag tag W.heap.size i) W W':=
 ⟨h.turn hm hi (Chg.of_fr hf) (fun k hk=>newTag_old hk) hown (fun g hg=>newTag_new (hwh g hg)),Kp.of_fr hf fun k hk=>newTag_old hk⟩
theorem Sto.same (h:Sto W tag lv R mp){R':Nat→Rw}(hR:∀ i,lv i=true→R' i=R i):Sto W tag lv R' mp:=
 ⟨fun i hi=>by rw[hR i hi];exact h.rows i hi,h.maps,h.far,h.num⟩
theorem Sto.map (h:Sto W tag lv R mp){i b:Nat}{l:List (Value × Value)} (hl:lv i=false) (hi:10≤i) (hc:Chg tag [i] W W') (hr:∀ k,k<W.heap.size→tag' k=tag k) (hm:MapAt W' b l) (ht:tag' b=i):Sto W' tag' lv R (up mp i (some (b,l))):=by
 refine⟨fun q hq=>?_,fun q b' l' hq=>?_,fun q hq=>?_,fun q hq=>?_⟩
 ·by_cases e:q=i
  ·subst e;rw[hl] at hq;cases hq
  exact (h.but hc hr q e).1 hq
 ·by_cases e:q=i
  ·subst e;rw[up_same] at hq;cases hq;exact⟨hm,ht⟩
  rw[up_off _ _ e] at hq;exact (h.but hc hr q e).2 b' l' hq
 ·by_cases e:q=i
  ·subst e;rw[hl] at hq;cases hq
  rw[up_off _ _ e];exact h.far q hq
 by_cases e:q=i
 ·subst e;exact hi
 rw[up_off _ _ e] at hq;exact h.num q hq
end
open Wire Flow Mach
theorem blank_set (c:UInt8):([32,9,10]:LB).contains c=blankB c:=by
 simp only[blankB,List.contains,List.elem,Bool.or_assoc];cases h1:c==32 <;> cases h2:c==9 <;> cases h3:c==10 <;> simp_all
theorem trimLeft_skip (l:LB):Lib.trimLeftS l [32,9,10]=skipL l:=by
 unfold Lib.trimLeftS;induction l with
 | nil=>rfl
 | cons c l ih=>
  rw[List.dropWhile_cons,blank_set,skipL];by_cases h:blankB c=true
  ·rw[if_pos h,if_pos h];exact ih
  rw[if_neg h,if_neg h]
theorem tail_bl {x:BA}{c:UInt8}{l:LB} (h:x.data.toList=c :: l):x.extract 1 x.size=⟨l.toArray⟩:=by
 have hx:x=⟨(c :: l).toArray⟩:=by
  cases x;simp at h ⊢;rw[← h]
 subst hx;simp[ByteArray.extract,ByteArray.size,ByteArray.copySlice]
theorem bl_head {x:BA}(h:0<x.size):bl x=x[0] :: bl (x.extract 1 x.size):=by
 cases e:x.data.toList with
 | nil=>
  have:(bl x).length=x.size:=bl_length x;unfold bl at this;rw[e] at this;simp at this;omega
 | cons c l=>
  rw[tail_bl e];have hc:x[0]=c:=by
   have h1:x[0]=x.data[0]'h:=rfl;have h2:x.data.toList[0]?=some c:=by rw[e];rfl
   have h3:x.data[0]?=some (x.data[0]'h):=Array.getElem?_eq_getElem h;rw[← Array.getElem?_toList,h2] at h3;rw[h1];exact (Option.some.inj h3).symm
  show x.data.toList=_;rw[e,hc,bl_mk]
theorem bl_nil {x:BA}(h:x.size=0):bl x=[]:=List.length_eq_zero_iff.1 (by rw[bl_length];exact h)
theorem size_pos {x:BA}(h:x≠⟨#[]⟩):0<x.size:=by
 rcases Nat.eq_zero_or_pos x.size with h0 | h0
 ·exact absurd (by rw[← mk_bl x,bl_nil h0]) h
 exact h0
theorem toList_ne {x:BA}(h:0<x.size):¬ x.toList=[]:=by
 rw[ByteArray.toList_eq];have:=bl_head h;unfold bl at this;rw[this];simp
theorem toList_is {x:BA}(h:0<x.size):x.toList.isEmpty=false:=by
 cases e:x.toList with
 | nil=>exact absurd e (toList_ne h)
 | cons=>rfl
def ScanP (s:BA) (W:WL) (e:Ending) (W':WL):Prop:=
 e=.returned (.tuple #[.int .i64 (readL (bl s)).1,.string ⟨(readL (bl s)).2.2.toArray⟩,.bool (decide (0<(readL (bl s)).2.1))])∧Fr [] W W'
theorem pre_nil (c:UInt8):Lib.hasPrefix ([]:LB) [c]=false:=rfl
theorem pre_cons (a c:UInt8)(l:LB):Lib.hasPrefix (a :: l) [c]=(c==a):=by simp[Lib.hasPrefix,List.isPrefixOf]
theorem scan_any (s:BA)(hs:s.size≤1048576)(W:WL):Calls prog 280 #[.string s] W (ScanP s W):=by
 have HT:Hid _:=fun (W:WL)=>Any.strings_TrimLeft_laid lays161 (by kernel_rfl) s ⟨#[32,9,10]⟩ W (by decide) (ascii_of_all (by decide));have HP:Hid _:=fun (x p:BA) (W:WL)=>strings_HasPrefix x p W;go_enter func280,ntmps280;go_wp2_with fail;refine (HT.out _).mono ?_;rintro e W1 ⟨rfl,hB⟩;have F1:Fr [] W W1:=Fr.of_below hB;clear hB HT;have e0:Lib.trimLeftS s.data.toList ((⟨#[32,9,10]⟩:BA).data.toList)=skipL (bl s):=trimLeft_skip _;rw[e0];clear e0;obtain⟨X,hX⟩:=eXi (skipL (bl s));rw[hX];have hC:∃ (neg:Bool) (l0:LB),signL X=(neg,l0)∧((Lib.hasPrefix X [45]=false∧Lib.hasPrefix X [43]=false∧neg=false∧l0=X)∨(∃ c,X=c :: l0∧Lib.hasPrefix X [45]=neg∧Lib.hasPrefix X [43] = !neg)):=by
  cases X with
  | nil=>exact⟨false,[],rfl,.inl ⟨rfl,rfl,rfl,rfl⟩⟩
  | cons c l=>
   by_cases h1:c=43
   ·subst h1;exact⟨false,l,rfl,.inr ⟨_,rfl,by rw[pre_cons];decide,by rw[pre_cons];decide⟩⟩
   by_cases h2:c=45
   ·subst h2;exact⟨true,l,rfl,.inr ⟨_,rfl,by rw[pre_cons];decide,by rw[pre_cons];decide⟩⟩
   exact⟨false,c :: l,by simp[signL,h1,h2],.inl ⟨by rw[pre_cons];simpa using fun e=>h2 e.symm,by rw[pre_cons];simpa using fun e=>h1 e.symm,rfl,rfl⟩⟩
 obtain⟨neg,l0,hS,hC⟩:=hC;have HS:Hid (readL (bl s)=((if neg=true then -(digL 0 0 l0).1 else (digL 0 0 l0).1),(digL 0 0 l0).2)):=by
  show readL (bl s)=_;unfold readL;rw[hX,hS]
 clear hS hX hs;have hA:∀ x:LB,(⟨x.toArray⟩:BA).data.toList=x:=fun x=>by simp
 have hX1:Lib.hasPrefix (⟨X.toArray⟩:BA).data.toList ((⟨#[45]⟩:BA).data.toList)=Lib.hasPrefix X [45]:=by rw[hA]
 have hX2:Lib.hasPrefix (⟨X.toArray⟩:BA).data.toList ((⟨#[43]⟩:BA).data.toList)=Lib.hasPrefix X [43]:=by rw[hA]
 have HP1:Hid _:=fun (W:WL)=>hX1 ▸ HP.out ⟨X.toArray⟩ ⟨#[45]⟩ W;have HP2:Hid _:=fun (W:WL)=>hX2 ▸ HP.out ⟨X.toArray⟩ ⟨#[43]⟩ W;clear hX1 hX2 HP;clear hA;have hT:∀ (c:UInt8) (l:LB),(⟨(c :: l).toArray⟩:BA).extract 1 (l.length+1)=⟨l.toArray⟩:=fun c l=>by
  have:=tail_bl (x:=⟨(c :: l).toArray⟩) (c:=c) (l:=l) (by simp);simpa [ByteArray.size] using this
 rcases hC with ⟨p1,p2,rfl,rfl⟩ | ⟨c,rfl,p1,p2⟩;rotate_left;cases neg
 all_goals
  rw[p1] at HP1;rw[p2] at HP2;clear p1 p2
  try have hT':=hT c l0
  go_wp2_with (first | (refine (HP1.out _).mono ?_;rintro e w' ⟨rfl,rfl⟩) | (refine (HP2.out _).mono ?_;rintro e w' ⟨rfl,rfl⟩))
  clear HP1 HP2 hT
  try clear hT'
  go_loop [0,2,4] (fun a n f=>∃ (x:BA) (m:Int) (k:Nat),a=.string x∧n=iA m∧f=.bool (decide (0<k))∧0≤m∧m≤1000000001∧Hid (digL m k (bl x)=digL 0 0 l0)) (fun a n f=>match a with | .string x=>x.size | _=>0)
  case atStart=>exact⟨_,0,0,rfl,rfl,rfl,by omega,by omega,(by rw[bl_mk]:digL 0 0 (bl ⟨l0.toArray⟩)=digL 0 0 l0)⟩
  case round=>
   obtain⟨x,m,k,rfl,rfl,rfl,h0,h1,hd⟩:=hrel;by_cases hx:x=⟨#[]⟩
   ·subst hx;have hend:=HS.out;rw[← hd.out] at hend;clear hd HS;go_wp2;go_ret3;refine⟨?_,F1⟩;rw[hend];rfl
   have hx0:=size_pos hx;have hx1:=toList_ne hx0;have hx2:=toList_is hx0;have hd8:=x[0].toNat_lt;by_cases hg:digB x[0]=true
   ·have hdd:48≤x[0].toNat∧x[0].toNat≤57:=by simpa [digB] using hg
    have g1:(48:Int)≤x[0].toNat:=by omega
    have g2:(x[0].toNat:Int)≤57:=by omega
    have hm:Hid (more m x[0]=min (10*m+((x[0].toNat:Int)-48)) 1000000001):=by
     show more m x[0]=_;unfold more;split <;> omega
    have hn:0≤min (10*m+((x[0].toNat:Int)-48)) 1000000001:=by omega
    go_wp2;refine⟨⟨_,_,k+1,rfl,rfl,by simp,hn,by omega,?_⟩,by simp[ByteArray.size_extract];omega⟩;have:=hd.out;rw[bl_head hx0,digL,if_pos hg,hm.out] at this;exact this
   have hg':digB x[0]=false:=by simpa using hg
   have hend:=HS.out;rw[← hd.out,bl_head hx0,digL,if_neg hg,← bl_head hx0] at hend;clear hd HS;by_cases g1:(48:Int)≤x[0].toNat
   ·have g2:¬ (x[0].toNat:Int)≤57:=by
     intro h;exact hg (by simp[digB];omega)
    go_wp2;go_ret3;refine⟨?_,F1⟩;rw[hend,mk_bl];rfl
   go_wp2;go_ret3;refine⟨?_,F1⟩;rw[hend,mk_bl];rfl
abbrev vlV (k n:Int) (s:BA):Value:=.agg #[.int .u8 k,.int .i64 n,.string s]
def vN (v:Val):Int:=if v.kind=1 then v.n else if v.kind=0∨v.kind=2 then 0 else numT v.s
def vS (v:Val):BA:=if v.kind=0∨v.kind=1 then ⟨#[]⟩ else v.s
def vV (v:Val):Value:=vlV v.kind (vN v) (vS v)
def powNm : String := Rows.echoRow.named.getD 4 ""
def PowTab (w:WL):Prop:=Lib.TabIs prog w powNm .u64 Lib.pow10Tab
theorem fr_grow (w:WL)(k:Nat)(os:Array Obj):Fr [] w (Go.Sort.grow (w.drewN k) os):=
 ⟨rfl,rfl,rfl,by simp[Go.Sort.grow,World.drewN],fun i hi _=>by simp only[Go.Sort.grow,World.drewN];exact Array.getElem?_append_left hi⟩
def itoaB (n:Int):BA:=⟨(Lib.itoa n).toArray⟩
theorem itoa_any (n:Int)(w:WL)(h0:-9223372036854775808≤n)(h1:n≤9223372036854775807)(ht:PowTab w) :
  Calls prog 12 #[iA n] w fun e w'=>e=.returned (.string (itoaB n))∧Fr [] w w':=
 (Any.strconv_Itoa laysM171 n h0 h1 w ht).mono fun e w' ⟨he,k,os,hw⟩=>⟨he,by rw[hw];exact fr_grow w k os⟩
theorem PowTab.fr {w w':WL}(h:PowTab w)(hf:Fr [] w w'):PowTab w':=Lib.tabBelow_of_tabIs h w' (hf.below (Nat.le_refl _) (by simp))
theorem clamp_any (n:Int)(W:WL):Calls prog 281 #[iA n] W fun e W'=>e=.returned (iA (clampN n))∧W'=W:=by
 have h:max (-1000000000) (min n 1000000000)=clampN n:=by unfold clampN;split <;> (try split) <;> omega
 rw[← h];clear h;go_enter func281,ntmps281;go_wp2;go_ret;exact⟨rfl,rfl⟩
theorem numberV_any (n:Int)(W:WL):Calls prog 274 #[iA n] W fun e W'=>e=.returned (vlV 1 n ⟨#[]⟩)∧Fr [] W W':=by
 go_enter func274,ntmps274;go_wp2;refine bodyPost_ret (v:=vlV 1 n ⟨#[]⟩) (by simp[results,results274,go_sem]) rfl ?_;exact⟨rfl,(Fr.refl [] W).alloc _⟩
theorem textV_any (s:BA)(W:WL):Calls prog 275 #[.string s] W fun e W'=>e=.returned (vlV 2 0 s)∧Fr [] W W':=by
 go_enter func275,ntmps275;go_wp2;refine bodyPost_ret (v:=vlV 2 0 s) (by simp[results,results275,go_sem]) rfl ?_;exact⟨rfl,(Fr.refl [] W).alloc _⟩
theorem cells3 {w:WL}{b:Nat}{x y z:Value}{t:TypeId} (h:w.heap[b]?=some (.cells #[x,y,z] t)):(w.cell? (Ad b 0)=some x∧w.cell? (Ad b 1)=some y∧w.cell? (Ad b 2)=some z)∧w.frozen? (Ad b 0)=false∧w.frozen? (Ad b 1)=false∧w.frozen? (Ad b 2)=false:=by
 refine⟨⟨?_,?_,?_⟩,?_,?_,?_⟩ <;> first | (unfold World.cell?;rw[h];rfl) | (unfold World.frozen?;rw[h];simp)
theorem cell_setA {w:WL}{p:Addr}{v u:Value} (h:w.cell? p=some v):(w.setCell p u).cell? p=some u:=World.cell?_setCell_same' _ _ _ (by rw[h];rfl)
theorem set3 {w:WL}{b:Nat}{x y z x' y' z':Value} (h:w.cell? (Ad b 0)=some x∧w.cell? (Ad b 1)=some y∧w.cell? (Ad b 2)=some z):∃ w',((w.setCell ⟨b,0,none⟩ x').setCell ⟨b,1,none⟩ y').setCell ⟨b,2,none⟩ z'=w'∧w'.cell? (Ad b 0)=some x'∧w'.cell? (Ad b 1)=some y'∧w'.cell? (Ad b 2)=some z'∧Fr [b] w w':=by
 obtain⟨h0,h1,h2⟩:=h;refine⟨_,rfl,?_,?_,?_,(((Fr.refl [b] w).setCell (.inl (by simp)) _).setCell (.inl (by simp)) _).setCell (.inl (by simp)) _⟩
 ·rw[setCell_off (by decide),setCell_off (by decide)];exact cell_setA h0
 ·rw[setCell_off (by decide)];exact cell_setA (by rw[setCell_off (by decide)];exact h1)
 exact cell_setA (by rw[setCell_off (by decide),setCell_off (by decide)];exact h2)
theorem truth_any (b:Bool)(W:WL):Calls prog 278 #[.bool b] W fun e W'=>e=.returned (vlV 1 (truth b) ⟨#[]⟩)∧Fr [] W W':=by
 have HN:Hid _:=fun (n:Int) (W:WL)=>numberV_any n W;obtain⟨W1,hW1⟩:=eXi (W.alloc (.cells #[.int .u8 0,iA 0,.string ⟨#[]⟩] 221));have F1:=frA hW1
 have k1:=kA hW1;have l1:=(Age.1 k1).1;cases b
 ·go_enter func278,ntmps278;go_wp2_with fail;refine (HN.out _ _).mono ?_;rintro e W2 ⟨rfl,F2⟩;obtain⟨hy,z0,z1,z2⟩:=cells3 ((F2.block _ l1 (by simp)).trans k1);have F3:=F1.trans F2;obtain⟨W3,hW3,r0,r1,r2,F4⟩:=set3 (x':=.int .u8 1) (y':=iA 0) (z':=.string ⟨#[]⟩) hy;obtain⟨y0,y1,y2⟩:=hy;clear k1 F1 F2 l1 HN hW1;go_wp2;refine bodyPost_ret (v:=vlV 1 _ ⟨#[]⟩) (by simp[results,results278,go_sem,r0,r1,r2];rfl) rfl ?_;exact⟨rfl,F3.trans' F4 (by simp)⟩
 go_enter func278,ntmps278;go_wp2_with fail;refine (HN.out _ _).mono ?_;rintro e W2 ⟨rfl,F2⟩;obtain⟨hy,z0,z1,z2⟩:=cells3 ((F2.block _ l1 (by simp)).trans k1);have F3:=F1.trans F2;obtain⟨W3,hW3,r0,r1,r2,F4⟩:=set3 (x':=.int .u8 1) (y':=iA 1) (z':=.string ⟨#[]⟩) hy;obtain⟨y0,y1,y2⟩:=hy;clear k1 F1 F2 l1 HN hW1;go_wp2;refine bodyPost_ret (v:=vlV 1 _ ⟨#[]⟩) (by simp[results,results278,go_sem,r0,r1,r2];rfl) rfl ?_;exact⟨rfl,F3.trans' F4 (by simp)⟩
theorem box_cells (W:WL)(k n:Int)(s:BA):∃ W1,W.alloc (.cells #[.int .u8 k,iA n,.string s] 221)=W1∧Fr [] W W1∧W1.cell? (Ad W.heap.size 0)=some (.int .u8 k)∧W1.cell? (Ad W.heap.size 1)=some (iA n)∧W1.cell? (Ad W.heap.size 2)=some (.string s)∧W.heap.size<W1.heap.size:=by
 have k1:=wan W (.cells #[.int .u8 k,iA n,.string s] 221);refine⟨_,rfl,(Fr.refl [] W).alloc _,?_,?_,?_,by simp⟩ <;> (unfold World.cell?;rw[k1];rfl)
theorem vnum_any (k n:Int)(s:BA)(hs:s.size≤1048576)(W:WL):Calls prog 213 #[vlV k n s] W fun e W'=>e=.returned (iA (if k=2 then numT s else n))∧Fr [] W W':=by
 obtain⟨W1,hW1,F1,c0,c1,c2,-⟩:=box_cells W k n s;have HS:Hid _:=fun (W:WL)=>scan_any s hs W;have HC:Hid _:=fun (n:Int) (W:WL)=>clamp_any n W;by_cases hk:k=2
 ·subst hk;have HF:Hid _:=F1;clear F1;go_enter func213,ntmps213;go_wp2_with fail;refine (HS.out _).mono ?_;rintro e W2 ⟨rfl,F2⟩;replace HF:Hid _:=HF.out.trans F2;clear F2 c0 c1 c2;go_wp2_with (refine (HC.out _ _).mono ?_;rintro e w' ⟨rfl,rfl⟩);go_ret;exact⟨rfl,HF.out⟩
 have g:(k != 2)=true:=by simpa using hk
 rw[if_neg hk];go_enter func213,ntmps213;go_wp2_with fail;go_ret;exact⟨rfl,F1⟩
theorem vtext_any (k n:Int)(s:BA)(h0:-9223372036854775808≤n)(h1:n≤9223372036854775807)(W:WL)(hp:PowTab W):Calls prog 214 #[vlV k n s] W fun e W'=>e=.returned (.string (if k=1 then itoaB n else s))∧Fr [] W W':=by
 obtain⟨W1,hW1,F1,c0,c1,c2,-⟩:=box_cells W k n s;have HI:Hid _:=fun (_:Unit)=>itoa_any n W1 h0 h1 (hp.fr F1);have HF:Hid _:=F1;clear F1 hp;by_cases hk:k=1
 ·subst hk;go_enter func214,ntmps214;go_wp2_with fail;refine (HI.out ()).mono ?_;rintro e W2 ⟨rfl,F2⟩;go_wp2_with fail;go_ret;exact⟨rfl,HF.out.trans F2⟩
 have g:(k==1)=false:=by simpa using hk
 rw[if_neg hk];go_enter func214,ntmps214;go_wp2_with fail;go_ret;exact⟨rfl,HF.out⟩
def holdC (k n:Int) (s:BA):Bool:=if k=2 then !s.toList.isEmpty else n != 0
theorem isEmpty_size (s:BA):(!s.toList.isEmpty)=decide (s.size≠0):=by
 rcases Nat.eq_zero_or_pos s.size with h | h
 ·rw[ByteArray.toList_eq,show s.data.toList=[] from bl_nil h];simp[h]
 have:s.size≠0:=by omega
 rw[toList_is h,decide_eq_true this];rfl
theorem holdC_v (v:Val):holdC v.kind (vN v) (vS v)=holdsV v:=by
 unfold holdC holdsV;by_cases h:v.kind=2
 ·rw[if_pos (by omega),if_pos h,isEmpty_size];simp[vS,h]
 rw[if_neg (by omega),if_neg h];unfold vN numV;by_cases h0:v.kind=0
 ·simp[h0]
 by_cases h1:v.kind=1
 ·simp only[h1];by_cases h3:v.n=0 <;> simp[h3]
 simp[h0,h1,h];by_cases h3:numT v.s=0 <;> simp[h3]
theorem vholds_any (k n:Int)(s:BA)(W:WL):Calls prog 215 #[vlV k n s] W fun e W'=>e=.returned (.bool (holdC k n s))∧Fr [] W W':=by
 obtain⟨W1,hW1,F1,c0,c1,c2,-⟩:=box_cells W k n s;by_cases hk:k=2
 ·subst hk;go_enter func215,ntmps215;go_wp2_with fail;go_ret;exact⟨rfl,F1⟩
 have g:(k==2)=false:=by simpa using hk
 rw[show holdC k n s=(n != 0) by unfold holdC;rw[if_neg hk]];go_enter func215,ntmps215;go_wp2_with fail;go_ret;exact⟨rfl,F1⟩
theorem vN_sm {v:Val}(h:SmV v):-1000000000≤vN v∧vN v≤1000000000:=by
 obtain⟨h1,h2,h3⟩:=h;unfold vN;split
 ·exact⟨h1,h2⟩
 split
 ·decide
 exact clamp_sm _
theorem vS_sm {v:Val}(h:SmV v):(vS v).size≤100:=by
 unfold vS;split
 ·decide
 exact h.3
theorem num_v {v:Val}(h:SmV v)(W:WL):Calls prog 213 #[vV v] W fun e W'=>e=.returned (iA (numV v))∧Fr [] W W':=by
 refine (vnum_any _ _ _ (by have:=vS_sm h;omega) W).mono fun e W' ⟨he,hf⟩=>⟨?_,hf⟩;rw[he];congr 2;unfold vN vS numV;by_cases h0:v.kind=0
 ·simp[h0]
 by_cases h1:v.kind=1
 ·simp[h1]
 by_cases h2:v.kind=2
 ·simp[h2]
 simp[h0,h1,h2]
 try omega
theorem text_v {E:Env}(hE:E.itoa=itoaB){v:Val}(h:SmV v)(W:WL)(hp:PowTab W):Calls prog 214 #[vV v] W fun e W'=>e=.returned (.string (textV E v))∧Fr [] W W':=by
 have hn:=vN_sm h;refine (vtext_any _ _ _ (by omega) (by omega) W hp).mono fun e W' ⟨he,hf⟩=>⟨?_,hf⟩;rw[he];congr 2;unfold vN vS textV;rw[hE];by_cases h0:v.kind=0
 ·simp[h0];rfl
 by_cases h1:v.kind=1
 ·simp[h1]
 simp[h0,h1]
 try omega
theorem holds_v (v:Val)(W:WL):Calls prog 215 #[vV v] W fun e W'=>e=.returned (.bool (holdsV v))∧Fr [] W W':=by
 rw[← holdC_v];exact vholds_any _ _ _ W
theorem cmpL_lib (a b:LB):Lib.compareBytes a b=cmpL a b:=by
 induction a generalizing b with
 | nil=>cases b <;> rfl
 | cons x a ih=>
  cases b with
  | nil=>rfl
  | cons y b=>
   unfold Lib.compareBytes cmpL;rw[ih];rfl
theorem cmpI_lib (x y:Int):Lib.compareInt x y=cmpI x y:=rfl
theorem compareV_any (k n:Int)(s:BA)(k' n':Int)(s' x x':BA)(W:WL)(ht:∀ w,Fr [] W w→Calls prog 214 #[vlV k n s] w fun e W'=>e=.returned (.string x)∧Fr [] w W')(ht':∀ w,Fr [] W w→Calls prog 214 #[vlV k' n' s'] w fun e W'=>e=.returned (.string x')∧Fr [] w W') :
  Calls prog 216 #[vlV k n s,vlV k' n' s'] W fun e W'=>e=.returned (iA (if k=2∨k'=2 then Lib.compareBytes x.data.toList x'.data.toList else Lib.compareInt n n'))∧Fr [] W W':=by
 have hm:=hmX
 obtain⟨W1,hW1,F1,c0,c1,c2,l1⟩:=box_cells W k n s;obtain⟨W2,hW2,F2,d0,d1,d2,l2⟩:=box_cells W1 k' n' s';have HT:Hid _:=ht;have HT':Hid _:=ht';have HC:Hid _:=fun (a b:BA) (w:WL)=>strings_Compare a b w;have HI:Hid _:=fun (a b:Int) (w:WL)=>cmp_Compare_int a b w;have CC:∀ w,Fr [] W2 w→w.cell? (Ad W.heap.size 0)=some (.int .u8 k)∧w.cell? (Ad W.heap.size 1)=some (iA n)∧w.cell? (Ad W.heap.size 2)=some (.string s) ∧
   w.cell? (Ad W1.heap.size 0)=some (.int .u8 k')∧w.cell? (Ad W1.heap.size 1)=some (iA n')∧w.cell? (Ad W1.heap.size 2)=some (.string s'):=fun w hw=>by
  have f:=F2.trans hw;refine⟨?_,?_,?_,?_,?_,?_⟩
  ·exact (f.cell (p:=Ad W.heap.size 0) l1 (by simp)).trans c0
  ·exact (f.cell (p:=Ad W.heap.size 1) l1 (by simp)).trans c1
  ·exact (f.cell (p:=Ad W.heap.size 2) l1 (by simp)).trans c2
  ·exact (hw.cell (p:=Ad W1.heap.size 0) l2 (by simp)).trans d0
  ·exact (hw.cell (p:=Ad W1.heap.size 1) l2 (by simp)).trans d1
  exact (hw.cell (p:=Ad W1.heap.size 2) l2 (by simp)).trans d2
 obtain⟨a0,a1,a2,b0,b1,b2⟩:=CC W2 (Fr.refl _ _);have F02:=F1.trans F2;have HZ:Hid _:=AI CC F02;clear CC F1 F2 F02 l1 l2 c0 c1 c2 d0 d1 d2 ht ht';by_cases hk:k=2∨k'=2
 ·rw[if_pos hk];have hb:((k==2)=true)∨((k==2)=false∧(k'==2)=true):=by
   rcases Int.decEq k 2 with h | h
   ·exact .inr ⟨by simpa using h,by simpa using hk.resolve_left h⟩
   exact .inl (by simpa using h)
  clear hk;rcases hb with g1 | ⟨g1,g2⟩
  all_goals
   go_enter func216,ntmps216;go_wp2_with fail;refine wp_region_heldD (fun w=>Fr [] W2 w) hm ?_;have hS:Fr [] W2 W2.drew:=(Fr.refl _ _).drew;refine wpAnyH_take (i:=0) (v:=?_) rfl (by kernel_rfl) (by kernel_rfl) (by kernel_rfl) (fun _ _ _ h=>h) (.inl ⟨rfl,fun w1 hS1=>?_⟩) hS ?_;rotate_left
   ·obtain⟨q0,q1,q2,-,-,-⟩:=HZ.out.1 w1 hS1;go_simp;rfl
   simp only[Act.put,Zp,Zq];refine wpAnyH_take (i:=2) (v:=?_) rfl (by kernel_rfl) (by kernel_rfl) (by kernel_rfl) (fun _ _ _ h=>h) (.inl ⟨rfl,fun w1 hS1=>?_⟩) hS ?_;rotate_left
   ·obtain⟨-,-,-,q0,q1,q2⟩:=HZ.out.1 w1 hS1;go_simp;rfl
   simp only[Act.put,Zp,Zq];refine rd1 (r:=1) (by kernel_rfl) rfl fun K hK=>?_;go_simp;refine (HT.out _ (HZ.out.2.trans hS)).mono ?_;rintro e w2 ⟨rfl,f2⟩;refine hK _ _ (hS.trans f2) ?_;clear hK K;intro _;have hS2:=hS.trans f2;refine rd1 (r:=3) (by kernel_rfl) rfl fun K hK=>?_;go_simp;refine (HT'.out _ (HZ.out.2.trans hS2)).mono ?_;rintro e w3 ⟨rfl,f3⟩;refine hK _ _ (hS2.trans f3) ?_;clear hK K;intro _;refine rd1 (r:=4) (by kernel_rfl) rfl fun K hK=>?_;go_simp;refine (HC.out _ _ _).mono ?_;rintro e w4 ⟨rfl,rfl⟩;refine hK _ _ (hS2.trans f3) ?_;clear hK K;intro _;refine rd1 (r:=5) (by kernel_rfl) rfl fun K hK=>?_;go_simp;refine hK _ _ (hS2.trans f3) ?_;clear hK K;intro _;refine wpAnyH_done (by kernel_rfl) ?_ _;go_wp2_with fail;go_ret;refine⟨?_,HZ.out.2.trans (hS2.trans f3)⟩;rfl
 rw[if_neg hk];have g1:(k==2)=false:=by simpa using fun h=>hk (.inl h)
 have g2:(k'==2)=false:=by simpa using fun h=>hk (.inr h)
 clear hk;go_enter func216,ntmps216;go_wp2_with (refine (HI.out _ _ _).mono ?_;rintro e w' ⟨rfl,rfl⟩);go_ret;exact⟨rfl,HZ.out.2⟩
theorem compare_v {E:Env}(hE:E.itoa=itoaB){u v:Val}(hu:SmV u)(hv:SmV v)(W:WL)(hp:PowTab W):Calls prog 216 #[vV u,vV v] W fun e W'=>e=.returned (iA (cmpV E u v))∧Fr [] W W':=by
 refine (compareV_any _ _ _ _ _ _ (textV E u) (textV E v) W (fun w hw=>text_v hE hu w (hp.fr hw)) (fun w hw=>text_v hE hv w (hp.fr hw))).mono fun e W' ⟨he,hf⟩=>⟨?_,hf⟩;rw[he];congr 2;unfold cmpV;by_cases hk:u.kind=2∨v.kind=2
 ·rw[if_pos hk,if_pos (by omega)];exact cmpL_lib _ _
 rw[if_neg hk,if_neg (by omega),cmpI_lib];congr 1 <;> unfold numV vN <;> simp only[not_or] at hk <;> split <;> (try split) <;> simp_all
def rng (n:Nat) (f:Nat→LV):LV:=(List.range n).flatMap f
theorem rng_zero (f:Nat→LV):rng 0 f=[]:=rfl
theorem rng_succ (n:Nat)(f:Nat→LV):rng (n+1) f=rng n f++f n:=by
 unfold rng;rw[List.range_succ,List.flatMap_append];simp
theorem rng_len {n z:Nat}{f:Nat→LV} (hf:∀ j,j<n→(f j).length=z):(rng n f).length=n*z:=by
 induction n with
 | zero=>simp[rng]
 | succ n ih=>rw[rng_succ,Lla,ih (fun j hj=>hf j (by omega)),hf n (by omega),Nat.succ_mul]
theorem rng_congr {n:Nat}{f g:Nat→LV} (h:∀ j,j<n→f j=g j):rng n f=rng n g:=by
 induction n with
 | zero=>rfl
 | succ n ih=>rw[rng_succ,rng_succ,ih (fun j hj=>h j (by omega)),h n (by omega)]
theorem rng_get {n z:Nat}{f:Nat→LV} (hf:∀ j,j<n→(f j).length=z) {j t:Nat} (hj:j<n) (ht:t<z):(rng n f)[j*z+t]?=(f j)[t]?:=by
 induction n with
 | zero=>omega
 | succ n ih=>
  have hl:=rng_len (n:=n) (fun j hj=>hf j (by omega));rw[rng_succ];by_cases e:j<n
  ·have:j*z+t<n*z:=by
    have:(j+1)*z≤n*z:=Nat.mul_le_mul_right z e;rw[Nat.succ_mul] at this;omega
   rw[List.getElem?_append_left (by omega)];exact ih (fun j hj=>hf j (by omega)) e
  obtain rfl:j=n:=by omega
  rw[List.getElem?_append_right (by omega),hl];congr 1;omega
theorem rng_take {n m z:Nat}{f:Nat→LV} (hf:∀ j,j<n→(f j).length=z) (hm:m≤n):(rng n f).take (m*z)=rng m f:=by
 induction n with
 | zero=>
  obtain rfl:m=0:=by omega
  simp[rng]
 | succ n ih=>
  have hl:=rng_len (n:=n) (fun j hj=>hf j (by omega));by_cases e:m=n+1
  ·subst e;rw[List.take_of_length_le];rw[rng_len hf];exact Nat.le_refl _
  rw[rng_succ,List.take_append_of_le_length (by rw[hl];exact Nat.mul_le_mul_right z (by omega))];exact ih (fun j hj=>hf j (by omega)) (by omega)
theorem rng_set {n z:Nat}{f:Nat→LV} (hf:∀ j,j<n→(f j).length=z) {j t:Nat} (hj:j<n) (ht:t<z) (u:Value):(rng n f).set (j*z+t) u=rng n (up f j ((f j).set t u)):=by
 induction n with
 | zero=>omega
 | succ n ih=>
  have hl:=rng_len (n:=n) (fun j hj=>hf j (by omega));rw[rng_succ,rng_succ];by_cases e:j<n
  ·have:j*z+t<n*z:=by
    have:(j+1)*z≤n*z:=Nat.mul_le_mul_right z e;rw[Nat.succ_mul] at this;omega
   rw[List.set_append_left _ _ (by omega),ih (fun j hj=>hf j (by omega)) e,up_off _ _ (by omega)]
  obtain rfl:j=n:=by omega
  rw[List.set_append_right _ _ (by omega),hl,up_same];rw[rng_congr (g:=f) (fun i hi=>up_off _ _ (by omega))];congr 2;omega
def vC (v:Val):LV:=[.int .u8 v.kind,.int .i64 (vN v),.string (vS v)]
theorem vC_len (v:Val):(vC v).length=3:=rfl
abbrev ptr (b:Nat):Value:=.pointer (some ⟨b,0,none⟩)
def RoL (W:WL) (tag:NN) (v:Value) (xs:LV):Prop:=
 ∃ o c,v=.slice o xs.length c∧xs.length≤c∧c≤9223372036854775807∧(0<xs.length→∃ g off,o=some ⟨g,off,none⟩∧g<W.heap.size∧tag g=9∧∀ (i:Nat) (x:Value),xs[i]?=some x→W.cell? ⟨g,off+i,none⟩=some x)
theorem RoL.kp {W W':WL}{tag tag':NN}{v:Value}{xs:LV} (h:RoL W tag v xs) (k:Kp tag tag' W W'):RoL W' tag' v xs:=by
 obtain⟨o,c,h1,h2,h2',h3⟩:=h;refine⟨o,c,h1,h2,h2',fun h0=>?_⟩;obtain⟨g,off,e1,e2,e3,e4⟩:=h3 h0;exact⟨g,off,e1,Nll e2 k.size,(k.ret g e2).trans e3,fun i x hx=>(k.cell (p:=Ad g (off+i)) e2 (by show tag g<10;omega)).trans (e4 i x hx)⟩
def celC (p:Value) (c:Cell):LV:=if c.list=true then [.int .u8 0,.int .i64 0,.string ⟨#[]⟩,p] else [.int .u8 c.v.kind,.int .i64 (vN c.v),.string (vS c.v),.pointer none]
theorem celC_len (p:Value)(c:Cell):(celC p c).length=4:=by unfold celC;split <;> rfl
def stkC (pw:NN) (l:List Cell):LV:=rng l.length fun j=>celC (ptr (pw j)) (l.getD j c0)
theorem stkC_len (pw:NN)(l:List Cell):(stkC pw l).length=l.length*4:=rng_len fun _ _=>celC_len _ _
theorem stkC_push (pw:NN)(l:List Cell)(c:Cell):stkC pw (l++[c])=stkC pw l++celC (ptr (pw l.length)) c:=by
 unfold stkC;rw[Lla,List.length_singleton,rng_succ];congr 1
 ·refine rng_congr fun j hj=>?_;rw[List.getD_eq_getElem?_getD,List.getD_eq_getElem?_getD,List.getElem?_append_left hj]
 rw[List.getD_eq_getElem?_getD,List.getElem?_append_right (Nat.le_refl _)];simp
theorem stkC_pop (pw:NN)(l:List Cell)(c:Cell):(stkC pw (l++[c])).take (l.length*4)=stkC pw l:=by
 rw[stkC_push,List.take_append_of_le_length (by rw[stkC_len];exact Nat.le_refl _),List.take_of_length_le (by rw[stkC_len];exact Nat.le_refl _)]
theorem stkC_last (pw:NN)(l:List Cell)(c:Cell)(t:Nat)(ht:t<4):(stkC pw (l++[c]))[l.length*4+t]?=(celC (ptr (pw l.length)) c)[t]?:=by
 rw[stkC_push,List.getElem?_append_right (by rw[stkC_len];omega),stkC_len];congr 1;omega
def locC (l:List Val):LV:=rng 16 fun i=>vC (l.getD i nothing)
theorem locC_len (l:List Val):(locC l).length=48:=rng_len fun _ _=>vC_len _
structure FrX where
 cv:Value
 ix:Nat
 sv:Value
 pw:Nat→Nat
def fr0:Frm:=⟨0,0,[],[]⟩
def frC (x:FrX) (f:Frm):LV:=[x.cv,.int .i64 x.ix]++locC f.locs++[x.sv]
theorem frC_len (x:FrX)(f:Frm):(frC x f).length=51:=by simp[frC,locC_len]
theorem frC_stk (x:FrX)(f:Frm):(frC x f)[50]?=some x.sv:=by
 unfold frC;rw[List.getElem?_append_right (by simp[locC_len])];simp[locC_len]
theorem set4 {w:WL}{b:Nat}{x y z u x' y' z' u':Value} (h:w.cell? (Ad b 0)=some x∧w.cell? (Ad b 1)=some y∧w.cell? (Ad b 2)=some z∧w.cell? (Ad b 3)=some u):∃ w',(((w.setCell ⟨b,0,none⟩ x').setCell ⟨b,1,none⟩ y').setCell ⟨b,2,none⟩ z').setCell ⟨b,3,none⟩ u'=w'∧w'.cell? (Ad b 0)=some x'∧w'.cell? (Ad b 1)=some y'∧w'.cell? (Ad b 2)=some z'∧w'.cell? (Ad b 3)=some u'∧Fr [b] w w':=by
 obtain⟨h0,h1,h2,h3⟩:=h;refine⟨_,rfl,?_,?_,?_,?_,((((Fr.refl [b] w).setCell (.inl (by simp)) _).setCell (.inl (by simp)) _).setCell (.inl (by simp)) _).setCell (.inl (by simp)) _⟩
 ·rw[setCell_off (by decide),setCell_off (by decide),setCell_off (by decide)];exact cell_setA h0
 ·rw[setCell_off (by decide),setCell_off (by decide)];exact cell_setA (by rw[setCell_off (by decide)];exact h1)
 ·rw[setCell_off (by decide)];exact cell_setA (by rw[setCell_off (by decide),setCell_off (by decide)];exact h2)
 exact cell_setA (by rw[setCell_off (by decide),setCell_off (by decide),setCell_off (by decide)];exact h3)
theorem cells4 {w:WL}{b:Nat}{x y z u:Value}{t:TypeId} (h:w.heap[b]?=some (.cells #[x,y,z,u] t)):(w.cell? (Ad b 0)=some x∧w.cell? (Ad b 1)=some y∧w.cell? (Ad b 2)=some z∧w.cell? (Ad b 3)=some u)∧w.frozen? (Ad b 0)=false∧w.frozen? (Ad b 1)=false∧w.frozen? (Ad b 2)=false∧w.frozen? (Ad b 3)=false:=by
 refine⟨⟨?_,?_,?_,?_⟩,?_,?_,?_,?_⟩ <;> first | (unfold World.cell?;rw[h];rfl) | (unfold World.frozen?;rw[h];simp)
theorem top_any (g o gs n cs:Nat)(a b:Int)(s:BA)(p:OA)(W:WL)(hs:W.cell? (Ad g (o+50))=some (.slice (some (Ad gs 0)) (n+1) cs))(hn:n<4000)
  (h0:W.cell? (Ad gs (n*4))=some (.int .u8 a)) (h1:W.cell? (Ad gs (n*4+1))=some (iA b)) (h2:W.cell? (Ad gs (n*4+2))=some (.string s)) (h3:W.cell? (Ad gs (n*4+3))=some (.pointer p)) :
  Calls prog 201 #[.pointer (some (Ad g o))] W fun e W'=>e=.returned (.agg #[.int .u8 a,iA b,.string s,.pointer p])∧Fr [] W W':=by
 have hm:=hmX
 obtain⟨W1,hW1⟩:=eXi (W.alloc (.cells #[.int .u8 0,iA 0,.string ⟨#[]⟩,.pointer none] 306));have F1:=frA hW1
 have k1:=kA hW1;have q0:=(F1.cell (p:=Ad g (o+50)) (lt_of_cell hs) (by simp)).trans hs;have r0:=(F1.cell (p:=Ad gs (n*4)) (lt_of_cell h0) (by simp)).trans h0;have r1:=(F1.cell (p:=Ad gs (n*4+1)) (lt_of_cell h1) (by simp)).trans h1;have r2:=(F1.cell (p:=Ad gs (n*4+2)) (lt_of_cell h2) (by simp)).trans h2;have r3:=(F1.cell (p:=Ad gs (n*4+3)) (lt_of_cell h3) (by simp)).trans h3;obtain⟨hy,z0,z1,z2,z3⟩:=cells4 k1;obtain⟨W2,hW2,u0,u1,u2,u3,F2⟩:=set4 (x':=.int .u8 a) (y':=iA b) (z':=.string s) (u':=.pointer p) hy;obtain⟨y0,y1,y2,y3⟩:=hy;clear hs h0 h1 h2 h3;have HF:Hid _:=(F1.trans' F2 (by simp)).drew;clear F2;clear F1 k1;have hw64:IntKind.i64.wrap (n:Int)=n:=by rw[IntKind.wrap_i64];omega
 have hlt:(n:Int)<(n:Int)+1:=by omega
 go_enter func201,ntmps201;go_wp2_with fail;refine wp_region_tail 12 hm (by kernel_rfl) ?_;simp only[Zt]
 repeat still_step
 refine wpStill_nil ?_;go_wp2_with fail;refine bodyPost_ret (v:=.agg #[.int .u8 a,iA b,.string s,.pointer p]) (by simp[results,results201,go_sem,u0,u1,u2,u3]) rfl ?_;exact⟨rfl,HF.out⟩
theorem field_cell (a b:Int)(s:BA)(p:OA)(w:WL):(Instr.field 306 (.agg #[.int .u8 a,iA b,.string s,.pointer p]) 0).run prog w=.ok (vlV a b s) w:=by
 kernel_rfl
theorem setCell_congr {W V:WL}{g o:Nat}{v:Value} (h:V.heap[g]?=W.heap[g]?):(V.setCell ⟨g,o,none⟩ v).heap[g]?=(W.setCell ⟨g,o,none⟩ v).heap[g]?:=by
 unfold World.setCell;simp only[Array.getElem?_modify,h]
def Set1 (W:WL) (g o:Nat) (v:Value) (W':WL):Prop:=Fr [] (W.setCell ⟨g,o,none⟩ v) W'
theorem Set1.of {W V W':WL}{g o:Nat}{v:Value}{S:LN} (h:Fr [] W V) (h':Fr S (V.setCell ⟨g,o,none⟩ v) W') (hg:g<W.heap.size) (hS:∀ x ∈ S,W.heap.size≤x):Set1 W g o v W':=by
 have hs:(W.setCell ⟨g,o,none⟩ v).heap.size=W.heap.size:=by simp[World.setCell]
 have hs':(V.setCell ⟨g,o,none⟩ v).heap.size=V.heap.size:=by simp[World.setCell]
 have h1:=h.size;refine⟨h'.os.trans h.os,h'.tape.trans h.tape,h'.output.trans h.output,by have:=h'.size;omega,fun k hk _=>?_⟩;refine (h'.block k (by omega) (fun hx=>by have:=hS k hx;omega)).trans ?_;by_cases e:k=g
 ·subst e;exact setCell_congr (h.block k (by omega) (by simp))
 rw[Below.heap_setCell _ _ _ _ (by simpa using e),Below.heap_setCell _ _ _ _ (by simpa using e)];exact h.block k (by omega) (by simp)
def PopP (g o gs n cs:Nat) (a b:Int) (s:BA) (W:WL) (e:Ending) (W':WL):Prop:=
 e=.returned (vlV a b s)∧Set1 W g (o+50) (.slice (some ⟨gs,0,none⟩) n cs) W'
theorem popA_any (g o gs n cs:Nat)(a b:Int)(s:BA)(p:OA)(W:WL)(hs:W.cell? (Ad g (o+50))=some (.slice (some (Ad gs 0)) (n+1) cs))(hz:W.frozen? (Ad g (o+50))=false)(hn:n<4000)(hc:n+1≤cs)
  (h0:W.cell? (Ad gs (n*4))=some (.int .u8 a)) (h1:W.cell? (Ad gs (n*4+1))=some (iA b)) (h2:W.cell? (Ad gs (n*4+2))=some (.string s)) (h3:W.cell? (Ad gs (n*4+3))=some (.pointer p)) :
  Calls prog 196 #[.pointer (some (Ad g o))] W (PopP g o gs n cs a b s W):=by
 have hm:=hmX
 obtain⟨W1,hW1⟩:=eXi (W.alloc (.cells #[.int .u8 0,iA 0,.string ⟨#[]⟩] 221));have F1:=frA hW1
 have k1:=kA hW1;have l1:=(Age.1 k1).1;have HT:Hid _:=fun (_:Unit)=>top_any g o gs n cs a b s p W1 ((F1.cell (p:=Ad g (o+50)) (lt_of_cell hs) (by simp)).trans hs) hn ((F1.cell (p:=Ad gs (n*4)) (lt_of_cell h0) (by simp)).trans h0) ((F1.cell (p:=Ad gs (n*4+1)) (lt_of_cell h1) (by simp)).trans h1) ((F1.cell (p:=Ad gs (n*4+2)) (lt_of_cell h2) (by simp)).trans h2) ((F1.cell (p:=Ad gs (n*4+3)) (lt_of_cell h3) (by simp)).trans h3);clear h0 h1 h2 h3;have hw64:IntKind.i64.wrap (n:Int)=n:=by rw[IntKind.wrap_i64];omega
 have hfd:=field_cell a b s p;have hcs:(n:Int)≤cs:=by omega
 have hn0:(0:Int)≤n:=by omega
 go_enter func196,ntmps196;go_wp2_with fail;refine (HT.out ()).mono ?_;rintro e W2 ⟨rfl,F2⟩;clear HT;obtain⟨W3,hW3,F3,x0,x1,x2,l3⟩:=box_cells W2 a b s;have F13:=F2.trans F3;have F03:=F1.trans F13;have q0:=(F03.cell (p:=Ad g (o+50)) (lt_of_cell hs) (by simp)).trans hs;have q1:=(F03.frozen (p:=Ad g (o+50)) (lt_of_cell hs) (by simp)).trans hz;have k3:=(F13.block _ l1 (by simp)).trans k1;have hgl:=lt_of_cell hs;simp only at hgl;have hs2:=F1.size;have hs3:=F2.size;obtain⟨W4,hW4⟩:=eXi (W3.setCell ⟨g,o+50,none⟩ (.slice (some ⟨gs,0,none⟩) n cs));have F4:Fr [g] W3 W4:=by rw[← hW4];exact (Fr.refl [g] W3).setCell (.inl (by simp)) _
 have y0:=(F4.cell (p:=Ad W2.heap.size 0) l3 (by simp;omega)).trans x0;have y1:=(F4.cell (p:=Ad W2.heap.size 1) l3 (by simp;omega)).trans x1;have y2:=(F4.cell (p:=Ad W2.heap.size 2) l3 (by simp;omega)).trans x2;obtain⟨hc4,z0,z1,z2⟩:=cells3 ((F4.block W.heap.size (by have:=F13.size;omega) (by simp;omega)).trans k3);obtain⟨W5,hW5,u0,u1,u2,F5⟩:=set3 (x':=.int .u8 a) (y':=iA b) (z':=.string s) hc4;obtain⟨c0,c1,c2⟩:=hc4;have HR:Hid (Set1 W g (o+50) (.slice (some (Ad gs 0)) n cs) W5.drew):=by
  refine Set1.of F03 (S:=[W.heap.size]) ?_ hgl (by simp);rw[hW4];exact F5.drew
 clear F4 F5 k3 k1 x0 x1 x2 F13 F03 F1 F2 F3 hW1 l1 l3 hs hz hgl;go_wp2_with fail;refine wp_region_tail 14 hm (by kernel_rfl) ?_;simp only[Zt]
 repeat still_step
 refine wpStill_nil ?_;go_wp2_with fail;refine bodyPost_ret (v:=vlV a b s) (by simp[results,results196,go_sem,u0,u1,u2]) rfl ?_;exact⟨rfl,HR.out⟩
theorem infoC:(prog.info? 306).map (fun i=>(i.zero,i.size,i.bytes))=some (some (.agg #[.int .u8 0,iA 0,.string ⟨#[]⟩,.pointer none]),4,40):=by kernel_rfl
theorem cells_new (w:WL)(vs:Array Value)(t:TypeId):∀ j u,vs.toList[j]?=some u→(w.alloc (.cells vs t)).cell? (((Ad w.heap.size 0):Addr).add j)=some u:=by
 intro j u hj;rw[add_plainA];unfold World.cell?;rw[wan w (.cells vs t)];simpa using hj
theorem oper_appendB {o:Oper}{a:Act}{w w':WL}{K:Act→WL→Prop}{Q:Exit→Act→WL→Prop} (s x:Operand) (t:TypeId) (ho:o.op=.call { callee:=.builtin .append,args:=#[s,x],argTypes:=#[t,t] }) (v u r:Value) (hs:a.eval s=v) (hx:a.eval x=u)
  (hr:(Builtin.append_ #[t,t] o.type #[v,u]).run prog w=.ok r w') (h:K (a.put o.dst r) w'):o.wp prog a w K Q:=by
 unfold Oper.wp execOp;simp only[ho,resolve,invoke,builtin,Sem.run_bind,Sem.run_pure,Result.andThen_ok,List.map_toArray,List.map_cons,List.map_nil,hs,hx,hr];exact h
theorem build_cell (a b:Int)(s:BA)(w:WL):(Instr.build 306 #[(0,vlV a b s)]).run prog w=.ok (.agg #[.int .u8 a,iA b,.string s,.pointer none]) w:=by
 kernel_rfl
theorem buildS_cell (a b:Int)(s:BA)(p:OA)(w:WL):(Instr.buildSlice 223 1 #[(0,.agg #[.int .u8 a,iA b,.string s,.pointer p])]).run prog w=.ok (.slice (some (Ad w.heap.size 0)) 1 1) (w.alloc (.cells #[.int .u8 a,iA b,.string s,.pointer p] 306)):=by
 kernel_rfl
section
variable {W:WL}{tag:NN}{lv:Nat→Bool}{R:Nat→Rw}{mp:Nat→Option (Nat × List (Value × Value))}
def PshP (W:WL) (tag:NN) (lv:Nat→Bool) (R:Nat→Rw) (mp:Nat→Option (Nat × List (Value × Value))) (m g n cap j h:Nat) (xs ys news:LV) (e:Ending) (W':WL):Prop:=
 e=.returned (.tuple #[])∧∃ tag' sv',Sto W' tag' lv (up (up R m ⟨sv',306,4,h+1,ys++news⟩) 11 ⟨.slice (some ⟨g,0,none⟩) n cap,225,51,n,xs.set j sv'⟩) mp∧Kp tag tag' W W'
theorem pushA_any (hS:Sto W tag lv R mp){m k g n cap h:Nat}{xs ys:LV}{sv:Value} (l11:lv 11=true) (r11:R 11=⟨.slice (some (Ad g 0)) n cap,225,51,n,xs⟩) (hk:k<n) (hm11:m≠11) (lm:lv m=true) (rm:R m=⟨sv,306,4,h,ys⟩) (hx:xs[k*51+50]?=some sv) (hh:h<2000) (a b:Int) (s:BA) :
  Calls prog 195 #[.pointer (some (Ad g (k*51))),vlV a b s] W (PshP W tag lv R mp m g n cap (k*51+50) h xs ys [.int .u8 a,iA b,.string s,.pointer none]):=by
 have hm:=hmX
 obtain⟨i0,hi,hz0,hz1,hz2⟩:=info_parts infoC;have o11:W.ownsRow 0 225 51 (.slice (some (Ad g 0)) n cap) n xs:=by have:=(hS.rows 11 l11).1;rw[r11] at this;exact this
 have om:W.ownsRow 0 306 4 sv h ys:=by have:=(hS.rows m lm).1;rw[rm] at this;exact this
 obtain⟨so,sc,rfl⟩:=own_form om;have hgl:g<W.heap.size:=(o11.lt g rfl).2;obtain⟨W1,hW1,F1,x0,x1,x2,l1⟩:=box_cells W a b s;have q0:W1.cell? (Ad g (k*51+50))=some (.slice so h sc):=(F1.cell (p:=Ad g (k*51+50)) hgl (by simp)).trans (own_cell o11 hx);obtain⟨WD,hWD⟩:=eXi (W1.drew);have FD:Fr [] W1 WD:=by rw[← hWD];exact (Fr.refl [] W1).drew
 have q0':WD.cell? (Ad g (k*51+50))=some (.slice so h sc):=by rw[← hWD];exact q0
 have x0':WD.cell? (Ad W.heap.size 0)=some (.int .u8 a):=by rw[← hWD];exact x0
 have x1':WD.cell? (Ad W.heap.size 1)=some (iA b):=by rw[← hWD];exact x1
 have x2':WD.cell? (Ad W.heap.size 2)=some (.string s):=by rw[← hWD];exact x2
 obtain⟨W3,hW3⟩:=eXi (WD.alloc (.cells #[.int .u8 a,iA b,.string s,.pointer none] 306));have F3:=frA hW3
 have F03:Fr [] W W3:=(F1.trans FD).trans F3;have hnews:=cells_new WD #[.int .u8 a,iA b,.string s,.pointer none] 306;rw[hW3] at hnews;have S3:=hS.frm F03 6;have om3:W3.ownsRow 0 306 4 (.slice so h sc) h ys:=by have:=(S3.rows m lm).1;rw[rm] at this;exact this
 obtain⟨v',W4,hr4,hown',hgrow,-,hwh⟩:=run_append_own_at (P:=prog) (w:=W3) 0 223 223 306 i0 _ 4 40 underlying223 hi hz0 hz1 hz2 rfl (by decide) _ _ _ om3 (Ad WD.heap.size 0) 1 1 [.int .u8 a,iA b,.string s,.pointer none] rfl hnews (by intro u hu;simp at hu;rcases hu with rfl | rfl | rfl | rfl <;> rfl) (by unfold maxLen;omega) (by omega) (Nat.zero_le _)
 obtain⟨vo,vc,rfl⟩:=own_form hown';obtain⟨S4,K4⟩:=S3.grow (i:=m) lm hown' (by rw[rm];exact hgrow) (by rw[rm];exact hwh);have r11':up R m ⟨.slice vo (h+1) vc,306,4,h+1,ys++[.int .u8 a,iA b,.string s,.pointer none]⟩ 11=⟨.slice (some (Ad g 0)) n cap,225,51,n,xs⟩:=by rw[up_off _ _ (by omega)];exact r11
 have hj:k*51+50<n*51:=by omega
 obtain⟨S5,K5⟩:=S4.put l11 r11' hj (.slice vo (h+1) vc);have o4:W4.ownsRow 0 225 51 (.slice (some (Ad g 0)) n cap) n xs:=by have:=(S4.rows 11 l11).1;rw[r11'] at this;exact this
 have c4:=own_cell o4 hx;have z4:=own_thaw o4 (k*51+50);have K:Kp tag _ W _:=((Kp.of_fr F03 (fun k hk=>newTag_old hk)).trans K4).trans K5;have HZ:Hid _:=AI S5 K;have Hr4:Hid _:=hr4;have H3:Hid _:=F3;have HQ:Hid _:=fun (w:WL) (hw:Fr [] WD w)=>AI ((hw.cell (p:=Ad g (k*51+50)) (lt_of_cell q0') (by simp)).trans q0') (AI ((hw.cell (p:=Ad W.heap.size 0) (lt_of_cell x0') (by simp)).trans x0') (AI ((hw.cell (p:=Ad W.heap.size 1) (lt_of_cell x1') (by simp)).trans x1') ((hw.cell (p:=Ad W.heap.size 2) (lt_of_cell x2') (by simp)).trans x2')));clear S5 K K5 K4 S4 S3 hown' hgrow hwh hr4 hnews om3 om o4 o11 hS r11 r11' rm lm l11 F1 F3 F03 FD hi hz0 hz1 hz2;have hbd:=build_cell a b s;have hbs:=buildS_cell a b s none;go_enter func195,ntmps195;go_wp2_with fail;refine wp_region_L (fun w=>Fr [] WD w) 8 hm ?_;rw[hWD];have hS:Fr [] WD WD:=Fr.refl _ _;refine wpAnyL_takesU (fuel:=8) [0,1,2,3] (by kernel_rfl) (fun _ _ _ _ _ h=>h) (.inr hS) ?_
 iterate 4
  refine Yls.cons (v:=?_) rfl (.inl ⟨rfl,fun w1 hS1=>?_⟩) ?_;rotate_left
  ·go_simp
   first | rfl | (refine (if_neg (by omega)).trans ?_;rfl)
  simp only[Act.put,Zp,Zq]
 refine Yls.nil ?_;refine wpAnyL_takes (fuel:=5) [4,5,6] (by kernel_rfl) (fun _ _ _ _ _ h=>h) hS ?_
 iterate 3
  refine Yls.cons (v:=?_) rfl (.inl ⟨rfl,fun w1 hS1=>?_⟩) ?_;rotate_left
  ·obtain⟨s0,s1,s2,s3⟩:=HQ.out _ hS1;go_simp
   first | rfl | (refine (if_neg (by omega)).trans ?_;rfl)
  simp only[Act.put,Zp,Zq]
 refine Yls.nil ?_;refine wpAnyL_ready (rs:=[7]) (by kernel_rfl) (by simp) ?_;refine AllReadyL.cons rfl (fun K hK=>?_) AllReadyL.nil;go_simp;refine hK _ _ (.inr H3.out) ?_;clear hK K
 try simp only[Act.put,Zp,Zq]
 refine wpAnyL_ready (rs:=[8]) (by kernel_rfl) (by simp) ?_;refine AllReadyL.cons rfl (fun K hK=>?_) AllReadyL.nil;refine oper_appendB (.tmp 8) (.tmp 11) 223 rfl _ _ _ rfl rfl Hr4.out ?_;refine hK _ _ (.inl rfl) ?_;clear hK K
 try simp only[Act.put,Zp,Zq]
 refine wpAnyL_takesU (fuel:=1) [9,10] (by kernel_rfl) (fun _ _ _ _ _ h=>h) (.inl rfl) ?_
 iterate 2
  refine Yls.cons (v:=?_) rfl (.inl ⟨rfl,fun w1 hS1=>?_⟩) ?_;rotate_left
  ·go_simp
   first | rfl | (refine (if_neg (by omega)).trans ?_;rfl)
  simp only[Act.put,Zp,Zq]
 refine Yls.nil ?_;refine wpAnyL_ready (rs:=[11]) (by kernel_rfl) (by simp) ?_;refine AllReadyL.cons rfl (fun K hK=>?_) AllReadyL.nil;go_simp;refine hK _ _ (.inl rfl) ?_;clear hK K
 try simp only[Act.put,Zp,Zq]
 refine wpAnyL_done (by kernel_rfl) ?_ _;refine NoPanic.normal ?_;go_wp2;refine bodyPost_ret (results_none rfl _ _ _) rfl ?_;exact⟨rfl,_,_,HZ.out.1,HZ.out.2⟩
end
theorem frame_any (X g n cap:Nat)(W:WL)(hs:W.cell? (Ad X 11)=some (.slice (some (Ad g 0)) (n+1) cap))(hn:n<4000) :
  Calls prog 63 #[ptr X] W fun e W'=>e=.returned (.pointer (some (Ad g (n*51))))∧Fr [] W W':=by
 have hm:=hmX
 have hw64:IntKind.i64.wrap (n:Int)=n:=by rw[IntKind.wrap_i64];omega
 have hlt:(n:Int)<(n:Int)+1:=by omega
 go_enter func63,ntmps63;go_wp2_with fail;refine wp_region_lex hm (by kernel_rfl) ?_
 repeat still_step
 refine wpStill_nil ?_;go_wp2_with fail;go_ret;exact⟨rfl,(Fr.refl [] W).drew⟩
theorem cells5 {w:WL}{b:Nat}{x y z u v:Value}{t:TypeId} (h:w.heap[b]?=some (.cells #[x,y,z,u,v] t)):(w.cell? (Ad b 0)=some x∧w.cell? (Ad b 1)=some y∧w.cell? (Ad b 2)=some z∧w.cell? (Ad b 3)=some u∧w.cell? (Ad b 4)=some v)∧w.frozen? (Ad b 0)=false∧w.frozen? (Ad b 1)=false∧w.frozen? (Ad b 2)=false∧w.frozen? (Ad b 3)=false∧w.frozen? (Ad b 4)=false:=by
 refine⟨⟨?_,?_,?_,?_,?_⟩,?_,?_,?_,?_,?_⟩ <;> first | (unfold World.cell?;rw[h];rfl) | (unfold World.frozen?;rw[h];simp)
theorem set5 {w:WL}{b:Nat}{x y z u v x' y' z' u' v':Value} (h:w.cell? (Ad b 0)=some x∧w.cell? (Ad b 1)=some y∧w.cell? (Ad b 2)=some z∧w.cell? (Ad b 3)=some u∧w.cell? (Ad b 4)=some v):∃ w',((((w.setCell ⟨b,0,none⟩ x').setCell ⟨b,1,none⟩ y').setCell ⟨b,2,none⟩ z').setCell ⟨b,3,none⟩ u').setCell ⟨b,4,none⟩ v'=w'∧w'.cell? (Ad b 0)=some x'∧w'.cell? (Ad b 1)=some y'∧w'.cell? (Ad b 2)=some z'∧w'.cell? (Ad b 3)=some u'∧w'.cell? (Ad b 4)=some v'∧Fr [b] w w':=by
 obtain⟨h0,h1,h2,h3,h4⟩:=h;refine⟨_,rfl,?_,?_,?_,?_,?_,(((((Fr.refl [b] w).setCell (.inl (by simp)) _).setCell (.inl (by simp)) _).setCell (.inl (by simp)) _).setCell (.inl (by simp)) _).setCell (.inl (by simp)) _⟩
 ·rw[setCell_off (by decide),setCell_off (by decide),setCell_off (by decide),setCell_off (by decide)];exact cell_setA h0
 ·rw[setCell_off (by decide),setCell_off (by decide),setCell_off (by decide)];exact cell_setA (by rw[setCell_off (by decide)];exact h1)
 ·rw[setCell_off (by decide),setCell_off (by decide)];exact cell_setA (by rw[setCell_off (by decide),setCell_off (by decide)];exact h2)
 ·rw[setCell_off (by decide)];exact cell_setA (by rw[setCell_off (by decide),setCell_off (by decide),setCell_off (by decide)];exact h3)
 exact cell_setA (by rw[setCell_off (by decide),setCell_off (by decide),setCell_off (by decide),setCell_off (by decide)];exact h4)
abbrev inV (op pl a b to_:Int):Value:=.agg #[.int .u8 op,.int .i64 pl,.int .i64 a,.int .i64 b,.int .i64 to_]
theorem next_any (g o gc ix n cc:Nat)(op pl a b to_:Int)(W:WL)(h0:W.cell? (Ad g o)=some (.slice (some (Ad gc 0)) n cc))(h1:W.cell? (Ad g (o+1))=some (iA ix))(hz:W.frozen? (Ad g (o+1))=false)(hi:ix<n)(hn:n≤100000)
  (c0:W.cell? (Ad gc (ix*5))=some (.int .u8 op)) (c1:W.cell? (Ad gc (ix*5+1))=some (iA pl)) (c2:W.cell? (Ad gc (ix*5+2))=some (iA a)) (c3:W.cell? (Ad gc (ix*5+3))=some (iA b)) (c4:W.cell? (Ad gc (ix*5+4))=some (iA to_)) :
  Calls prog 64 #[.pointer (some (Ad g o))] W fun e W'=>e=.returned (inV op pl a b to_)∧Set1 W g (o+1) (iA ((ix+1:Nat):Int)) W':=by
 have hm:=hmX
 obtain⟨W1,hW1⟩:=eXi (W.alloc (.cells #[.int .u8 0,iA 0,iA 0,iA 0,iA 0] 150));have F1:=frA hW1
 have k1:=kA hW1;have l1:=(Age.1 k1).1;have hg:=lt_of_cell h1;simp only at hg;obtain⟨WD,hWD⟩:=eXi (W1.drew);have FD:Fr [] W1 WD:=by rw[← hWD];exact (Fr.refl [] W1).drew
 have F0D:=F1.trans FD;have hsz:WD.heap.size=W1.heap.size:=by rw[← hWD];rfl
 have HQ:Hid _:=fun (w:WL) (hw:Fr [] WD w)=>AI (((F0D.trans hw).cell (p:=Ad g o) hg (by simp)).trans h0) (AI (((F0D.trans hw).cell (p:=Ad g (o+1)) hg (by simp)).trans h1) (AI (((F0D.trans hw).cell (p:=Ad gc (ix*5)) (lt_of_cell c0) (by simp)).trans c0) (AI (((F0D.trans hw).cell (p:=Ad gc (ix*5+1)) (lt_of_cell c1) (by simp)).trans c1) (AI (((F0D.trans hw).cell (p:=Ad gc (ix*5+2)) (lt_of_cell c2) (by simp)).trans c2) (AI (((F0D.trans hw).cell (p:=Ad gc (ix*5+3)) (lt_of_cell c3) (by simp)).trans c3) (((F0D.trans hw).cell (p:=Ad gc (ix*5+4)) (lt_of_cell c4) (by simp)).trans c4))))));obtain⟨W2,hW2⟩:=eXi (WD.alloc (.cells #[.int .u8 0,iA 0,iA 0,iA 0,iA 0] 150));have F2:=frA hW2
 have k2:=kA hW2;have l2:=(Age.1 k2).1;obtain⟨hy,z0,z1,z2,z3,z4⟩:=cells5 k2;obtain⟨W3,hW3,u0,u1,u2,u3,u4,F3⟩:=set5 (x':=.int .u8 op) (y':=iA pl) (z':=iA a) (u':=iA b) (v':=iA to_) hy;obtain⟨y0,y1,y2,y3,y4⟩:=hy;have FD3:Fr [] WD W3:=F2.trans' F3 (by simp);have F03:Fr [] W W3:=F0D.trans FD3;have q1:W3.cell? (Ad g (o+1))=some (iA ix):=(F03.cell (p:=Ad g (o+1)) hg (by simp)).trans h1;have qz:W3.frozen? (Ad g (o+1))=false:=(F03.frozen (p:=Ad g (o+1)) hg (by simp)).trans hz;obtain⟨W4,hW4⟩:=eXi (W3.setCell ⟨g,o+1,none⟩ (.int .i64 ((ix:Int)+1)));have F4:Fr [g] W3 W4:=by rw[← hW4];exact (Fr.refl [g] W3).setCell (.inl (by simp)) _
 have hs1:=F1.size;have hs3:=FD3.size;have hne:WD.heap.size≠g:=by omega
 have hl3:WD.heap.size<W3.heap.size:=lt_of_cell u0;have e0:=(F4.cell (p:=Ad WD.heap.size 0) hl3 (by simpa using hne)).trans u0;have e1:=(F4.cell (p:=Ad WD.heap.size 1) hl3 (by simpa using hne)).trans u1;have e2:=(F4.cell (p:=Ad WD.heap.size 2) hl3 (by simpa using hne)).trans u2;have e3:=(F4.cell (p:=Ad WD.heap.size 3) hl3 (by simpa using hne)).trans u3;have e4:=(F4.cell (p:=Ad WD.heap.size 4) hl3 (by simpa using hne)).trans u4;have k4:=(F4.block W.heap.size (by omega) (by simp;omega)).trans (((FD.trans FD3).block W.heap.size l1 (by simp)).trans k1);obtain⟨hx,w0,w1,w2,w3,w4⟩:=cells5 k4;obtain⟨W5,hW5,r0,r1,r2,r3,r4,F5⟩:=set5 (x':=.int .u8 op) (y':=iA pl) (z':=iA a) (u':=iA b) (v':=iA to_) hx;obtain⟨x0,x1,x2,x3,x4⟩:=hx;have HR:Hid (Set1 W g (o+1) (iA ((ix:Int)+1)) W5):=by
  refine Set1.of F03 (S:=[W.heap.size]) ?_ hg (by simp);rw[hW4];exact F5
 have H2:Hid _:=AI F2 FD3;have hi':(ix:Int)<n:=by omega
 have hw64:IntKind.i64.wrap ((ix:Int)+1)=(ix:Int)+1:=by rw[IntKind.wrap_i64];omega
 clear F1 FD F0D F2 F3 F4 F5 FD3 F03 h0 h1 hz c0 c1 c2 c3 c4 k1 k2 k4 l1 l2 hs1 hs3 hl3 hsz;go_enter func64,ntmps64;go_wp2_with fail;refine wp_region_heldD (fun w=>Fr [] WD w) hm ?_;rw[hWD];have hS:Fr [] WD WD:=Fr.refl _ _;refine wpAnyH_takes (fun _ _ _ _ _ h=>h) hS [0,1,2,3,4,5,6,7,8,9] (by kernel_rfl) ?_
 iterate 10
  refine Yls.cons (v:=?_) rfl (.inl ⟨rfl,fun w1 hS1=>?_⟩) ?_;rotate_left
  ·obtain⟨s0,s1,s2,s3,s4,s5,s6⟩:=HQ.out _ hS1;go_simp
   first | rfl | (refine (if_neg (by omega)).trans ?_;rfl)
  simp only[Act.put,Zp,Zq]
 refine Yls.nil ?_;refine rd1 (r:=10) (by kernel_rfl) rfl fun K hK=>?_;go_simp;refine hK _ _ H2.out.1 ?_;clear hK K;intro _
 try simp only[Act.put,Zp,Zq]
 refine rd1 (r:=11) (by kernel_rfl) rfl fun K hK=>?_;go_simp;refine hK _ _ H2.out.2 ?_;clear hK K;intro _
 try simp only[Act.put,Zp,Zq]
 refine wpAnyH_done (by kernel_rfl) ?_ _;go_wp2_with fail;refine bodyPost_ret (v:=inV op pl a b to_) (by simp[results,results64,go_sem,r0,r1,r2,r3,r4]) rfl ?_;exact⟨rfl,HR.out⟩
section
variable {W:WL}{tag:NN}{lv:Nat→Bool}{R:Nat→Rw}{mp:Nat→Option (Nat × List (Value × Value))}
end
end Go.Proofs.YtmolfmgchbjnbaaGreatDoor
