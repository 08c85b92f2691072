/-
  Texts Fa Ba Va Vb Vc Ve Vf Ma Mb.
-/
import Derived.Deep.RegionHeld3
import Derived.RangeFuncWrites
import Derived.WalkSmall
import Derived.Deep.Draws
import Derived.Shelf.Spec.TrailingZeros
import Derived.PlainAid
import Derived.Test.YtgpamchpeamnfaaGreatDoorRows
import Derived.WalkKit
import Derived.WalkSpells
import Derived.WalkLawsBesides
import Derived.BigQuiet
import Derived.Deep.QuietTactic
import Derived.Maps.AppendAt
import Derived.Lib.AppendStr
import Derived.Lib.UnsafeStr
import Derived.Laws.OwnMore
import Derived.Test.YtgpamchpeamnfaaGreatDoorMA
set_option linter.unusedSimpArgs false
set_option linter.unusedVariables false
set_option maxRecDepth 100000
set_option maxHeartbeats 40000000
open _root_.Go.Proofs.Tryz
namespace Go.Proofs.YtgpamchpeamnfaaGreatDoor
open Go
section
variable {P : Program} {ops : Array Oper} {Q : Exit → Act → World → Prop} {md : Region.Mode} {S : World → Prop} {d : Nat}
def wtB (md:Region.Mode) (ops:Array Oper) (i:Nat):Nat→Nat→Bool
 | 0,_=>false
 | n+1,x=>((ops[x]?).map fun o=>o.after.any fun e=>Region.binds md e && (e.on==i || wtB md ops i n e.on)).getD false
def bBt (md:Region.Mode) (ops:Array Oper) (l:Array Bool):Bool:=
 (List.range ops.size).all fun j=>!l.getD j false || ((ops[j]?).map fun o=>o.after.all fun e=>!Region.binds md e || l.getD e.on false).getD true
def aJz (md:Region.Mode) (ops:Array Oper) (l:Array Bool):Prop:=∀ j o,l.getD j false=true→ops[j]?=some o→∀ e ∈ o.after,Region.binds md e=true→l.getD e.on false=true
theorem aBt {l:Array Bool}(h:bBt md ops l=true):aJz md ops l:=fun j o hj ho e he hb=>by
 have hlt:=(Age.1 ho).1
 have:=List.all_eq_true.1 h j (List.mem_range.2 hlt)
 simp only[hj,ho,Bool.not_true,Bool.false_or,Option.map_some,Option.getD_some] at this
 have:=Array.all_eq_true'.1 this e he
 simpa [hb] using this
theorem wtL {l:Array Bool}{i:Nat} (hl:aJz md ops l) (hi:l.getD i false=false):∀ (n x:Nat),wtB md ops i n x=true→l.getD x false=false
 | 0,_,h=>by cases h
 | n+1,x,h=>by
  cases hv:l.getD x false with
  | false=>rfl
  | true=>
   unfold wtB at h
   cases ho:ops[x]? with
   | none=>rw[ho] at h;cases h
   | some o=>
    rw[ho] at h
    simp only[Option.map_some,Option.getD_some] at h
    obtain⟨e,he,h2⟩:=Array.any_eq_true'.1 h
    simp only[Bool.and_eq_true,Bool.or_eq_true,beq_iff_eq] at h2
    have:=hl x o hv ho e he h2.1
    rcases h2.2 with h3 | h3
    ·rw[h3,hi] at this;cases this
    ·rw[wtL hl hi n e.on h3] at this;cases this
theorem aOa {l:Array Bool}{j:Nat} (hl:aJz md ops l) (hj:j ∈ Region.ready md ops l):aJz md ops (l.setIfInBounds j true):=fun k o hk ho e he hb=>by
 refine getD_set_true ?_
 by_cases hjk:j=k
 ·subst hjk
  obtain⟨-,o',ho',hall⟩:=mem_ready.1 hj
  rw[ho'] at ho
  cases ho
  exact hall e he hb
 ·rw[getD_set_ne false hjk] at hk
  exact hl k o hk ho e he hb
def kP (P:Program) (md:Region.Mode) (ops:Array Oper) (Q:Exit→Act→World→Prop) (S:World→Prop) (d:Nat):Nat→Array Bool→Act→World→Prop
 | 0,l,a,w=>Region.ready md ops l=[]∧Q .normal a w
 | fuel+1,l,a,w=>(Region.ready md ops l=[]→Q .normal a w)∧∀ i ∈ Region.ready md ops l,wpOp P ops Q i (fun a' w'=>((l.setIfInBounds i true).getD d false=true∨S w')∧kP P md ops Q S d fuel (l.setIfInBounds i true) a' w') a w
theorem E6:∀ (fuel:Nat)(l:Array Bool)(a:Act)(w:World),kP P md ops Q S d fuel l a w→wpAny P md ops Q fuel l a w
 | 0,_,_,_,h=>h
 | fuel+1,_,_,_,h=>⟨h.1,fun i hi=>wpOp_mono (fun a' w' h'=>E6 fuel _ a' w' h'.2) (h.2 i hi)⟩
theorem aCn {i:Nat}{oi:Oper}{v:Value}{S':World→Prop} (hi:ops[i]?=some oi) (hsel:∀ (j:Nat) (o:Oper) cs b,ops[j]?=some o→o.op≠.select cs b)
  (hQ:∀ c a w,Q (.panic c) (a.put oi.dst v) w→Q (.panic c) a w) (hne:d≠i) (hyS:∀ l w,aJz md ops l→l.getD i false=false→(l.getD d false=true∨S w)→S' w) :
  ∀ (fuel:Nat) (l:Array Bool) (a:Act) (w:World),aJz md ops l →
   (∀ j oj,ops[j]?=some oj→j≠i→l.getD j true=false→(∀ e ∈ oj.after,Region.binds md e=true→e.on≠i)→oi.apart ops oj=true) →
   i ∈ Region.ready md ops l→YieldsIf P ops S' oi v a→(l.getD d false=true∨S w) →
   kP P md ops Q S d fuel (l.setIfInBounds i true) (a.put oi.dst v) w→kP P md ops Q S d (fuel+1) l a w:=by
 intro fuel
 have hun:∀ l:Array Bool,i ∈ Region.ready md ops l→l.getD i false=false:=fun l hr=>by
  have hiu:=(mem_ready.1 hr).1
  rcases Nat.lt_or_ge i l.size with h' | h'
  ·simp[h'] at hiu ⊢;exact hiu
  ·simp[Array.getElem?_eq_none h'] at hiu
 induction fuel with
 | zero=>
  intro l a w hl _ hr hy hS H
  refine⟨fun h=>(by rw[h] at hr;cases hr),fun j hj=>?_⟩
  by_cases hji:j=i
  ·subst hji;exact hy.wpOp hi (hyS l w hl (hun l hr) hS) ⟨hS.imp getD_set_true id,H⟩
  ·have:=ready_mono hj hji
   rw[H.1] at this
   cases this
 | succ fuel ih=>
  intro l a w hl hfree hr hy hS H
  refine⟨fun h=>(by rw[h] at hr;cases hr),fun j hj=>?_⟩
  by_cases hji:j=i
  ·subst hji;exact hy.wpOp hi (hyS l w hl (hun l hr) hS) ⟨hS.imp getD_set_true id,H⟩
  ·have h1:=H.2 j (ready_mono hj hji)
   obtain⟨hjun,oj,hoj,hall⟩:=mem_ready.1 hj
   have hnot:∀ e ∈ oj.after,Region.binds md e=true→e.on≠i:=fun e he hb heq=>by
    have h1:=hall e he hb
    rw[heq,hun l hr] at h1
    cases h1
   have h2:=wpOp_putIf hoj (hfree j oj hoj hji hjun hnot) (fun cs b=>hsel i oi cs b hi) (fun cs b=>hsel j oj cs b hoj) hQ hy h1
   have hfree':∀ k ok,ops[k]?=some ok→k≠i→(l.setIfInBounds j true).getD k true=false →
     (∀ e ∈ ok.after,Region.binds md e=true→e.on≠i)→oi.apart ops ok=true:=fun k ok hk hki hun hno=>by
    refine hfree k ok hk hki ?_ hno
    by_cases hjk:j=k
    ·subst hjk;exact hjun
    ·rw[getD_set_ne true hjk] at hun;exact hun
   refine wpOp_mono (fun a' w' h3=>?_) h2
   obtain⟨hy',hS',h4⟩:=h3
   rw[Array.setIfInBounds_comm _ _ (Ne.symm hji)] at hS' h4
   rw[getD_set_ne false (Ne.symm hne)] at hS'
   exact⟨hS',ih (l.setIfInBounds j true) a' w' (aOa hl hj) hfree' (ready_mono hr (Ne.symm hji)) hy' hS' h4⟩
def Yls (P:Program) (ops:Array Oper) (S:World→Prop) (K:Act→Prop):List Nat→Act→Prop
 | [],a=>K a
 | i :: r,a=>∃ o v,ops[i]?=some o∧YieldsIf P ops S o v a∧Yls P ops S K r (a.put o.dst v)
theorem Yls.cons {P:Program}{ops:Array Oper}{S:World→Prop}{K:Act→Prop}{i:Nat}{r:List Nat}{a:Act}{o:Oper}{v:Value} (h:ops[i]?=some o) (hy:YieldsIf P ops S o v a) (hr:Yls P ops S K r (a.put o.dst v)):Yls P ops S K (i :: r) a:=⟨o,v,h,hy,hr⟩
theorem Yls.nil {P:Program}{ops:Array Oper}{S:World→Prop}{K:Act→Prop}{a:Act} (h:K a):Yls P ops S K [] a:=h
def aTl:List Nat→Array Bool→Array Bool
 | [],l=>l
 | i :: r,l=>aTl r (l.setIfInBounds i true)
def aCx (md:Region.Mode) (ops:Array Oper):List Nat→Array Bool→Bool
 | [],_=>Region.noSelect ops
 | i :: r,l=>Region.free md ops l i && (Region.ready md ops l).contains i && aCx md ops r (l.setIfInBounds i true)
theorem aCw {md:Region.Mode}{ops:Array Oper}:∀ {r:List Nat}{l:Array Bool},aCx md ops r l=true→Region.noSelect ops=true
 | [],_,h=>h
 | _ :: r,_,h=>by simp only[aCx,Bool.and_eq_true] at h;exact aCw h.2
theorem pan (hQ:∀ c a (t:Tmp) v w,Q (.panic c) (a.put (some t) v) w→Q (.panic c) a w){d:Option Tmp}{c:List PanicEntry}{a:Act}{v:Value}{w:World} (h:Q (.panic c) (a.put d v) w):Q (.panic c) a w:=by
 cases d with
 | none=>exact h
 | some t=>exact hQ _ _ _ _ _ h
theorem aH {fuel:Nat}{w:World} (hQ:∀ c a (t:Tmp) v w,Q (.panic c) (a.put (some t) v) w→Q (.panic c) a w) (hS:S w):∀ (is:List Nat) {l:Array Bool}{a:Act},aCx md ops is l=true→Yls P ops S (fun a=>wpAnyH P md ops Q S fuel (aTl is l) a w) is a→wpAnyH P md ops Q S (fuel+is.length) l a w
 | [],_,_,_,h=>h
 | i :: r,l,a,hb,⟨o,v,ho,hy,h⟩=>by
  have hn:=aCw hb
  simp only[aCx,Bool.and_eq_true] at hb
  exact wpAnyH_take ho hn hb.1.1 hb.1.2 (fun c a w=>pan hQ) hy hS (aH hQ hS r hb.2 h)
theorem vY {S':World→Prop}{fuel:Nat}{w:World} (hQ:∀ c a (t:Tmp) v w,Q (.panic c) (a.put (some t) v) w→Q (.panic c) a w):∀ (is:List Nat) {l:Array Bool}{a:Act},aJz md ops l→aCx md ops is l=true→(∀ i ∈ is,d≠i∧∀ l w,aJz md ops l→l.getD i false=false→(l.getD d false=true∨S w)→S' w)→(l.getD d false=true∨S w) →
  Yls P ops S' (fun a=>kP P md ops Q S d fuel (aTl is l) a w) is a→kP P md ops Q S d (fuel+is.length) l a w:=by
 intro is l a
 induction is generalizing l a with
 | nil=>intro _ _ _ _ h;exact h
 | cons i r ih=>
  rintro hl hb hy hS ⟨o,v,ho,hyi,h⟩
  have hn:=aCw hb
  simp only[aCx,Bool.and_eq_true] at hb
  have hr:i ∈ Region.ready md ops l:=by simpa using hb.1.2
  exact aCn ho (Region.noSelect_spec hn) (fun c a w=>pan hQ) (hy i (by simp)).1 (hy i (by simp)).2 _ l a w hl (Region.free_spec ho hb.1.1) hr hyi hS (ih (aOa hl hr) hb.2 (fun j hj=>hy j (by simp[hj])) (hS.imp getD_set_true id) h)
theorem aCm {fuel:Nat}{l:Array Bool}{a:Act}{w:World} (is:List Nat) (hb:(bBt md ops l && aCx md ops is l && is.all fun i=>d != i && wtB md ops i ops.size d)=true)
  (hQ:∀ c a (t:Tmp) v w,Q (.panic c) (a.put (some t) v) w→Q (.panic c) a w) (hS:S w) (h:Yls P ops S (fun a=>kP P md ops Q S d fuel (aTl is l) a w) is a):kP P md ops Q S d (fuel+is.length) l a w:=by
 simp only[Bool.and_eq_true,List.all_eq_true] at hb
 refine vY hQ is (aBt hb.1.1) hb.1.2 (fun i hi=>⟨by simpa using (hb.2 i hi).1,fun l w hl hu hS=>?_⟩) (.inr hS) h
 rcases hS with h8 | h8
 ·rw[wtL hl hu _ d (hb.2 i hi).2] at h8;cases h8
 ·exact h8
theorem qO {fuel:Nat}{l:Array Bool}{a:Act}{w:World} (is:List Nat) (hb:(bBt md ops l && aCx md ops is l && is.all fun i=>d != i)=true)
  (hQ:∀ c a (t:Tmp) v w,Q (.panic c) (a.put (some t) v) w→Q (.panic c) a w) (hS:l.getD d false=true∨S w) (h:Yls P ops (fun _=>True) (fun a=>kP P md ops Q S d fuel (aTl is l) a w) is a):kP P md ops Q S d (fuel+is.length) l a w:=by
 simp only[Bool.and_eq_true,List.all_eq_true] at hb
 exact vY hQ is (aBt hb.1.1) hb.1.2 (fun i hi=>⟨by simpa using hb.2 i hi,fun _ _ _ _ _=>trivial⟩) hS h
def dR (P:Program) (md:Region.Mode) (ops:Array Oper) (Q:Exit→Act→World→Prop) (S:World→Prop) (d fuel:Nat) (l:Array Bool) (a:Act) (w:World) (rs:List Nat):Prop:=
 ∀ i ∈ rs,wpOp P ops Q i (fun a' w'=>((l.setIfInBounds i true).getD d false=true∨S w')∧kP P md ops Q S d fuel (l.setIfInBounds i true) a' w') a w
theorem dR.nil {fuel:Nat}{l:Array Bool}{a:Act}{w:World}:dR P md ops Q S d fuel l a w []:=fun _ h=>by cases h
theorem dR.cons {fuel:Nat}{l:Array Bool}{a:Act}{w:World}{i:Nat}{o:Oper}{rs:List Nat} (ho:ops[i]?=some o)
  (h:∀ K':Act→World→Prop,Shut (∀ a w,((l.setIfInBounds i true).getD d false=true∨S w)→kP P md ops Q S d fuel (l.setIfInBounds i true) a w→K' a w)→if Region.wanted o (yielded ops a.tmps)=true then Oper.wp P o a w K' Q else K' (a.put o.dst undef) w)
  (hs:dR P md ops Q S d fuel l a w rs):dR P md ops Q S d fuel l a w (i :: rs):=fun j hj=>by
 rcases List.mem_cons.1 hj with rfl | hj
 ·exact wpOp_step ho (fun K' hK=>h K' (fun a w hS hW=>hK a w ⟨hS,hW⟩))
 ·exact hs j hj
theorem lK {rs:List Nat}{fuel:Nat}{l:Array Bool}{a:Act}{w:World} (hr:Region.ready md ops l=rs) (hne:rs≠[]) (h:dR P md ops Q S d fuel l a w rs):kP P md ops Q S d (fuel+1) l a w:=
 ⟨fun h0=>absurd (hr ▸ h0) hne,hr ▸ h⟩
theorem aFk {l:Array Bool}{a:Act}{w:World} (hr:Region.ready md ops l=[]) (h:Q .normal a w):∀ fuel,kP P md ops Q S d fuel l a w
 | 0=>⟨hr,h⟩
 | _+1=>⟨fun _=>h,by rw[hr];simp⟩
end
theorem aFj {P:Program}{id:Nat}{Q:Exit→Act→World→Prop}{a:Act}{w:World}{ops:List Oper} (S:World→Prop) (d:Nat) (hm:P.follows .mixedOrders=true)
  (h:kP P .any ops.toArray (NoPanic Q) S d ops.toArray.size (Array.replicate ops.toArray.size false) a w.drew):(Code.region id ops.toArray true).wp P Q a w:=
 wp_region_noPanic (wp_region_any hm (E6 _ _ _ _ h))
open Go.RowKit
def Tab (w:World):Prop:=TabAt 5 Lib.deBruijn64tab w
structure Fr (S:List Nat) (w w':World):Prop where
 os:w'.os=w.os
 tape:w'.tape=w.tape
 output:w'.output=w.output
 size:w.heap.size≤w'.heap.size
 block:∀ k,k<w.heap.size→k ∉ S→w'.heap[k]?=w.heap[k]?
theorem Fr.refl (S:List Nat)(w:World):Fr S w w:=⟨rfl,rfl,rfl,Nat.le_refl _,fun _ _ _=>rfl⟩
theorem Fr.trans {S:List Nat}{a b c:World} (h:Fr S a b) (k:Fr S b c):Fr S a c:=
 ⟨k.os.trans h.os,k.tape.trans h.tape,k.output.trans h.output,Nat.le_trans h.size k.size,fun i hi hn=>(k.block i (Nll hi h.size) hn).trans (h.block i hi hn)⟩
theorem Fr.mono {S S':List Nat}{a b:World} (h:Fr S a b) (hs:∀ x,x ∈ S→x ∈ S'):Fr S' a b:=
 ⟨h.os,h.tape,h.output,h.size,fun i hi hn=>h.block i hi (fun hx=>hn (hs i hx))⟩
theorem Fr.trans' {S S':List Nat}{a b c:World} (h:Fr S a b) (k:Fr S' b c) (hs:∀ x,x ∈ S'→x ∈ S∨a.heap.size≤x):Fr S a c:=
 ⟨k.os.trans h.os,k.tape.trans h.tape,k.output.trans h.output,Nat.le_trans h.size k.size,fun i hi hn=>
  (k.block i (Nll hi h.size) (fun hx=>(hs i hx).elim hn (fun h'=>by omega))).trans (h.block i hi hn)⟩
theorem Fr.drew {S:List Nat}{a w:World} (h:Fr S a w):Fr S a w.drew:=⟨h.os,h.tape,h.output,h.size,h.block⟩
theorem Fr.drewN {S:List Nat}{a w:World} (h:Fr S a w) (n:Nat):Fr S a (w.drewN n):=⟨h.os,h.tape,h.output,h.size,h.block⟩
theorem Fr.alloc {S:List Nat}{a w:World} (h:Fr S a w) (o:Obj):Fr S a (w.alloc o):=
 h.trans ⟨rfl,rfl,rfl,by simp,fun k hk _=>Below.heap_alloc _ _ _ hk⟩
theorem Fr.setCell {S:List Nat}{a w:World} (h:Fr S a w) {p:Addr} (hp:p.block ∈ S∨a.heap.size≤p.block) (u:Value):Fr S a (w.setCell p u):=
 ⟨h.os,h.tape,h.output,by simpa [World.setCell] using h.size,fun k hk hn=>(Below.heap_setCell _ _ _ _ (by rintro rfl;exact hp.elim hn (fun h'=>by omega))).trans (h.block k hk hn)⟩
theorem Fr.cell {S:List Nat}{w w':World} (h:Fr S w w') {p:Addr} (hp:p.block<w.heap.size) (hn:p.block ∉ S):w'.cell? p=w.cell? p:=World.cell?_of_block (w:=w) (h.block p.block hp hn)
theorem Fr.frozen {S:List Nat}{w w':World} (h:Fr S w w') {p:Addr} (hp:p.block<w.heap.size) (hn:p.block ∉ S):w'.frozen? p=w.frozen? p:=World.frozen?_of_block (w:=w) (h.block p.block hp hn)
theorem Fr.of_below {w w':World}(h:Below w.heap.size w w'):Fr [] w w':=⟨h.os,h.tape,h.output,h.size,fun k hk _=>h.block k hk⟩
theorem Fr.below {S:List Nat}{w w':World} (h:Fr S w w') {B:Nat} (hB:B≤w.heap.size) (hs:∀ x,x ∈ S→B≤x):Below B w w':=
 ⟨h.os,h.tape,h.output,h.size,fun k hk=>h.block k (by omega) (fun hx=>by have:=hs k hx;omega)⟩
theorem aA {w:World}{b i j:Nat}{v:Value} (h:i≠j):(w.setCell ⟨b,i,none⟩ v).cell? ⟨b,j,none⟩=w.cell? ⟨b,j,none⟩:=World.cell?_setCell_other _ _ _ _ (by simp[h])
theorem aQ {w:World}{b c i j:Nat}{v:Value} (h:b≠c):(w.setCell ⟨b,i,none⟩ v).cell? ⟨c,j,none⟩=w.cell? ⟨c,j,none⟩:=World.cell?_setCell_other _ _ _ _ (by simp[h])
theorem aC {w:World}{a:Addr}{v:Value} (h:w.cell? a=some v):a.block<w.heap.size:=by
 apply Nat.lt_of_not_le
 intro hle
 unfold World.cell? at h
 rw[Array.getElem?_eq_none hle] at h
 simp at h
theorem kG (W:World)(v:Value)(t:TypeId):(W.alloc (.cells #[v] t)).cell? ⟨W.heap.size,0,none⟩=some v:=by
 have h:=wan W (.cells #[v] t)
 unfold World.cell?;rw[h];rfl
theorem jF {W W':World}{row:Option Nat}{a:Addr}{v:Value} (h:W.cell? a=some v) (hg:W.grownBy W' row)
  (hr:∀ r,row=some r→∃ o:Obj,W.heap[r]?=some o∧o.isCells=false):W'.heap[a.block]?=W.heap[a.block]?:=by
 refine hg.block a.block (aC h) ?_
 intro e
 obtain⟨o,ho,hc⟩:=hr a.block e.symm
 unfold World.cell? at h
 rw[ho] at h
 cases o <;> simp_all [Obj.isCells]
theorem Tab.lt {w:World}(h:Tab w):5<w.heap.size:=aC (a:=⟨5,0,none⟩) (h 0 (by decide))
theorem Tab.of_block {w w':World}(h:Tab w)(hb:w'.heap[5]?=w.heap[5]?):Tab w':=fun j hj=>(World.cell?_of_block (w:=w) (a:=⟨5,j,none⟩) hb).trans (h j hj)
theorem Tab.fr {S:List Nat}{w w':World} (h:Tab w) (hf:Fr S w w') (h0:5 ∉ S):Tab w':=h.of_block (hf.block 5 h.lt h0)
structure dS (w:World) (pb:Nat) (wh:Nat→Value) (tk:Nat→Nat) (fo:Nat→Nat→Nat):Prop where
 hw:∀ i,i<12→w.cell? ⟨pb,i,none⟩=some (wh i)
 ht:∀ b,b<256→w.cell? ⟨pb,12+b,none⟩=some (.int .u64 (tk b))
 hf:∀ s a,s<4→a<50→w.cell? ⟨pb,268+s*50+a,none⟩=some (.int .u64 (fo s a))
 fz:∀ i,i<468→w.frozen? ⟨pb,i,none⟩=false
theorem dS.lt {w:World}{pb:Nat}{wh:Nat→Value}{tk:Nat→Nat}{fo:Nat→Nat→Nat} (h:dS w pb wh tk fo):pb<w.heap.size:=aC (a:=⟨pb,12,none⟩) (h.ht 0 (by decide))
theorem dS.of_block {w w':World}{pb:Nat}{wh:Nat→Value}{tk:Nat→Nat}{fo:Nat→Nat→Nat} (h:dS w pb wh tk fo) (hb:w'.heap[pb]?=w.heap[pb]?):dS w' pb wh tk fo:=
 ⟨fun i hi=>(World.cell?_of_block (w:=w) (a:=⟨pb,i,none⟩) hb).trans (h.hw i hi),fun b hb'=>(World.cell?_of_block (w:=w) (a:=⟨pb,12+b,none⟩) hb).trans (h.ht b hb'),
   fun s a hs ha=>(World.cell?_of_block (w:=w) (a:=⟨pb,268+s*50+a,none⟩) hb).trans (h.hf s a hs ha),fun i hi=>(World.frozen?_of_block (w:=w) (a:=⟨pb,i,none⟩) hb).trans (h.fz i hi)⟩
theorem dS.fr {S:List Nat}{w w':World}{pb:Nat}{wh:Nat→Value}{tk:Nat→Nat}{fo:Nat→Nat→Nat} (h:dS w pb wh tk fo) (hf:Fr S w w') (h0:pb ∉ S):dS w' pb wh tk fo:=h.of_block (hf.block pb h.lt h0)
theorem dS.congr {w:World}{pb:Nat}{wh:Nat→Value}{tk tk':Nat→Nat}{fo fo':Nat→Nat→Nat} (h:dS w pb wh tk fo) (ht:∀ b,b<256→tk b=tk' b) (hf:∀ s a,s<4→a<50→fo s a=fo' s a):dS w pb wh tk' fo':=
 ⟨h.hw,fun b hb=>by rw[← ht b hb];exact h.ht b hb,fun s a hs ha=>by rw[← hf s a hs ha];exact h.hf s a hs ha,h.fz⟩
theorem dS.setFollow {w:World}{pb:Nat}{wh:Nat→Value}{tk:Nat→Nat}{fo:Nat→Nat→Nat} (h:dS w pb wh tk fo) (s a:Nat) (hs:s<4) (ha:a<50) (v:Nat) :
  dS (w.setCell ⟨pb,268+s*50+a,none⟩ (.int .u64 v)) pb wh tk (fun s' a'=>if s'=s∧a'=a then v else fo s' a'):=by
 refine⟨fun i hi=>?_,fun b hb=>?_,fun s' a' hs' ha'=>?_,fun i hi=>?_⟩
 ·exact (aA (by omega)).trans (h.hw i hi)
 ·exact (aA (by omega)).trans (h.ht b hb)
 ·by_cases e:s'=s∧a'=a
  ·obtain⟨rfl,rfl⟩:=e
   rw[if_pos ⟨rfl,rfl⟩]
   exact World.cell?_setCell_same' _ _ _ (by rw[h.hf s' a' hs ha];rfl)
  ·rw[if_neg e];exact (aA (by omega)).trans (h.hf s' a' hs' ha')
 ·rw[wfz];exact h.fz i hi
namespace Wire
def lW:Nat→Nat→List UInt8
 | 0,_=>[]
 | f+1,n=>if n<128 then [UInt8.ofNat n] else UInt8.ofNat (128+n % 128) :: lW f (n / 128)
def aY (n:Nat):List UInt8:=lW 10 n
theorem vQ (f g n:Nat)(hf:n<128 ^ f)(hg:n<128 ^ g)(h0:0<f)(h1:0<g):lW f n=lW g n:=by
 induction f generalizing g n with
 | zero=>omega
 | succ f ih=>
  cases g with
  | zero=>omega
  | succ g=>
   simp only[lW]
   by_cases h:n<128
   ·simp only[if_pos h]
   ·simp only[if_neg h]
    congr 1
    have a:n / 128<128 ^ f:=by rw[Nat.pow_succ] at hf;omega
    have b:n / 128<128 ^ g:=by rw[Nat.pow_succ] at hg;omega
    refine ih g _ a b ?_ ?_
    ·cases f with
     | zero=>simp at a;omega
     | succ f=>omega
    ·cases g with
     | zero=>simp at b;omega
     | succ g=>omega
theorem yF {n:Nat}(h:n<128):aY n=[UInt8.ofNat n]:=by simp only[aY,lW,if_pos h]
theorem aEk {n:Nat}(h:128≤n)(hb:n<128 ^ 9):aY n=UInt8.ofNat (128+n % 128) :: aY (n / 128):=by
 unfold aY
 rw[lW,if_neg (by omega)]
 congr 1
 have e:(128:Nat) ^ 9=9223372036854775808:=by decide
 exact vQ 9 10 _ (by omega) (by
  have:(128:Nat) ^ 10=1180591620717411303424:=by decide
  omega) (by omega) (by omega)
def qR:Nat→Bool→List UInt8→Option (Nat × List UInt8)
 | 0,_,_=>none
 | _+1,_,[]=>none
 | f+1,first,c :: r=>
  if c.toNat<128 then (if c.toNat=0∧first=false then none else some (c.toNat,r))
  else (qR f false r).map fun p=>(c.toNat-128+128*p.1,p.2)
def num (l:List UInt8):Option (Nat × List UInt8):=qR 5 true l
theorem aLa (f:Nat)(first:Bool)(n:Nat)(r:List UInt8)(h0:0<f)(h:n<128 ^ f)(hz:first=false→n≠0):qR f first (lW f n++r)=some (n,r):=by
 induction f generalizing first n with
 | zero=>omega
 | succ f ih=>
  rw[lW]
  by_cases hn:n<128
  ·rw[if_pos hn]
   have e:(UInt8.ofNat n).toNat=n:=by simp[UInt8.toNat_ofNat];omega
   simp only[List.cons_append,List.nil_append,qR,e,if_pos hn]
   rw[if_neg]
   rintro ⟨a,b⟩
   exact hz b a
  ·rw[if_neg hn]
   have e:(UInt8.ofNat (128+n % 128)).toNat=128+n % 128:=by simp[UInt8.toNat_ofNat];omega
   have a:n / 128<128 ^ f:=by rw[Nat.pow_succ] at h;omega
   have a0:0<f:=by
    cases f with
    | zero=>simp at a;omega
    | succ f=>omega
   simp only[List.cons_append,qR,e]
   rw[if_neg (by omega),ih false (n / 128) a0 a (by omega)]
   simp only[Option.map_some]
   congr 2
   omega
theorem aQf (f:Nat)(first:Bool)(l:List UInt8)(n:Nat)(r:List UInt8)(h:qR f first l=some (n,r)) :
  l=lW f n++r∧n<128 ^ f∧(first=false→n≠0)∧0<f:=by
 induction f generalizing first l n r with
 | zero=>simp[qR] at h
 | succ f ih=>
  cases l with
  | nil=>simp[qR] at h
  | cons c t=>
   rw[qR] at h
   by_cases hc:c.toNat<128
   ·rw[if_pos hc] at h
    by_cases hz:c.toNat=0∧first=false
    ·rw[if_pos hz] at h;simp at h
    ·rw[if_neg hz] at h
     simp only[Option.some.injEq,Prod.mk.injEq] at h
     obtain⟨rfl,rfl⟩:=h
     refine⟨?_,?_,?_,by omega⟩
     ·rw[lW,if_pos hc]
      simp
     ·have:0<128 ^ f:=Nat.pow_pos (by omega)
      rw[Nat.pow_succ];omega
     ·intro hf h0;exact hz ⟨h0,hf⟩
   ·rw[if_neg hc] at h
    cases hr:qR f false t with
    | none=>rw[hr] at h;simp at h
    | some p=>
     obtain⟨m,s⟩:=p
     rw[hr] at h
     simp only[Option.map_some,Option.some.injEq,Prod.mk.injEq] at h
     obtain⟨rfl,rfl⟩:=h
     obtain⟨a,b,d,e⟩:=ih false t m s hr
     have hm:=d rfl
     have hc2:c.toNat<256:=c.toNat_lt
     refine⟨?_,?_,?_,by omega⟩
     ·rw[lW,if_neg (by omega)]
      have e1:(c.toNat-128+128*m) % 128=c.toNat-128:=by omega
      have e2:(c.toNat-128+128*m) / 128=m:=by omega
      rw[e1,e2,show 128+(c.toNat-128)=c.toNat by omega,a]
      simp
     ·rw[Nat.pow_succ];omega
     ·intro _;omega
theorem bBj:(128:Nat) ^ 5=34359738368:=by decide
theorem bBi:(128:Nat) ^ 9=9223372036854775808:=by decide
theorem bAe:(128:Nat) ^ 10=1180591620717411303424:=by decide
theorem rL {n:Nat}(h:n<34359738368)(r:List UInt8):num (aY n++r)=some (n,r):=by
 have h5:=bBj
 have h10:=bAe
 unfold num aY
 rw[vQ 10 5 n (by omega) (by omega) (by omega) (by omega)]
 exact aLa 5 true n r (by omega) (by omega) (by simp)
theorem iG {l:List UInt8}{n:Nat}{r:List UInt8} (h:num l=some (n,r)):l=aY n++r∧n<34359738368:=by
 have h5:=bBj
 have h10:=bAe
 obtain⟨a,b,-,-⟩:=aQf 5 true l n r h
 refine⟨?_,by omega⟩
 unfold aY
 rw[vQ 10 5 n (by omega) (by omega) (by omega) (by omega)]
 exact a
def kO (s:Nat) (c:UInt8):Nat:=(257*s+c.toNat+1) % 1000003
def mR (s:Nat) (l:List UInt8):Nat:=l.foldl kO s
def yS (l:List UInt8):Nat:=mR 1 l
def dG (l:List UInt8):List UInt8:=[UInt8.ofNat (yS l % 256),UInt8.ofNat (yS l / 256 % 256),UInt8.ofNat (yS l / 65536)]
theorem oV (s:Nat)(c:UInt8):kO s c<1000003:=Nat.mod_lt _ (by omega)
theorem aKk (s:Nat)(h:s<1000003)(l:List UInt8):mR s l<1000003:=by
 induction l generalizing s with
 | nil=>exact h
 | cons c t ih=>exact ih _ (oV s c)
theorem aNe (l:List UInt8):yS l<1000003:=aKk 1 (by omega) l
theorem aTe {a b:List UInt8}(h:dG a=dG b):yS a=yS b:=by
 have ha:=aNe a
 have hb:=aNe b
 unfold dG at h
 generalize yS a=x at *
 generalize yS b=y at *
 simp only[List.cons.injEq,and_true] at h
 obtain⟨h1,h2,h3⟩:=h
 have e1:=congrArg UInt8.toNat h1
 have e2:=congrArg UInt8.toNat h2
 have e3:=congrArg UInt8.toNat h3
 simp only[UInt8.toNat_ofNat',Nat.reducePow] at e1 e2 e3
 omega
theorem tE (l:List UInt8):(dG l).length=3:=rfl
end Wire
namespace Wire
structure Fn where
 params:Int
 locs:Int
 code:ByteArray
structure Mo where
 texts:List ByteArray
 pats:List ByteArray
 globs:Int
 arrs:Int
 fns:List Fn
def bl (s:ByteArray):List UInt8:=s.data.toList
theorem aD (s:ByteArray):(bl s).length=s.size:=by
 show s.data.toList.length=s.data.size
 exact Array.length_toList
theorem X2 (l:List UInt8):bl ⟨l.toArray⟩=l:=by simp[bl]
theorem aHp (s:ByteArray):(⟨(bl s).toArray⟩:ByteArray)=s:=by simp[bl]
theorem aDt (l:List UInt8):(⟨l.toArray⟩:ByteArray).size=l.length:=by simp[ByteArray.size]
theorem mO {s t:ByteArray}(h:bl s=bl t):s=t:=by rw[← aHp s,← aHp t,h]
def fP (s:ByteArray):List UInt8:=aY s.size++bl s
def cB (l:List ByteArray):List UInt8:=l.flatMap fP
def aZ (l:List ByteArray):List UInt8:=aY l.length++cB l
def fnB (f:Fn):List UInt8:=aY f.params.toNat++(aY f.locs.toNat++fP f.code)
def gL (l:List Fn):List UInt8:=l.flatMap fnB
def gZ (l:List Fn):List UInt8:=aY l.length++gL l
def bR (k:Nat) (c:List UInt8):List UInt8:=UInt8.ofNat k :: (aY c.length++c)
def body (m:Mo):List UInt8:=
 71 :: 76 :: 1 :: (bR 1 (aZ m.texts)++(bR 2 (aZ m.pats)++(bR 3 (aY m.globs.toNat)++(bR 4 (aY m.arrs.toNat)++bR 5 (gZ m.fns)))))
def written (m:Mo):List UInt8:=body m++dG (body m)
def fI (f:Fn) (i:Nat):Bool:=
 decide (0≤f.params) && decide (f.params≤8) && decide (f.params≤f.locs) && decide (f.locs≤16) && decide (f.code.size≤20000) && (decide (2<i) || decide (f.params=0))
def bC:List Fn→Nat→Bool
 | [],_=>true
 | f :: r,i=>fI f i && bC r (i+1)
def cE (ip:ByteArray→Bool) (m:Mo):Bool:=
 decide (m.texts.length≤1000) && decide (m.pats.length≤1000) && decide (3≤m.fns.length) && decide (m.fns.length≤1000) &&
 decide (0≤m.globs) && decide (m.globs≤1000) && decide (0≤m.arrs) && decide (m.arrs≤1000) &&
 m.texts.all (fun s=>decide (s.size≤100)) && m.pats.all (fun s=>decide (s.size≤50) && ip s) && bC m.fns 0
def bnd {α β:Type} (x:(Nat × Nat) ⊕ α) (f:α→(Nat × Nat) ⊕ β):(Nat × Nat) ⊕ β:=
 match x with
 | .inl e=>.inl e
 | .inr a=>f a
def aG (least most base:Nat) (c:List UInt8):(Nat × Nat) ⊕ (Nat × List UInt8):=
 match num c with
 | none=>.inl (6,base-c.length)
 | some (n,r)=>if n<least∨most<n then .inl (4,base-c.length) else .inr (n,r)
def bI (most base:Nat) (c:List UInt8):(Nat × Nat) ⊕ (ByteArray × List UInt8):=
 bnd (aG 0 most base c) fun p=>if p.2.length<p.1 then .inl (7,base-c.length) else .inr (⟨(p.2.take p.1).toArray⟩,p.2.drop p.1)
def fnR (i base:Nat) (c:List UInt8):(Nat × Nat) ⊕ (Fn × List UInt8):=
 bnd (aG 0 (if i<3 then 0 else 8) base c) fun p=>
 bnd (aG p.1 16 base p.2) fun q=>
 bnd (bI 20000 base q.2) fun s=>.inr (⟨(p.1:Int),(q.1:Int),s.1⟩,s.2)
def vO (base:Nat):Nat→Nat→List UInt8→(Nat × Nat) ⊕ (List Fn × List UInt8)
 | 0,_,c=>.inr ([],c)
 | k+1,i,c=>bnd (fnR i base c) fun p=>bnd (vO base k (i+1) p.2) fun q=>.inr (p.1 :: q.1,q.2)
end Wire
namespace Wire
theorem sH {f:Fn}{i:Nat}:fI f i=true↔0≤f.params∧f.params≤8∧f.params≤f.locs∧f.locs≤16∧f.code.size≤20000∧(2<i∨f.params=0):=by
 unfold fI
 simp only[Bool.and_eq_true,Bool.or_eq_true,decide_eq_true_eq,and_assoc]
theorem within_iff {ip:ByteArray→Bool}{m:Mo}:cE ip m=true↔m.texts.length≤1000∧m.pats.length≤1000∧3≤m.fns.length∧m.fns.length≤1000∧0≤m.globs∧m.globs≤1000∧0≤m.arrs∧m.arrs≤1000 ∧
  (∀ s ∈ m.texts,s.size≤100)∧(∀ s ∈ m.pats,s.size≤50∧ip s=true)∧bC m.fns 0=true:=by
 unfold cE
 simp only[Bool.and_eq_true,decide_eq_true_eq,List.all_eq_true,and_assoc]
theorem kV (k:Nat)(c:List UInt8):(bR k c).length=1+(aY c.length).length+c.length:=by simp[bR];omega
theorem p9 (m:Mo):(body m).length=3+(bR 1 (aZ m.texts)).length+(bR 2 (aZ m.pats)).length+(bR 3 (aY m.globs.toNat)).length+(bR 4 (aY m.arrs.toNat)).length+(bR 5 (gZ m.fns)).length:=by
 simp[body];omega
theorem oR (m:Mo):(written m).length=(body m).length+3:=by simp[written,tE]
end Wire
namespace Wire
def sV (c:List UInt8):Nat→Nat
 | 0=>0
 | i+1=>sV c i+(c.getD i 0).toNat % 128*128 ^ i
theorem aFb (c:List UInt8)(i:Nat):sV c i<128 ^ i:=by
 induction i with
 | zero=>simp[sV]
 | succ i ih=>
  have h:(c.getD i 0).toNat % 128≤127:=by omega
  have h2:=Nat.mul_le_mul_right (128 ^ i) h
  simp only[sV,Nat.pow_succ]
  omega
theorem aOi {c:List UInt8}{i:Nat} (h:i<c.length):c.drop i=c.getD i 0 :: c.drop (i+1):=by
 rw[List.drop_eq_getElem_cons h]
 simp[List.getD_eq_getElem?_getD,h]
theorem aHk (c:List UInt8)(i:Nat)(hi:i≤5)(hl:i≤c.length)(h:∀ j,j<i→128≤(c.getD j 0).toNat) :
  num c=(qR (5-i) (decide (i=0)) (c.drop i)).map fun p=>(sV c i+128 ^ i*p.1,p.2):=by
 induction i with
 | zero=>
  simp only[num,sV,List.drop_zero,Nat.sub_zero,decide_true,Nat.pow_zero,Nat.one_mul,Nat.zero_add]
  cases qR 5 true c <;> rfl
 | succ i ih=>
  rw[ih (by omega) (by omega) (fun j hj=>h j (by omega)),aOi (by omega)]
  have h0:=h i (by omega)
  have hb:=(c.getD i 0).toNat_lt
  rw[show 5-i=(5-(i+1))+1 by omega]
  simp only[qR]
  rw[if_neg (by omega),Option.map_map]
  have e:(decide (i+1=0))=false:=by simp
  rw[e]
  congr 1
  funext p
  simp only[Function.comp,sV,Prod.mk.injEq,and_true]
  have e2:(c.getD i 0).toNat-128=(c.getD i 0).toNat % 128:=by omega
  rw[e2,Nat.mul_add,Nat.pow_succ,Nat.mul_assoc,Nat.mul_comm (128 ^ i) ((c.getD i 0).toNat % 128)]
  omega
theorem aHl {c:List UInt8}{i:Nat} (hi:i<5) (hl:i<c.length) (h:∀ j,j<i→128≤(c.getD j 0).toNat) (h0:(c.getD i 0).toNat<128) :
  num c=if 0<i∧(c.getD i 0).toNat=0 then none else some (sV c (i+1),c.drop (i+1)):=by
 rw[aHk c i (by omega) (by omega) h,aOi hl,show 5-i=(5-(i+1))+1 by omega]
 simp only[qR]
 rw[if_pos h0]
 have hm:(c.getD i 0).toNat % 128=(c.getD i 0).toNat:=by omega
 by_cases hz:0<i∧(c.getD i 0).toNat=0
 ·rw[if_pos hz,if_pos ⟨hz.2,by have:=hz.1;simp;omega⟩]
  rfl
 ·rw[if_neg hz,if_neg (by rintro ⟨a,b⟩;exact hz ⟨by simp at b;omega,a⟩)]
  simp only[Option.map_some,sV,hm,Nat.mul_comm]
theorem aDp {c:List UInt8}{i:Nat} (hi:i≤5) (hl:i≤c.length) (h:∀ j,j<i→128≤(c.getD j 0).toNat) (h0:i=5∨i=c.length):num c=none:=by
 rw[aHk c i hi hl h]
 rcases h0 with rfl | rfl
 ·simp[qR]
 ·rw[List.drop_length]
  cases 5-c.length <;> simp[qR]
theorem aUj (a x i:Nat)(h:a<128 ^ i):a ||| (x <<< (7*i))=a+x*128 ^ i:=by
 have e:(128:Nat) ^ i=2 ^ (7*i):=by rw[Nat.pow_mul]
 rw[Nat.shiftLeft_eq,e,Nat.mul_comm x,Nat.or_comm,← Nat.two_pow_add_eq_or_of_lt (by omega),Nat.add_comm]
theorem aZm (c:List UInt8)(i:Nat):sV c i ||| (((c.getD i 0).toNat &&& 127) <<< (7*i))=sV c (i+1):=by
 rw[aUj _ _ _ (aFb c i),show (127:Nat)=2 ^ 7-1 by rfl,Nat.and_two_pow_sub_one_eq_mod]
 rfl
theorem xG (s:Nat)(l:List UInt8)(i:Nat)(h:i<l.length):mR s (l.take (i+1))=kO (mR s (l.take i)) l[i]:=by
 rw[List.take_succ_eq_append_getElem h]
 unfold mR
 rw[List.foldl_append]
 rfl
abbrev Sta:=(Nat × Nat) ⊕ (Nat × Nat)
abbrev Rd (α:Type):=Nat→List UInt8→(Nat × Nat) ⊕ (α × List UInt8)
def seg (l:List UInt8) (a e:Nat):List UInt8:=(l.take e).drop a
theorem bS {l:List UInt8}{a e:Nat} (he:e≤l.length):(seg l a e).length=e-a:=by
 simp[seg];omega
theorem gX {l p r:List UInt8}{a e:Nat} (h:seg l a e=p++r) (ha:a≤e) (he:e≤l.length):seg l (e-r.length) e=r∧e-r.length=a+p.length∧r.length≤e:=by
 have h1:=congrArg List.length h
 rw[bS he,Lla] at h1
 have h2:e-r.length=a+p.length:=by omega
 refine⟨?_,h2,by omega⟩
 rw[h2]
 have h3:(seg l a e).drop p.length=r:=by rw[h];simp
 rw[← h3]
 simp[seg,List.drop_drop]
theorem aNj (l:List UInt8)(a:Nat):seg l a l.length=l.drop a:=by simp[seg]
def aW {α:Type} (op:Rd α) (l:List UInt8) (d:α):Sta→α
 | .inl _=>d
 | .inr (a,e)=>match op e (seg l a e) with
  | .inl _=>d
  | .inr (x,_)=>x
def nextR {α:Type} (op:Rd α) (l:List UInt8):Sta→Sta
 | .inl f=>.inl f
 | .inr (a,e)=>match op e (seg l a e) with
  | .inl f=>.inl f
  | .inr (_,r)=>.inr (e-r.length,e)
def cJ (l:List UInt8):Sta→Prop
 | .inl f=>0<f.1∧f.1≤100∧f.2≤l.length
 | .inr (a,e)=>a≤e∧e≤l.length
theorem bEe {α:Type}(op:Rd α)(l:List UInt8)(f:Nat × Nat):nextR op l (.inl f)=.inl f:=rfl
theorem bEx {α:Type}(op:Rd α)(l:List UInt8)(d:α)(f:Nat × Nat):aW op l d (.inl f)=d:=rfl
theorem bB {α:Type}{op:Rd α}{l:List UInt8}{a e:Nat}{f:Nat × Nat} (h:op e (seg l a e)=.inl f):nextR op l (.inr (a,e))=.inl f:=by simp only[nextR,h]
theorem dX {α:Type}{op:Rd α}{l:List UInt8}{d:α}{a e:Nat}{f:Nat × Nat} (h:op e (seg l a e)=.inl f):aW op l d (.inr (a,e))=d:=by simp only[aW,h]
theorem bL {α:Type}{op:Rd α}{l:List UInt8}{a e:Nat}{x:α}{r:List UInt8} (h:op e (seg l a e)=.inr (x,r)):nextR op l (.inr (a,e))=.inr (e-r.length,e):=by simp only[nextR,h]
end Wire
namespace Wire
structure oF {α:Type} (op:Rd α):Prop where
 bad:∀ {base:Nat}{c:List UInt8}{f:Nat × Nat},op base c=.inl f→0<f.1∧f.1≤100∧f.2≤base
 good:∀ {base:Nat}{c:List UInt8}{x:α}{r:List UInt8},op base c=.inr (x,r)→∃ p,c=p++r
theorem oF.next {α:Type}{op:Rd α} (h:oF op) {l:List UInt8}{s:Sta} (hs:cJ l s):cJ l (nextR op l s):=by
 rcases s with f | ⟨a,e⟩
 ·exact hs
 ·obtain⟨h1,h2⟩:=hs
  rcases hop:op e (seg l a e) with f | ⟨x,r⟩
  ·rw[bB hop]
   have:=h.bad hop
   exact⟨this.1,this.2.1,by omega⟩
  ·rw[bL hop]
   obtain⟨p,hp⟩:=h.good hop
   have:=gX hp h1 h2
   exact⟨by omega,h2⟩
end Wire
open Go.RowKit
open Wire
def numV (l:List UInt8):Nat:=match num l with
 | none=>0
 | some p=>p.1
def vL (l:List UInt8):Nat:=match num l with
 | none=>0
 | some p=>l.length-p.2.length
theorem aYu (c:ByteArray)(i:Nat)(h:i<c.size):(bl c).getD i 0=c[i]:=by
 have:i<(bl c).length:=by rw[aD];exact h
 rw[List.getD_eq_getElem?_getD,Lge this]
 simp only[bl,Option.getD_some,Array.getElem_toList]
 rfl
theorem oI (n:Int)(h₀:0≤n)(h₁:n<18446744073709551616):IntKind.u64.wrap n=n:=by rw[IntKind.wrap_u64];omega
theorem bHa (k:Nat)(hk:k<5):(2:Nat) ^ (7*k)≤268435456:=by
 have:(2:Nat) ^ (7*k)≤2 ^ 28:=Nat.pow_le_pow_right (by omega) (by omega)
 omega
theorem aXv (A x k B:Nat)(hx:x<256)(hk:k<5)(hA:A<128 ^ k)(hB:A ||| ((x &&& 127) <<< (7*k))=B) :
  bits .or .u64 (A:Int) (IntKind.u64.wrap (IntKind.u64.wrap (bits .and .u8 (x:Int) 127)*2 ^ (7*k)))=(B:Int):=by
 have h1:bits .and .u8 (x:Int) 127=((x &&& 127:Nat):Int):=(bits_nat .u8 8 (by decide) (fun n a b=>wraps_u8 n a b) x 127 (by omega) (by omega)).1
 have h2:x &&& 127≤127:=Nat.and_le_right
 have h3:=bHa k hk
 have h4:(x &&& 127)*2 ^ (7*k)≤127*268435456:=Nat.mul_le_mul h2 h3
 have h5:(((x &&& 127:Nat):Int)*2 ^ (7*k))=(((x &&& 127)*2 ^ (7*k):Nat):Int):=by push_cast;rfl
 have h6:(128:Nat) ^ k≤128 ^ 5:=Nat.pow_le_pow_right (by omega) (by omega)
 rw[h1,oI (((x &&& 127:Nat):Int)) (by omega) (by omega),h5,oI _ (by omega) (by omega),bits_or_u64_nat _ _ (by omega) (by omega),← hB,Nat.shiftLeft_eq]
theorem X6 (c:List UInt8)(k:Nat)(h:k≤5):sV c k<34359738368:=by
 have h6:(128:Nat) ^ k≤128 ^ 5:=Nat.pow_le_pow_right (by omega) (by omega)
 have:=aFb c k
 have:=bBj
 omega
theorem tN (c:ByteArray)(hs:c.size≤40000)(w:World) :
  Calls prog 125 #[.string c] w fun e w'=>e=.returned (.tuple #[.int .i64 (numV (bl c)),.int .i64 (vL (bl c))])∧w'=w:=by
 have hL:=aD c
 obtain⟨V,hV⟩:=eX (numV (bl c))
 obtain⟨K,hK⟩:=eX (vL (bl c))
 rw[hV,hK]
 have HV:Hid _:=hV
 have HK:Hid _:=hK
 clear hV hK
 go_enter func125,ntmps125
 go_wp2
 all_goals
  go_loop [4,5,10] (fun a i j=>∃ k:Nat,k≤5∧k≤c.size∧a=.int .u64 (sV (bl c) k)∧j=.int .i64 k∧∀ m,m<k→128≤((bl c).getD m 0).toNat) (fun _ _ i=>5-(intOf i).toNat)
  case atStart=>exact⟨0,by omega,by omega,rfl,rfl,by omega⟩
  case round=>
   obtain⟨k,hk5,hk,rfl,rfl,hall⟩:=hrel
   have ha:=aFb (bl c) k
   have ho:=aZm (bl c) k
   by_cases hlt:k<5∧k<c.size
   ·have g1:(k:Int)<c.size:=by omega
    have g2:(k:Int)<5:=by omega
    have gk:=aYu c k hlt.2
    have hsm:=X6 (bl c) (k+1) (by omega)
    have hst:=fun h0=>aHl (c:=bl c) (i:=k) hlt.1 (by omega) hall h0
    have hdl:((bl c).drop (k+1)).length=c.size-(k+1):=by rw[List.length_drop,hL]
    have hxl:=c[k].toNat_lt
    rw[gk] at ho hst
    obtain⟨A,hA⟩:=eX (sV (bl c) k)
    obtain⟨B,hB⟩:=eX (sV (bl c) (k+1))
    obtain⟨x,hx⟩:=eX (c[k].toNat)
    rw[hA] at ha ho
    rw[hB] at ho hsm hst
    rw[hx] at ho hst hxl
    simp only[hA]
    have hor:=aXv A x k B (by omega) hlt.1 ha ho
    have HB:Hid _:=hB
    have Hst:Hid _:=hst
    have Hall:Hid _:=hall
    have Hgk:Hid _:=gk
    clear hA ho hB hst hall ha gk
    by_cases hx1:128≤x
    ·have g3:(128:Int)≤x:=by omega
     go_wp2
     go_round
     case rel=>
      refine⟨k+1,by omega,by omega,by rw[HB.out],by go_num,fun m hm=>?_⟩
      by_cases e:m=k
      ·subst e;rw[Hgk.out,hx];exact hx1
      ·exact Hall.out m (by omega)
     case measure=>simp[intOf];omega
    ·have g3:¬ (128:Int)≤x:=by omega
     have hst:=Hst.out (by omega)
     clear Hst
     by_cases hz:0<k∧x=0
     ·rw[if_pos hz] at hst
      have g4:(0:Int)<k:=by omega
      have g5:(x:Int)=0:=by omega
      have g6:((x:Int)==0)=true:=by simp;omega
      obtain rfl:V=0:=by rw[← HV.out];simp only[numV,hst]
      obtain rfl:K=0:=by rw[← HK.out];simp only[vL,hst]
      obtain rfl:x=0:=hz.2
      clear hst hz
      go_wp2
      go_ret2
      exact⟨rfl,rfl⟩
     ·rw[if_neg hz] at hst
      obtain rfl:V=B:=by rw[← HV.out];simp only[numV,hst]
      obtain rfl:K=k+1:=by rw[← HK.out];simp only[vL,hst,hdl,hL];omega
      clear hst HB
      by_cases hk0:k=0
      ·have g4:¬ ((0:Int)<k):=by omega
       clear hk0
       go_wp2
       go_ret2
       exact⟨rfl,rfl⟩
      ·have g4:(0:Int)<k:=by omega
       have g6:((x:Int)==0)=false:=by simp;omega
       have g5:¬ ((x:Int)=0):=by omega
       go_wp2
       go_ret2
       exact⟨rfl,rfl⟩
   ·have hst:=aDp (c:=bl c) (i:=k) hk5 (by omega) hall (by omega)
    obtain rfl:V=0:=by rw[← HV.out];simp only[numV,hst]
    obtain rfl:K=0:=by rw[← HK.out];simp only[vL,hst]
    clear hst ha ho
    by_cases hks:(k:Int)<5
    ·have g1:¬ ((k:Int)<c.size):=by omega
     first
     | (exfalso;omega)
     | (go_wp2
        go_ret2
        exact⟨rfl,rfl⟩)
    ·first
     | (exfalso;omega)
     | (have g1:¬ ((k:Int)<c.size):=by omega
        go_wp2
        go_ret2
        exact⟨rfl,rfl⟩)
     | (go_wp2
        go_ret2
        exact⟨rfl,rfl⟩)
theorem bHe (n:Nat)(h:n<128):n=(UInt8.ofNat n).toNat:=by
 have e:(UInt8.ofNat n).toNat=n:=by simp[UInt8.toNat_ofNat];omega
 exact e.symm
theorem xT (x:Int):∀ u ∈ [Value.int .u8 x],u.oneCell'=true:=by intro u hu;simp at hu;subst hu;rfl
theorem dD {b:Nat}{w:World} (o:Obj) (h:b≤w.heap.size):b≤(w.alloc o).heap.size:=by simp;omega
theorem aRp (f n:Nat):(lW f n).length≤f:=by
 induction f generalizing n with
 | zero=>simp[lW]
 | succ f ih=>
  simp only[lW]
  split
  ·simp
  ·have:=ih (n / 128);simp;omega
theorem cQ (n:Nat):(aY n).length≤10:=aRp 10 n
end Go.Proofs.YtgpamchpeamnfaaGreatDoor
