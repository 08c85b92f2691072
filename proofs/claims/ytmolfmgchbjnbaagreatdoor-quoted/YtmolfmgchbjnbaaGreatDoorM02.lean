import Derived.Test.YtmolfmgchbjnbaaGreatDoorProg
import Derived.Deep.RegionHeld3
import Derived.StillTailTactics
import Derived.RangeFuncWrites
import Derived.RangeFuncCalls
import Derived.OwnWalkIn
import Derived.Lib.TrailingZeros
import Derived.Test.YtmolfmgchbjnbaaGreatDoorMA
set_option linter.unusedSimpArgs false
set_option linter.unusedVariables false
set_option linter.unusedSectionVars false
set_option maxRecDepth 100000
set_option maxHeartbeats 40000000
namespace Go.Proofs.YtmolfmgchbjnbaaGreatDoor
open Go
section
variable {P:Program}{ops:Array Oper}{Q:Exit→Act→WL→Prop}{md:Region.Mode}{S:WL→Prop}{d:Nat}
def wtB (md:Region.Mode) (ops:Array Oper) (i:Nat):Nat→Nat→Bool
 | 0,_=>false
 | n+1,x=>((ops[x]?).map fun o=>o.after.any fun e=>Region.binds md e && (e.on==i || wtB md ops i n e.on)).getD false
def lawB (md:Region.Mode) (ops:Array Oper) (l:Array Bool):Bool:=
 (List.range ops.size).all fun j=>!l.getD j false || ((ops[j]?).map fun o=>o.after.all fun e=>!Region.binds md e || l.getD e.on false).getD true
def Lawf (md:Region.Mode) (ops:Array Oper) (l:Array Bool):Prop:=∀ j o,l.getD j false=true→ops[j]?=some o→∀ e ∈ o.after,Region.binds md e=true→l.getD e.on false=true
theorem lawB_spec {l:Array Bool}(h:lawB md ops l=true):Lawf md ops l:=fun j o hj ho e he hb=>by
 have hlt:=(Age.1 ho).1
 have:=List.all_eq_true.1 h j (List.mem_range.2 hlt)
 simp only[hj,ho,Bool.not_true,Bool.false_or,Option.map_some,Option.getD_some] at this
 have:=Array.all_eq_true'.1 this e he
 simpa [hb] using this
theorem wtL {l:Array Bool}{i:Nat} (hl:Lawf md ops l) (hi:l.getD i false=false):∀ (n x:Nat),wtB md ops i n x=true→l.getD x false=false
 | 0,_,h=>by cases h
 | n+1,x,h=>by
  cases hv:l.getD x false with
  | false=>rfl
  | true=>
   unfold wtB at h
   cases ho:ops[x]? with
   | none=>rw[ho] at h;cases h
   | some o=>
    rw[ho] at h
    simp only[Option.map_some,Option.getD_some] at h
    obtain⟨e,he,h2⟩:=Array.any_eq_true'.1 h
    simp only[Bool.and_eq_true,Bool.or_eq_true,beq_iff_eq] at h2
    have:=hl x o hv ho e he h2.1
    rcases h2.2 with h3 | h3
    ·rw[h3,hi] at this;cases this
    ·rw[wtL hl hi n e.on h3] at this;cases this
theorem law_set {l:Array Bool}{j:Nat} (hl:Lawf md ops l) (hj:j ∈ Region.ready md ops l):Lawf md ops (l.setIfInBounds j true):=fun k o hk ho e he hb=>by
 refine getD_set_true ?_
 by_cases hjk:j=k
 ·subst hjk
  obtain⟨-,o',ho',hall⟩:=mem_ready.1 hj
  rw[ho'] at ho
  cases ho
  exact hall e he hb
 ·rw[getD_set_ne false hjk] at hk
  exact hl k o hk ho e he hb
def wpAnyL (P:Program) (md:Region.Mode) (ops:Array Oper) (Q:Exit→Act→WL→Prop) (S:WL→Prop) (d:Nat):Nat→Array Bool→Act→WL→Prop
 | 0,l,a,w=>Region.ready md ops l=[]∧Q .normal a w
 | fuel+1,l,a,w=>(Region.ready md ops l=[]→Q .normal a w)∧∀ i ∈ Region.ready md ops l,wpOp P ops Q i (fun a' w'=>((l.setIfInBounds i true).getD d false=true∨S w')∧wpAnyL P md ops Q S d fuel (l.setIfInBounds i true) a' w') a w
theorem wpAny_of_L:∀ (fuel:Nat)(l:Array Bool)(a:Act)(w:WL),wpAnyL P md ops Q S d fuel l a w→wpAny P md ops Q fuel l a w
 | 0,_,_,_,h=>h
 | fuel+1,_,_,_,h=>⟨h.1,fun i hi=>wpOp_mono (fun a' w' h'=>wpAny_of_L fuel _ a' w' h'.2) (h.2 i hi)⟩
theorem wpAnyL_first {i:Nat}{oi:Oper}{v:Value}{S':WL→Prop} (hi:ops[i]?=some oi) (hsel:∀ (j:Nat) (o:Oper) cs b,ops[j]?=some o→o.op≠.select cs b)
  (hQ:∀ c a w,Q (.panic c) (a.put oi.dst v) w→Q (.panic c) a w) (hne:d≠i) (hyS:∀ l w,Lawf md ops l→l.getD i false=false→(l.getD d false=true∨S w)→S' w) :
  ∀ (fuel:Nat) (l:Array Bool) (a:Act) (w:WL),Lawf md ops l →
   (∀ j oj,ops[j]?=some oj→j≠i→l.getD j true=false→(∀ e ∈ oj.after,Region.binds md e=true→e.on≠i)→oi.apart ops oj=true) →
   i ∈ Region.ready md ops l→YieldsIf P ops S' oi v a→(l.getD d false=true∨S w) →
   wpAnyL P md ops Q S d fuel (l.setIfInBounds i true) (a.put oi.dst v) w→wpAnyL P md ops Q S d (fuel+1) l a w:=by
 intro fuel;have hun:∀ l:Array Bool,i ∈ Region.ready md ops l→l.getD i false=false:=fun l hr=>by
  have hiu:=(mem_ready.1 hr).1;rcases Nat.lt_or_ge i l.size with h' | h'
  ·simp[h'] at hiu ⊢;exact hiu
  simp[Array.getElem?_eq_none h'] at hiu
 induction fuel with
 | zero=>
  intro l a w hl _ hr hy hS H;refine⟨fun h=>(by rw[h] at hr;cases hr),fun j hj=>?_⟩;by_cases hji:j=i
  ·subst hji;exact hy.wpOp hi (hyS l w hl (hun l hr) hS) ⟨hS.imp getD_set_true id,H⟩
  have:=ready_mono hj hji;rw[H.1] at this;cases this
 | succ fuel ih=>
  intro l a w hl hfree hr hy hS H;refine⟨fun h=>(by rw[h] at hr;cases hr),fun j hj=>?_⟩;by_cases hji:j=i
  ·subst hji;exact hy.wpOp hi (hyS l w hl (hun l hr) hS) ⟨hS.imp getD_set_true id,H⟩
  have h1:=H.2 j (ready_mono hj hji);obtain⟨hjun,oj,hoj,hall⟩:=mem_ready.1 hj;have hnot:∀ e ∈ oj.after,Region.binds md e=true→e.on≠i:=fun e he hb heq=>by
   have h1:=hall e he hb;rw[heq,hun l hr] at h1;cases h1
  have h2:=wpOp_putIf hoj (hfree j oj hoj hji hjun hnot) (fun cs b=>hsel i oi cs b hi) (fun cs b=>hsel j oj cs b hoj) hQ hy h1;have hfree':∀ k ok,ops[k]?=some ok→k≠i→(l.setIfInBounds j true).getD k true=false →
    (∀ e ∈ ok.after,Region.binds md e=true→e.on≠i)→oi.apart ops ok=true:=fun k ok hk hki hun hno=>by
   refine hfree k ok hk hki ?_ hno;by_cases hjk:j=k
   ·subst hjk;exact hjun
   rw[getD_set_ne true hjk] at hun;exact hun
  refine wpOp_mono (fun a' w' h3=>?_) h2;obtain⟨hy',hS',h4⟩:=h3;rw[Array.setIfInBounds_comm _ _ (Ne.symm hji)] at hS' h4;rw[getD_set_ne false (Ne.symm hne)] at hS';exact⟨hS',ih (l.setIfInBounds j true) a' w' (law_set hl hj) hfree' (ready_mono hr (Ne.symm hji)) hy' hS' h4⟩
def Yls (P:Program) (ops:Array Oper) (S:WL→Prop) (K:Act→Prop):LN→Act→Prop
 | [],a=>K a
 | i :: r,a=>∃ o v,ops[i]?=some o∧YieldsIf P ops S o v a∧Yls P ops S K r (a.put o.dst v)
theorem Yls.cons {P:Program}{ops:Array Oper}{S:WL→Prop}{K:Act→Prop}{i:Nat}{r:LN}{a:Act}{o:Oper}{v:Value} (h:ops[i]?=some o) (hy:YieldsIf P ops S o v a) (hr:Yls P ops S K r (a.put o.dst v)):Yls P ops S K (i :: r) a:=⟨o,v,h,hy,hr⟩
theorem Yls.nil {P:Program}{ops:Array Oper}{S:WL→Prop}{K:Act→Prop}{a:Act} (h:K a):Yls P ops S K [] a:=h
def setL:LN→Array Bool→Array Bool
 | [],l=>l
 | i :: r,l=>setL r (l.setIfInBounds i true)
def tksB (md:Region.Mode) (ops:Array Oper):LN→Array Bool→Bool
 | [],_=>Region.noSelect ops
 | i :: r,l=>Region.free md ops l i && (Region.ready md ops l).contains i && tksB md ops r (l.setIfInBounds i true)
theorem tksB_no {md:Region.Mode}{ops:Array Oper}:∀ {r:LN}{l:Array Bool},tksB md ops r l=true→Region.noSelect ops=true
 | [],_,h=>h
 | _ :: r,_,h=>by simp only[tksB,Bool.and_eq_true] at h;exact tksB_no h.2
theorem pan (hQ:∀ c a (t:Tmp) v w,Q (.panic c) (a.put (some t) v) w→Q (.panic c) a w){d:Option Tmp}{c:List PanicEntry}{a:Act}{v:Value}{w:WL} (h:Q (.panic c) (a.put d v) w):Q (.panic c) a w:=by
 cases d with
 | none=>exact h
 | some t=>exact hQ _ _ _ _ _ h
theorem wpAnyH_takes {fuel:Nat}{w:WL} (hQ:∀ c a (t:Tmp) v w,Q (.panic c) (a.put (some t) v) w→Q (.panic c) a w) (hS:S w):∀ (is:LN) {l:Array Bool}{a:Act},tksB md ops is l=true→Yls P ops S (fun a=>wpAnyH P md ops Q S fuel (setL is l) a w) is a→wpAnyH P md ops Q S (fuel+is.length) l a w
 | [],_,_,_,h=>h
 | i :: r,l,a,hb,⟨o,v,ho,hy,h⟩=>by
  have hn:=tksB_no hb
  simp only[tksB,Bool.and_eq_true] at hb
  exact wpAnyH_take ho hn hb.1.1 hb.1.2 (fun c a w=>pan hQ) hy hS (wpAnyH_takes hQ hS r hb.2 h)
theorem wpAnyL_takeG {S':WL→Prop}{fuel:Nat}{w:WL} (hQ:∀ c a (t:Tmp) v w,Q (.panic c) (a.put (some t) v) w→Q (.panic c) a w):∀ (is:LN) {l:Array Bool}{a:Act},Lawf md ops l→tksB md ops is l=true→(∀ i ∈ is,d≠i∧∀ l w,Lawf md ops l→l.getD i false=false→(l.getD d false=true∨S w)→S' w)→(l.getD d false=true∨S w) →
  Yls P ops S' (fun a=>wpAnyL P md ops Q S d fuel (setL is l) a w) is a→wpAnyL P md ops Q S d (fuel+is.length) l a w:=by
 intro is l a;induction is generalizing l a with
 | nil=>intro _ _ _ _ h;exact h
 | cons i r ih=>
  rintro hl hb hy hS ⟨o,v,ho,hyi,h⟩;have hn:=tksB_no hb;simp only[tksB,Bool.and_eq_true] at hb;have hr:i ∈ Region.ready md ops l:=by simpa using hb.1.2
  exact wpAnyL_first ho (Region.noSelect_spec hn) (fun c a w=>pan hQ) (hy i (by simp)).1 (hy i (by simp)).2 _ l a w hl (Region.free_spec ho hb.1.1) hr hyi hS (ih (law_set hl hr) hb.2 (fun j hj=>hy j (by simp[hj])) (hS.imp getD_set_true id) h)
theorem wpAnyL_takes {fuel:Nat}{l:Array Bool}{a:Act}{w:WL} (is:LN) (hb:(lawB md ops l && tksB md ops is l && is.all fun i=>d != i && wtB md ops i ops.size d)=true)
  (hQ:∀ c a (t:Tmp) v w,Q (.panic c) (a.put (some t) v) w→Q (.panic c) a w) (hS:S w) (h:Yls P ops S (fun a=>wpAnyL P md ops Q S d fuel (setL is l) a w) is a):wpAnyL P md ops Q S d (fuel+is.length) l a w:=by
 simp only[Bool.and_eq_true,List.all_eq_true] at hb;refine wpAnyL_takeG hQ is (lawB_spec hb.1.1) hb.1.2 (fun i hi=>⟨by simpa using (hb.2 i hi).1,fun l w hl hu hS=>?_⟩) (.inr hS) h;rcases hS with h8 | h8
 ·rw[wtL hl hu _ d (hb.2 i hi).2] at h8;cases h8
 exact h8
theorem wpAnyL_takesU {fuel:Nat}{l:Array Bool}{a:Act}{w:WL} (is:LN) (hb:(lawB md ops l && tksB md ops is l && is.all fun i=>d != i)=true)
  (hQ:∀ c a (t:Tmp) v w,Q (.panic c) (a.put (some t) v) w→Q (.panic c) a w) (hS:l.getD d false=true∨S w) (h:Yls P ops (fun _=>True) (fun a=>wpAnyL P md ops Q S d fuel (setL is l) a w) is a):wpAnyL P md ops Q S d (fuel+is.length) l a w:=by
 simp only[Bool.and_eq_true,List.all_eq_true] at hb;exact wpAnyL_takeG hQ is (lawB_spec hb.1.1) hb.1.2 (fun i hi=>⟨by simpa using hb.2 i hi,fun _ _ _ _ _=>trivial⟩) hS h
def AllReadyL (P:Program) (md:Region.Mode) (ops:Array Oper) (Q:Exit→Act→WL→Prop) (S:WL→Prop) (d fuel:Nat) (l:Array Bool) (a:Act) (w:WL) (rs:LN):Prop:=
 ∀ i ∈ rs,wpOp P ops Q i (fun a' w'=>((l.setIfInBounds i true).getD d false=true∨S w')∧wpAnyL P md ops Q S d fuel (l.setIfInBounds i true) a' w') a w
theorem AllReadyL.nil {fuel:Nat}{l:Array Bool}{a:Act}{w:WL}:AllReadyL P md ops Q S d fuel l a w []:=fun _ h=>by cases h
theorem AllReadyL.cons {fuel:Nat}{l:Array Bool}{a:Act}{w:WL}{i:Nat}{o:Oper}{rs:LN} (ho:ops[i]?=some o)
  (h:∀ K':Act→WL→Prop,Shut (∀ a w,((l.setIfInBounds i true).getD d false=true∨S w)→wpAnyL P md ops Q S d fuel (l.setIfInBounds i true) a w→K' a w)→if Region.wanted o (yielded ops a.tmps)=true then Oper.wp P o a w K' Q else K' (a.put o.dst undef) w)
  (hs:AllReadyL P md ops Q S d fuel l a w rs):AllReadyL P md ops Q S d fuel l a w (i :: rs):=fun j hj=>by
 rcases List.mem_cons.1 hj with rfl | hj
 ·exact wpOp_step ho (fun K' hK=>h K' (fun a w hS hW=>hK a w ⟨hS,hW⟩))
 ·exact hs j hj
theorem wpAnyL_ready {rs:LN}{fuel:Nat}{l:Array Bool}{a:Act}{w:WL} (hr:Region.ready md ops l=rs) (hne:rs≠[]) (h:AllReadyL P md ops Q S d fuel l a w rs):wpAnyL P md ops Q S d (fuel+1) l a w:=
 ⟨fun h0=>absurd (hr ▸ h0) hne,hr ▸ h⟩
theorem wpAnyL_done {l:Array Bool}{a:Act}{w:WL} (hr:Region.ready md ops l=[]) (h:Q .normal a w):∀ fuel,wpAnyL P md ops Q S d fuel l a w
 | 0=>⟨hr,h⟩
 | _+1=>⟨fun _=>h,by rw[hr];simp⟩
end
theorem wp_region_L {P:Program}{id:Nat}{Q:Exit→Act→WL→Prop}{a:Act}{w:WL}{ops:List Oper} (S:WL→Prop) (d:Nat) (hm:P.follows .mixedOrders=true)
  (h:wpAnyL P .any ops.toArray (NoPanic Q) S d ops.toArray.size (Array.replicate ops.toArray.size false) a w.drew):(Code.region id ops.toArray true).wp P Q a w:=
 wp_region_noPanic (wp_region_any hm (wpAny_of_L _ _ _ _ h))
theorem wpAny_tail {P:Program}{Q:Exit→Act→WL→Prop}{a:Act}{w:WL}{l:List Oper} (n:Nat) (hB:Region.lexTailB .any l.toArray n=true)
  (h:wpStill P l.toArray w (fun a'=>wpList P l.toArray Q (l.drop n) a' w) (l.take n) a):wpAny P .any l.toArray Q l.toArray.size (Array.replicate l.toArray.size false) a w:=by
 simp only[Region.lexTailB,Bool.and_eq_true,decide_eq_true_eq] at hB;obtain⟨⟨⟨⟨hsel,hn⟩,hs⟩,hc⟩,hlex⟩:=hB;have htl:(l.take n).length=n:=by simp at hn ⊢;omega
 have hdl:(l.drop n).length=l.toArray.size-n:=by simp
 have inv0:HeadInv .any l.toArray n (Array.replicate l.toArray.size false):=
  ⟨by simp,fun j oj _ hl=>(by rw[getD_replicate_false] at hl;cases hl),fun t _ ht=>getD_in (by simpa using ht) (getD_replicate_false _ _)⟩
 have H:=wpAnyL_lex (md:=.any) (g:=l.toArray.size-n) hsel hs hc hn (l.take n) 0 _ a (fun j hj=>by rw[htl] at hj;simp[hj]) (by simpa using htl) inv0 (by rw[htl];exact hlex) h;have E:=wpAny_of_head (Q':=Q) (g:=l.toArray.size-n) (fun listed a' hL=>by
  have:=wpAny_of_seq (md:=.any) (Q':=Q) (l.drop n) n listed a' w (fun j=>by simp[List.getElem?_drop]) (by rw[hdl];exact hL.1) hL.2
  rwa [hdl] at this) _ _ _ H
 rwa [htl,show n+(l.toArray.size-n)=l.toArray.size by omega] at E
theorem wpAny_lex {P:Program}{Q:Exit→Act→WL→Prop}{a:Act}{w:WL}{l:List Oper} (hB:Region.lexB .any l.toArray=true)
  (h:wpStill P l.toArray w (fun a'=>Q .normal a' w) l a):wpAny P .any l.toArray Q l.toArray.size (Array.replicate l.toArray.size false) a w:=by
 simp only[Region.lexB,Bool.and_eq_true] at hB;refine wpAny_of_still (Q:=fun a'=>Q .normal a' w) (fun _ h=>h) _ _ _ ?_;have:=wpAnyS_lex (md:=.any) hB.1 l 0 (Array.replicate l.toArray.size false) a (by simp) (by simpa using hB.2) h;simpa using this
theorem wp_region_tail {P:Program}{id:Nat}{Q:Exit→Act→WL→Prop}{a:Act}{w:WL}{ops:List Oper} (n:Nat) (hm:P.follows .mixedOrders=true) (hB:Region.lexTailB .any ops.toArray n=true)
  (h:wpStill P ops.toArray w.drew (fun a'=>wpList P ops.toArray Q (ops.drop n) a' w.drew) (ops.take n) a):(Code.region id ops.toArray true).wp P Q a w:=
 wp_region_any hm (wpAny_tail n hB h)
theorem wp_region_lex {P:Program}{id:Nat}{Q:Exit→Act→WL→Prop}{a:Act}{w:WL}{ops:List Oper} (hm:P.follows .mixedOrders=true) (hB:Region.lexB .any ops.toArray=true)
  (h:wpStill P ops.toArray w.drew (fun a'=>Q .normal a' w.drew) ops a):(Code.region id ops.toArray true).wp P Q a w:=
 wp_region_any hm (wpAny_lex hB h)
theorem wp_region_heldD {P:Program}{id:Nat}{Q:Exit→Act→WL→Prop}{a:Act}{w:WL}{ops:List Oper} (S:WL→Prop) (hm:P.follows .mixedOrders=true)
  (h:wpAnyH P .any ops.toArray Q S ops.toArray.size (Array.replicate ops.toArray.size false) a w.drew):(Code.region id ops.toArray true).wp P Q a w:=
 wp_region_any hm (wpAny_of_held _ _ _ _ h)
theorem hmX:Go.Proofs.Tryz.prog.follows Departure.mixedOrders=true:=by kernel_rfl
def bitsOf (x:Nat):LN:=(List.range 64).filter (fun i=>x.testBit i)
end Go.Proofs.YtmolfmgchbjnbaaGreatDoor
