import Derived.Test.YtmolfmgchbjnbaaGreatDoorM04
set_option linter.unusedSimpArgs false
set_option linter.unusedVariables false
set_option linter.unusedSectionVars false
set_option maxRecDepth 100000
set_option maxHeartbeats 40000000
namespace Go.Proofs.YtmolfmgchbjnbaaGreatDoor
namespace Flow
open Wire
def readAll (m:Mo) (f locs:Nat) (c:LB):Nat→Nat→Option (List Stp)
 | 0,_=>none
 | n+1,i=>if i=c.length then some [] else if i<c.length then
   match decodeL m f locs c i with
   | .inl _=>none
   | .inr s=>(readAll m f locs c n s.nx).map (s :: ·)
  else none
def hasB (G:List (Option (LB))) (k:Nat) (st:LB):Bool:=
 match G[k]? with
 | some (some t)=>leSB st t
 | _=>false
theorem hasB_ok {G:List (Option (LB))}{k:Nat}{st:LB} (h:hasB G k st=true):Has G k st:=by
 unfold hasB at h;split at h
 ·rename_i t ht
  exact⟨t,ht,leSB_iff.1 h⟩
 cases h
def farB (l:List Stp) (G:List (Option (LB))) (a:Nat) (r:LB):Bool:=
 match numb l a with
 | some k=>hasB G k r
 | none=>false
def doneB (par:NN) (l:List Stp) (G:List (Option (LB))) (i:Nat) (s:Stp) (st:LB):Bool:=
 match after par s.op s.a st with
 | some (o,r)=>(!far s.op || farB l G s.a r) && (halts s.op || hasB G (i+1) o)
 | none=>false
def eachB (par:NN) (l:List Stp) (G:List (Option (LB))):Nat→List Stp→List (Option (LB))→Bool
 | _,[],[]=>true
 | i,s :: r,none :: q=>eachB par l G (i+1) r q
 | i,s :: r,some st :: q=>doneB par l G i s st && eachB par l G (i+1) r q
 | _,_,_=>false
theorem doneB_ok {par:NN}{l:List Stp}{G:List (Option (LB))}{i:Nat}{s:Stp}{st:LB} (h:doneB par l G i s st=true):∃ o r,after par s.op s.a st=some (o,r)∧(far s.op=true→∃ k,numb l s.a=some k∧Has G k r)∧(halts s.op=false→Has G (i+1) o):=by
 unfold doneB at h;split at h
 ·rename_i o r ho
  simp only[Bool.and_eq_true,Bool.or_eq_true,Bool.not_eq_true'] at h;refine⟨o,r,ho,fun hf=>?_,fun hh=>?_⟩
  ·rcases h.1 with q | q
   ·rw[hf] at q;cases q
   unfold farB at q;split at q
   ·rename_i k hk
    exact⟨k,hk,hasB_ok q⟩
   cases q
  rcases h.2 with q | q
  ·rw[hh] at q;cases q
  exact hasB_ok q
 cases h
theorem eachB_ok {par:NN}{l:List Stp}{G:List (Option (LB))}:∀ {i:Nat}{r:List Stp}{q:List (Option (LB))},eachB par l G i r q=true→r.length=q.length∧∀ j st s,q[j]?=some (some st)→r[j]?=some s→∃ o x,after par s.op s.a st=some (o,x)∧(far s.op=true→∃ k,numb l s.a=some k∧Has G k x)∧(halts s.op=false→Has G (i+j+1) o)
 | i,[],[],_=>⟨rfl,fun j st s hq=>by simp at hq⟩
 | i,[],_ :: _,h=>by cases h
 | i,s :: r,[],h=>by cases h
 | i,s :: r,none :: q,h=>by
  simp only[eachB] at h
  obtain⟨h1,h2⟩:=eachB_ok h
  refine⟨by simp[h1],fun j st x hj hx=>?_⟩
  cases j with
  | zero=>simp at hj
  | succ j=>
   have:=h2 j st x (by simpa using hj) (by simpa using hx)
   rw[show i+1+j+1=i+(j+1)+1 by omega] at this
   exact this
 | i,s :: r,some t :: q,h=>by
  simp only[eachB,Bool.and_eq_true] at h
  obtain⟨h1,h2⟩:=eachB_ok h.2
  refine⟨by simp[h1],fun j st x hj hx=>?_⟩
  cases j with
  | zero=>
   simp at hj hx
   subst hj hx
   exact doneB_ok h.1
  | succ j=>
   have:=h2 j st x (by simpa using hj) (by simpa using hx)
   rw[show i+1+j+1=i+(j+1)+1 by omega] at this
   exact this
def firstB:List (Option (LB))→Bool
 | some [] :: _=>true
 | _=>false
theorem sol_of {par:NN}{l:List Stp}{G:List (Option (LB))} (h0:firstB G=true) (h:eachB par l G 0 l G=true):Sol par l G:=by
 obtain⟨h1,h2⟩:=eachB_ok h;refine⟨h1.symm,?_,fun i hi st s hG hl=>?_⟩
 ·unfold firstB at h0;split at h0
  ·rfl
  cases h0
 have:=h2 i st s hG hl;rw[Nat.zero_add] at this;exact this
def fnB (m:Mo) (f:Nat) (l:List Stp) (G:List (Option (LB))):Bool:=
 (readAll m f (Mach.locsOf m f) (Mach.codeOf m f) 1000 0).isSome && (badJump l l).isNone && firstB G && eachB (Mach.parOf m) l G 0 l G && decide (Mach.parOf m f≤Mach.locsOf m f) && decide (Mach.locsOf m f≤16) && decide (l.length≤20000)
end Flow
namespace Mach
open Wire Flow
def Steps (E:Env) (n:Nat) (s s':St):Prop:=Plays E n s s'∧Good E s'
section
variable {E:Env}{n k:Nat}{s a b:St}
theorem Steps.refl (h:Good E s):Steps E 0 s s:=⟨rfl,h⟩
theorem Steps.trans (h:Steps E n s a)(g:Steps E k a b):Steps E (n+k) s b:=⟨h.1.append g.1,g.2⟩
theorem Steps.next (hE:SmE E)(hM:ModOk E.mo)(h:Steps E n s a)(ha:a.st=0){low:List Frm}{fr:Frm} (hf:a.frs=low++[fr]) {i:Stp} (hd:decodeL E.mo fr.f (locsOf E.mo fr.f) (codeOf E.mo fr.f) fr.at_=.inr i) {rest top:List Cell} (hs:fr.stk=rest++top) (hl:top.length=(want (parOf E.mo) i.op i.a).length):Steps E (n+1) s (does E a low fr i rest top):=by
 obtain⟨low',fr',i',rest',top',hR,-⟩:=Inv.ready (E:=E) (s:=a) (h.2.inv ha).1;obtain⟨e1,e2⟩:=List.append_inj' (hf.symm.trans hR.frs) rfl;simp only[List.cons.injEq,and_true] at e2;subst e1 e2;have e3:=hd.symm.trans hR.dec;simp only[Sum.inr.injEq] at e3;subst e3;have l1:=leS_length hR.takes;rw[List.length_map] at l1;obtain⟨e5,e6⟩:=List.append_inj' (hs.symm.trans hR.stk) (hl.trans l1.symm);subst e5 e6;exact⟨h.1.more ha hR,h.2.does hE hM ha hR⟩
theorem Steps.till (h:Steps E n s a)(ha:a.st≠0){N:Nat}(hN:n≤N):Plays E N s a:=by
 have:=h.1.append (plays_ended E (N-n) ha);rw[show n+(N-n)=N by omega] at this;exact this
end
theorem next_none {w:Wd}(h:w.recs.drop w.nr=[]):nextR w=(w,false):=by
 have h1:w.recs[w.nr]?=none:=by
  rw[List.drop_eq_nil_iff] at h;exact List.getElem?_eq_none h
 unfold nextR;rw[h1]
end Mach
end Go.Proofs.YtmolfmgchbjnbaaGreatDoor
