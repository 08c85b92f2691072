import Derived.Test.YtlokkgajpjafmaaGreatDoorM03
set_option linter.unusedSimpArgs false
set_option linter.unusedVariables false
set_option maxRecDepth 100000
set_option maxHeartbeats 40000000
namespace Go.Proofs.YtlokkgajpjafmaaGreatDoor
namespace Mach
open Wire Flow
structure Frm where
 f:Nat
 at_:Nat
 locs:List Val
 stk:List aJ
structure St where
 w:Wd
 frs:List Frm
 st:Nat
 code:Int
 used:Nat
def fnOf (m:Mo) (f:Nat):Wire.Fn:=m.fns.getD f ⟨0,0,cU⟩
def codeOf (m:Mo) (f:Nat):LB:=bl (fnOf m f).code
def locsOf (m:Mo) (f:Nat):Nat:=(fnOf m f).locs.toNat
def parOf (m:Mo) (f:Nat):Nat:=(fnOf m f).params.toNat
def enter (m:Mo) (f:Nat) (args:List Val):Frm:=⟨f,0,args++List.replicate (locsOf m f-args.length) nothing,[]⟩
def over (m:Mo) (s:St) (f:Nat):St:=
 if f=2 then { s with st:=1 }
 else if (nextR s.w).2=true then { s with w:=(nextR s.w).1,frs:=[enter m 1 []] }
 else { s with frs:=[enter m 2 []] }
def does (E:Env) (s:St) (low:List Frm) (fr:Frm) (i:Stp) (rest top:List aJ):St:=
 if i.op=50 then
  if 20<low.length+1 then { s with st:=9,used:=s.used+1 }
  else { s with used:=s.used+1,frs:=low++[⟨fr.f,i.nx,fr.locs,rest⟩,enter E.mo i.a (top.map aJ.v)] }
 else if i.op=51 then
  match low.getLast? with
  | none=>s
  | some g=>{ s with used:=s.used+1,frs:=low.dropLast++[⟨g.f,g.at_,g.locs,g.stk++[cv (top.getD 0 c0).v]⟩] }
 else if i.op=52 then over E.mo { s with used:=s.used+1 } fr.f
 else if (eff E s.w fr.locs i.op i.a i.b top).st≠0 then
  { s with w:=(eff E s.w fr.locs i.op i.a i.b top).w,st:=(eff E s.w fr.locs i.op i.a i.b top).st,code:=(eff E s.w fr.locs i.op i.a i.b top).code,used:=s.used+1 }
 else
  { s with w:=(eff E s.w fr.locs i.op i.a i.b top).w,used:=s.used+1,frs:=low++[⟨fr.f,((eff E s.w fr.locs i.op i.a i.b top).go).getD i.nx,(eff E s.w fr.locs i.op i.a i.b top).locs,rest++(eff E s.w fr.locs i.op i.a i.b top).top⟩] }
structure Ready (E:Env) (s:St) (low:List Frm) (fr:Frm) (i:Stp) (rest top:List aJ):Prop where
 frs:s.frs=low++[fr]
 at_:fr.at_<(codeOf E.mo fr.f).length
 dec:bH E.mo fr.f (locsOf E.mo fr.f) (codeOf E.mo fr.f) fr.at_=.inr i
 stk:fr.stk=rest++top
 takes:leS (top.map kd) (mF (parOf E.mo) i.op i.a)
 high:rest.length+(sN i.op (top.map kd)).length≤1024
theorem Ready.unique {E:Env}{s:St}{low low':List Frm}{fr fr':Frm}{i i':Stp}{rest rest' top top':List aJ} (h:Ready E s low fr i rest top) (g:Ready E s low' fr' i' rest' top'):low=low'∧fr=fr'∧i=i'∧rest=rest'∧top=top':=by
 have e:=h.frs.symm.trans g.frs;obtain⟨e1,e2⟩:=List.append_inj' e rfl;simp only[List.cons.injEq,and_true] at e2;subst e1 e2;have e3:=h.dec.symm.trans g.dec;simp only[Sum.inr.injEq] at e3;subst e3;have e4:=h.stk.symm.trans g.stk;have l1:=eI h.takes;have l2:=eI g.takes;rw[List.length_map] at l1 l2;obtain⟨e5,e6⟩:=List.append_inj' e4 (l1.trans l2.symm);exact⟨rfl,rfl,rfl,e5,e6⟩
def FnOk (m:Mo) (f:Nat):Prop:=∃ l,eO m f (locsOf m f) (codeOf m f) l∧eU l l=none∧Flow.Safe (parOf m) l
def qL (m:Mo) (f at_:Nat) (ks:LB):Prop:=∃ l G,eO m f (locsOf m f) (codeOf m f) l∧Sol (parOf m) l G∧aEd l G at_ ks
theorem qL.lower {m:Mo}{f at_:Nat}{ks ks':LB} (h:qL m f at_ ks) (hl:leS ks' ks):qL m f at_ ks':=by
 obtain⟨l,G,h1,h2,h3⟩:=h;exact⟨l,G,h1,h2,h3.lower hl⟩
theorem FnOk.begin {m:Mo}{f:Nat} (h:FnOk m f):qL m f 0 []:=by
 obtain⟨l,h1,h2,G,h3⟩:=h;exact⟨l,G,h1,h3,aFn h1 h3⟩
structure Inv (m:Mo) (frs:List Frm):Prop where
 some_:frs≠[]
 kinds:∀ i g,frs[i]?=some g→(i=0↔g.f<3)
 fns:∀ g ∈ frs,g.f<m.fns.length∧g.locs.length=locsOf m g.f
 on:∀ g,frs.getLast?=some g→qL m g.f g.at_ (g.stk.map kd)∧g.stk.length≤1024
 low:∀ g ∈ frs.dropLast,qL m g.f g.at_ (g.stk.map kd++[97])∧g.stk.length+1≤1024
theorem Inv.split {m:Mo}{frs:List Frm} (h:Inv m frs):∃ low fr,frs=low++[fr]:=by
 rcases List.eq_nil_or_concat frs with h0 | ⟨low,fr,h0⟩
 ·exact absurd h0 h.some_
 exact⟨low,fr,by simpa using h0⟩
theorem O6 {stk:List aJ}{r t:LB} (h:stk.map kd=r++t):∃ rest top,stk=rest++top∧rest.map kd=r∧top.map kd=t:=by
 obtain⟨a,b,h1,h2,h3⟩:=List.map_eq_append_iff.1 h;exact⟨a,b,h1,h2,h3⟩
theorem Inv.ready {E:Env}{s:St} (h:Inv E.mo s.frs):∃ low fr i rest top,Ready E s low fr i rest top∧fr.stk.length≤1024 ∧
  (far i.op=true→qL E.mo fr.f i.a (rest.map kd))∧(dS i.op=false→qL E.mo fr.f i.nx (rest.map kd++sN i.op (top.map kd)))∧fT fr.f i.op=true:=by
 obtain⟨low,fr,hs⟩:=h.split;obtain⟨⟨l,G,hr,hG,hf⟩,hh⟩:=h.on fr (by rw[hs];simp);obtain⟨i,o,r,h1,h2,h3,h4,h5,h6⟩:=aKy hr hG hf;obtain⟨top,e1,e2,e3,e4⟩:=aDu h4;obtain⟨rest,tp,f1,f2,f3⟩:=O6 e1;subst f2 f3;obtain⟨-,-,-,-,hm⟩:=cE h1 h2;refine⟨low,fr,i,rest,tp,⟨hs,h1,h2,f1,e2,?_⟩,hh,?_,?_,hm⟩
 ·have:=e4;rw[e3] at this;simpa using this
 ·intro hfar;exact⟨l,G,hr,hG,h5 hfar⟩
 intro hh2;rw[← e3];exact⟨l,G,hr,hG,h6 hh2⟩
theorem aUg (t:LB):sN 50 t=[97]:=rfl
theorem yI {rest top:List aJ}{t:LB} (h:leS (top.map kd) t):leS ((rest++top).map kd) (rest.map kd++t):=by
 rw[List.map_append];exact kJ (eD _) h
theorem aCu {E:Env}{w:Wd}{locs:List Val}{op a b:Nat}{top:List aJ}:(eff E w locs op a b top).locs.length=locs.length:=by
 unfold eff;split <;> (try rfl)
 ·simp[Eff.off]
 ·split <;> (try split) <;> rfl
 ·split <;> rfl
 ·split <;> rfl
 ·split <;> rfl
 ·split <;> rfl
 ·split <;> rfl
 split <;> rfl
theorem tU {m:Mo}{f:Nat} (hf:f<3) (hm:f<m.fns.length) (h:FnOk m f):Inv m [enter m f []] where
 some_:=by simp
 kinds:=by
  intro i g hi;cases i with
  | zero=>
   simp only[List.getElem?_cons_zero,Option.some.injEq] at hi;subst hi;simp[enter,hf]
  | succ i=>simp at hi
 fns:=by
  intro g hg;simp only[List.mem_singleton] at hg;subst hg;simp[enter,hm]
 on:=by
  intro g hg;simp only[List.getLast?_singleton,Option.some.injEq] at hg;subst hg;exact⟨by simpa [enter] using h.begin,by simp[enter]⟩
 low:=by
  intro g hg;simp at hg
theorem Inv.change {m:Mo}{low:List Frm}{fr fr':Frm} (h:Inv m (low++[fr])) (hf:fr'.f=fr.f) (hl:fr'.locs.length=fr.locs.length) (hfit:qL m fr'.f fr'.at_ (fr'.stk.map kd)) (hh:fr'.stk.length≤1024):Inv m (low++[fr']) where
 some_:=by simp
 kinds:=by
  intro i g hi;rcases Nat.lt_trichotomy i low.length with c | c | c
  ·rw[List.getElem?_append_left c] at hi;exact h.kinds i g (by rw[List.getElem?_append_left c];exact hi)
  ·subst c;rw[List.getElem?_append_right (Nat.le_refl _)] at hi;simp only[Nat.sub_self,List.getElem?_cons_zero,Option.some.injEq] at hi;subst hi;rw[hf];exact h.kinds low.length fr (by rw[List.getElem?_append_right (Nat.le_refl _)];simp)
  rw[List.getElem?_append_right (Nat.le_of_lt c)] at hi;have:i-low.length≠0:=by omega
  obtain⟨k,hk⟩:∃ k,i-low.length=k+1:=⟨i-low.length-1,by omega⟩;rw[hk] at hi;simp at hi
 fns:=by
  intro g hg;rcases List.mem_append.1 hg with hg | hg
  ·exact h.fns g (List.mem_append.2 (Or.inl hg))
  simp only[List.mem_singleton] at hg;subst hg;have:=h.fns fr (by simp);rw[hf,hl];exact this
 on:=by
  intro g hg;simp only[List.getLast?_append,List.getLast?_singleton,Option.some_or,Option.some.injEq] at hg;subst hg;exact⟨hfit,hh⟩
 low:=by
  intro g hg;have:=h.low g;simp only[List.dropLast_concat] at hg this;exact this hg
theorem Inv.call {m:Mo}{low:List Frm}{fr fr':Frm}{f:Nat}{args:List Val} (h:Inv m (low++[fr])) (hf:fr'.f=fr.f) (hl:fr'.locs.length=fr.locs.length) (hfit:qL m fr'.f fr'.at_ (fr'.stk.map kd++[97])) (hh:fr'.stk.length+1≤1024)
  (h3:3≤f) (hm:f<m.fns.length) (ha:args.length≤locsOf m f) (hok:FnOk m f):Inv m (low++[fr',enter m f args]) where
 some_:=by simp
 kinds:=by
  intro i g hi;rcases Nat.lt_or_ge i (low.length) with c | c
  ·rw[List.getElem?_append_left c] at hi;exact h.kinds i g (by rw[List.getElem?_append_left c];exact hi)
  rw[List.getElem?_append_right c] at hi;rcases Nat.eq_or_lt_of_le c with c | c
  ·rw[← c] at hi ⊢;simp only[Nat.sub_self,List.getElem?_cons_zero,Option.some.injEq] at hi;subst hi;rw[hf];exact h.kinds low.length fr (by rw[List.getElem?_append_right (Nat.le_refl _)];simp)
  obtain⟨k,hk⟩:∃ k,i-low.length=k+1:=⟨i-low.length-1,by omega⟩;rw[hk,List.getElem?_cons_succ] at hi;cases k with
  | zero=>
   simp only[List.getElem?_cons_zero,Option.some.injEq] at hi;subst hi;simp only[enter];omega
  | succ k=>simp at hi
 fns:=by
  intro g hg;rcases List.mem_append.1 hg with hg | hg
  ·exact h.fns g (List.mem_append.2 (Or.inl hg))
  simp only[List.mem_cons,List.not_mem_nil,or_false] at hg;rcases hg with rfl | rfl
  ·have:=h.fns fr (by simp);rw[hf,hl];exact this
  refine⟨hm,?_⟩;simp only[enter,Lla,List.length_replicate];omega
 on:=by
  intro g hg;have e:low++[fr',enter m f args]=(low++[fr'])++[enter m f args]:=by simp
  rw[e] at hg;simp only[List.getLast?_append,List.getLast?_singleton,Option.some_or,Option.some.injEq] at hg;subst hg;exact⟨by simpa [enter] using hok.begin,by simp[enter]⟩
 low:=by
  intro g hg;have e:low++[fr',enter m f args]=(low++[fr'])++[enter m f args]:=by simp
  rw[e,List.dropLast_concat] at hg;rcases List.mem_append.1 hg with hg | hg
  ·have:=h.low g;simp only[List.dropLast_concat] at this;exact this hg
  simp only[List.mem_singleton] at hg;subst hg;exact⟨hfit,hh⟩
theorem Inv.ret {m:Mo}{low:List Frm}{g fr:Frm}{c:aJ} (h:Inv m (low++[g]++[fr])) (hc:le (kd c) 97):Inv m (low++[⟨g.f,g.at_,g.locs,g.stk++[c]⟩]):=by
 have hg:=h.low g (by simp)
 have h':Inv m (low++[⟨g.f,g.at_,g.locs,g.stk++[c]⟩]):={
  some_:=by simp
  kinds:=by
   intro i x hi
   rcases Nat.lt_or_ge i low.length with d | d
   ·rw[List.getElem?_append_left d] at hi
    exact h.kinds i x (by rw[List.append_assoc,List.getElem?_append_left d];exact hi)
   ·rw[List.getElem?_append_right d] at hi
    rcases Nat.eq_or_lt_of_le d with d | d
    ·rw[← d] at hi ⊢
     simp only[Nat.sub_self,List.getElem?_cons_zero,Option.some.injEq] at hi
     subst hi
     exact h.kinds low.length g (by rw[List.append_assoc,List.getElem?_append_right (Nat.le_refl _)];simp)
    ·obtain⟨k,hk⟩:∃ k,i-low.length=k+1:=⟨i-low.length-1,by omega⟩
     rw[hk] at hi
     simp at hi
  fns:=by
   intro x hx
   rcases List.mem_append.1 hx with hx | hx
   ·exact h.fns x (by simp[hx])
   ·simp only[List.mem_singleton] at hx
    subst hx
    exact h.fns g (by simp)
  on:=by
   intro x hx
   simp only[List.getLast?_append,List.getLast?_singleton,Option.some_or,Option.some.injEq] at hx
   subst hx
   refine⟨hg.1.lower ?_,by simpa using hg.2⟩
   rw[List.map_append]
   exact kJ (eD _) ⟨hc,trivial⟩
  low:=by
   intro x hx
   simp only[List.dropLast_concat] at hx
   exact h.low x (by simp[hx]) }
 exact h'
theorem Inv.does {E:Env}{s:St}{low:List Frm}{fr:Frm}{i:Stp}{rest top:List aJ} (hI:Inv E.mo s.frs) (hF:∀ f,f<E.mo.fns.length→FnOk E.mo f) (h3:3≤E.mo.fns.length)
  (hpar:∀ f,f<E.mo.fns.length→parOf E.mo f≤locsOf E.mo f) (hcall:i.op=50→3≤i.a∧i.a<E.mo.fns.length)
  (hR:Ready E s low fr i rest top) (hst:(does E s low fr i rest top).st=0):Inv E.mo (does E s low fr i rest top).frs:=by
 obtain⟨low',fr',i',rest',top',hR',hh,hfar,hgo,hm⟩:=hI.ready;obtain⟨rfl,rfl,rfl,rfl,rfl⟩:=hR.unique hR';have hI':=hI;rw[hR.frs] at hI';have hop:=oY hm;have hhigh:=hR.high
 revert hst
 unfold Mach.does;split
 ·rename_i h50
  split
  ·intro hst;cases hst
  intro hst;obtain⟨ha1,ha2⟩:=hcall h50;have hg:=hgo (by rw[h50];rfl);rw[h50,aUg] at hg hhigh;refine hI'.call (fr':=⟨fr.f,i.nx,fr.locs,rest⟩) rfl rfl hg (by simpa using hhigh) ha1 ha2 ?_ (hF _ ha2);have hl:=eI hR.takes;rw[List.length_map,h50] at hl;have:(mF (parOf E.mo) 50 i.a).length=parOf E.mo i.a:=by simp[mF]
  rw[List.length_map,hl,this];exact hpar _ ha2
 ·rename_i h50
  split
  ·rename_i h51
   intro hst;rcases List.eq_nil_or_concat low with h0 | ⟨low2,g,h0⟩
   ·subst h0;have:=(hI'.kinds 0 fr (by simp)).1 rfl;unfold fT at hm;rw[h51] at hm;simp[this] at hm
   have h0':low=low2++[g]:=by simpa using h0
   subst h0';simp only[List.getLast?_append,List.getLast?_singleton,Option.some_or,List.dropLast_concat];exact hI'.ret (qX _)
  ·rename_i h51
   split
   ·rename_i h52
    intro hst;unfold over at hst ⊢;split
    ·rename_i h2
     rw[if_pos h2] at hst;cases hst
    split
    ·exact tU (by omega) (by omega) (hF 1 (by omega))
    exact tU (by omega) (by omega) (hF 2 (by omega))
   ·rename_i h52
    split
    ·rename_i hne
     intro hst;exact absurd hst hne
    ·rename_i he
     intro hst;have he':(eff E s.w fr.locs i.op i.a i.b top).st=0:=by
      rcases Nat.eq_zero_or_pos (eff E s.w fr.locs i.op i.a i.b top).st with c | c
      ·exact c
      exact absurd (show (eff E s.w fr.locs i.op i.a i.b top).st≠0 by omega) he
     rcases aLi hop h50 h51 h52 hR.takes he' with ⟨e1,e2,e3⟩ | ⟨e1,e2,e3⟩
     ·refine hI'.change rfl aCu ?_ ?_
      ·rw[e1];exact (hgo e2).lower (yI e3)
      have:=eI e3;rw[List.length_map] at this;simp only[Lla];omega
     refine hI'.change rfl aCu ?_ ?_
     ·rw[e2,e3,List.append_nil];exact hfar e1
     rw[e3,List.append_nil];have:=hR.stk;rw[this] at hh;simp only[Lla] at hh;simp only;omega
end Mach
namespace Mach
open Wire Flow
structure SmV (v:Val):Prop where
 lo:-1000000000≤v.n
 hi:v.n≤1000000000
 sz:v.s.size≤100
def SmC (c:aJ):Prop:=SmV c.v∧∀ k ∈ c.keys,k.size≤100
structure SmA (a:List (BA × Val)):Prop where
 len:a.length≤30
 once:(aM a).Nodup
 each:∀ e ∈ a,e.1.size≤100∧SmV e.2
structure SmW (w:Wd):Prop where
 recs:∀ s ∈ w.recs,s.size≤100
 nr:w.nr≤w.recs.length
 nrec:w.recs.length≤50
 draws:∀ n ∈ w.draws,-1000000000≤n∧n≤1000000000
 ndr:w.draws.length≤50
 drawn:w.drawn≤w.draws.length
 rcd:w.rcd.size≤100
 flds:∀ s ∈ w.flds,s.size≤100
 nf:w.flds.length≤100
 out:w.out.size≤1000
 globs:∀ v ∈ w.globs,SmV v
 arrs:∀ a ∈ w.arrs,SmA a
structure SmE (E:Env):Prop where
 texts:∀ s ∈ E.mo.texts,s.size≤100
 fnd:∀ p s,s.size≤100→-1≤(E.fnd p s).1∧(E.fnd p s).1≤100∧0≤(E.fnd p s).2∧(E.fnd p s).2≤100
 spl:∀ p s,s.size≤100→∀ t ∈ E.spl p s,t.size≤100
 itoa:∀ n,-1000000000≤n→n≤1000000000→(E.itoa n).size≤100
 inj:∀ i j:Nat,i≤30→j≤30→E.itoa (i:Int)=E.itoa (j:Int)→i=j
 wr:∀ n:Int,-2000000000000000000≤n→n≤2000000000000000000→E.wr n=n
theorem cS:SmV nothing:=⟨by decide,by decide,by decide⟩
theorem iC {s:BA}(h:s.size≤100):SmV (dZ s):=⟨by simp[dZ],by simp[dZ],h⟩
theorem bJ {n:Int}(h1:-1000000000≤n)(h2:n≤1000000000):SmV (whole n):=⟨h1,h2,(by decide:cU.size≤100)⟩
theorem xM {s:BA}(h:s.size≤100):SmV (dF s):=by
 unfold dF;split
 ·exact⟨by simp,by simp,h⟩
 exact iC h
theorem bA {v:Val}(h:SmV v):SmC (cv v):=⟨h,by simp[cv]⟩
theorem aWk:SmC c0:=bA cS
theorem aDb (n:Int):-1000000000≤gX n∧gX n≤1000000000:=by
 unfold gX;split
 ·omega
 split <;> omega
theorem nL {v:Val}(h:SmV v):-1000000000≤numV v∧numV v≤1000000000:=by
 unfold numV;split
 ·omega
 split
 ·exact⟨h.lo,h.hi⟩
 exact aDb _
theorem cB {E:Env}(hE:SmE E){v:Val}(h:SmV v):(aD E v).size≤100:=by
 unfold aD;split
 ·decide
 split
 ·exact hE.itoa _ h.lo h.hi
 exact h.sz
theorem fP (b:Bool):SmV (whole (eZ b)):=by
 unfold eZ;split
 ·exact bJ (by omega) (by omega)
 exact bJ (by omega) (by omega)
theorem aHv {l:List Val}(h:∀ v ∈ l,SmV v)(i:Nat):SmV (l.getD i nothing):=by
 rw[List.getD_eq_getElem?_getD];rcases hq:l[i]? with _ | v
 ·exact cS
 exact h v (List.mem_of_getElem? hq)
theorem aMt {l:List Val}(h:∀ v ∈ l,SmV v)(i:Nat){v:Val}(hv:SmV v):∀ x ∈ l.set i v,SmV x:=by
 intro x hx;rcases List.mem_or_eq_of_mem_set hx with hx | rfl
 ·exact h x hx
 exact hv
theorem kU {l:List (List (BA × Val))}(h:∀ a ∈ l,SmA a)(i:Nat):SmA (l.getD i []):=by
 rw[List.getD_eq_getElem?_getD];rcases hq:l[i]? with _ | v
 ·exact⟨by simp,by simp[aM],by simp⟩
 exact h v (List.mem_of_getElem? hq)
theorem rZ {l:List (List (BA × Val))}(h:∀ a ∈ l,SmA a)(i:Nat){b:List (BA × Val)}(hb:SmA b):∀ x ∈ l.set i b,SmA x:=by
 intro x hx;rcases List.mem_or_eq_of_mem_set hx with hx | rfl
 ·exact h x hx
 exact hb
theorem kM {a:List (BA × Val)}{k:BA}:bI a k=true↔k ∈ aM a:=by
 unfold bI aM;rw[List.any_eq_true,List.mem_map];constructor
 ·rintro ⟨e,he,h⟩;exact⟨e,he,of_decide_eq_true h⟩
 rintro ⟨e,he,h⟩;exact⟨e,he,decide_eq_true h⟩
theorem i6 {a:List (BA × Val)}{k:BA}{v:Val} (h:bI a k=true):aM (cT a k v)=aM a:=by
 rw[kM] at h;induction a with
 | nil=>simp[aM] at h
 | cons e a ih=>
  simp only[cT];split
  ·rename_i he
   simp[aM,he]
  ·rename_i he
   have:k ∈ aM a:=by
    simp only[aM,List.map_cons,List.mem_cons] at h;rcases h with h | h
    ·exact absurd h.symm he
    exact h
   have:=ih this;simp only[aM,List.map_cons] at this ⊢;rw[this]
theorem sB {a:List (BA × Val)}{k:BA}{v:Val} (h:bI a k=false):cT a k v=a++[(k,v)]:=by
 have h':k ∉ aM a:=by
  intro hm;rw[kM.2 hm] at h;cases h
 clear h;induction a with
 | nil=>rfl
 | cons e a ih=>
  simp only[cT];simp only[aM,List.map_cons,List.mem_cons,not_or] at h';rw[if_neg (fun q=>h'.1 q.symm),ih h'.2];rfl
theorem Y8 {a:List (BA × Val)}{k:BA}{v:Val}{e:BA × Val} (h:e ∈ cT a k v):e ∈ a∨e=(k,v):=by
 induction a with
 | nil=>exact Or.inr (by simpa [cT] using h)
 | cons x a ih=>
  simp only[cT] at h;split at h
  ·rcases List.mem_cons.1 h with h | h
   ·exact Or.inr h
   exact Or.inl (List.mem_cons_of_mem _ h)
  rcases List.mem_cons.1 h with h | h
  ·exact Or.inl (by rw[h];exact List.mem_cons_self)
  rcases ih h with h | h
  ·exact Or.inl (List.mem_cons_of_mem _ h)
  exact Or.inr h
theorem aHg {a:List (BA × Val)}(h:SmA a){k:BA}(hk:k.size≤100){v:Val}(hv:SmV v)(hf:bI a k=true∨a.length<30):SmA (cT a k v):=by
 have he:∀ e ∈ cT a k v,e.1.size≤100∧SmV e.2:=by
  intro e he;rcases Y8 he with he | rfl
  ·exact h.each e he
  exact⟨hk,hv⟩
 cases hh:bI a k with
 | true=>
  have e1:=i6 (v:=v) hh;refine⟨?_,by rw[e1];exact h.once,he⟩;have:(aM (cT a k v)).length=(aM a).length:=by rw[e1]
  simp only[aM,List.length_map] at this;rw[this];exact h.len
 | false=>
  have e1:=sB (v:=v) hh;refine⟨?_,?_,he⟩
  ·rw[e1,Lla];rcases hf with hf | hf
   ·rw[hh] at hf;cases hf
   simp;omega
  rw[e1];have:aM (a++[(k,v)])=aM a++[k]:=by simp[aM]
  rw[this,List.nodup_append];refine⟨h.once,by simp,?_⟩;intro x hx y hy;simp only[List.mem_singleton] at hy;subst hy;rintro rfl;rw[kM.2 hx] at hh;cases hh
theorem aQi {a:List (BA × Val)}(h:SmA a)(k:BA):SmA (gP a k):=by
 refine⟨Nat.le_trans (List.length_filter_le _ _) h.len,?_,?_⟩
 ·exact List.Nodup.sublist (List.Sublist.map _ List.filter_sublist) h.once
 intro e he;exact h.each e (List.mem_filter.1 he).1
theorem aUh {a:List (BA × Val)}(h:∀ e ∈ a,e.1.size≤100∧SmV e.2)(k:BA):SmV (iH a k):=by
 induction a with
 | nil=>exact cS
 | cons e a ih=>
  simp only[iH];split
  ·exact (h e List.mem_cons_self).2
  exact ih fun x hx=>h x (List.mem_cons_of_mem _ hx)
theorem sQ (E:Env)(i:Nat)(l:LY):(cH E i l).length=l.length:=by
 induction l generalizing i with
 | nil=>rfl
 | cons s l ih=>simp[cH,ih]
theorem yO {E:Env}{i:Nat}{l:LY}{k:BA} (h:k ∈ aM (cH E i l)):∃ j,i<j∧j≤i+l.length∧k=E.itoa (j:Int):=by
 induction l generalizing i with
 | nil=>simp[cH,aM] at h
 | cons s l ih=>
  simp only[cH,aM,List.map_cons,List.mem_cons] at h;rcases h with h | h
  ·exact⟨i+1,by omega,by simp only[List.length_cons];omega,by rw[h];rfl⟩
  obtain⟨j,h1,h2,h3⟩:=ih h;exact⟨j,by omega,by simp only[List.length_cons];omega,h3⟩
theorem aCr {E:Env}(hE:SmE E){l:LY}(hl:∀ t ∈ l,t.size≤100){i:Nat}(hn:i+l.length≤30):(aM (cH E i l)).Nodup∧∀ e ∈ cH E i l,e.1.size≤100∧SmV e.2:=by
 induction l generalizing i with
 | nil=>simp[cH,aM]
 | cons s l ih=>
  simp only[List.length_cons] at hn;obtain⟨h1,h2⟩:=ih (fun t ht=>hl t (List.mem_cons_of_mem _ ht)) (i:=i+1) (by omega);refine⟨?_,?_⟩
  ·simp only[cH,aM,List.map_cons,List.nodup_cons];refine⟨?_,h1⟩;intro hm;obtain⟨j,g1,g2,g3⟩:=yO (E:=E) (i:=i+1) (l:=l) hm;have:=hE.inj (i+1) j (by omega) (by omega) (by rw[← g3];congr 1);omega
  intro e he;simp only[cH,List.mem_cons] at he;rcases he with rfl | he
  ·exact⟨hE.itoa _ (by omega) (by omega),xM (hl s List.mem_cons_self)⟩
  exact h2 e he
theorem aLc {f l:LB}:∀ t ∈ cJ f l,t.size≤f.length+l.length:=by
 induction l generalizing f with
 | nil=>
  intro t ht;simp only[cJ] at ht;split at ht
  ·simp at ht
  simp only[List.mem_singleton] at ht;subst ht;simp[ByteArray.size]
 | cons c l ih=>
  intro t ht;simp only[cJ] at ht;split at ht
  ·split at ht
   ·have:=ih t ht;simp at this ⊢;omega
   rcases List.mem_cons.1 ht with rfl | ht
   ·simp[ByteArray.size]
   have:=ih t ht;simp at this ⊢;omega
  have:=ih t ht;simp at this ⊢;omega
theorem Q8 {f l:LB}:(cJ f l).length≤l.length+1∧(f=[]→(cJ f l).length≤l.length):=by
 induction l generalizing f with
 | nil=>
  simp only[cJ];split
  ·simp
  ·rename_i h
   simp[h]
 | cons c l ih=>
  simp only[cJ];split
  ·split
   ·rename_i h0
    have:=(ih (f:=[])).2 rfl;refine⟨by simp;omega,fun _=>by simp;omega⟩
   ·rename_i h0
    have:=(ih (f:=[])).2 rfl;refine⟨by simp;omega,fun h=>absurd h h0⟩
  have:=(ih (f:=f++[c])).1;refine⟨by simp;omega,fun _=>by simp;omega⟩
theorem aHz {s:BA}(h:s.size≤100):(∀ t ∈ cutF s,t.size≤100)∧(cutF s).length≤100:=by
 have hb:(bl s).length=s.size:=Array.length_toList;refine⟨?_,?_⟩
 ·intro t ht;have:=aLc t ht;simp at this;omega
 have:=(Q8 (f:=[]) (l:=bl s)).2 rfl;unfold cutF;omega
theorem aAq (m e:Int)(i:Nat)(l:LB):(partL m e i l).length≤l.length:=by
 induction l generalizing i with
 | nil=>simp[partL]
 | cons c l ih=>
  simp only[partL];have:=ih (i+1);split <;> simp <;> omega
theorem aCh (t:LB)(i:Nat)(s:LB):kK t i s≤i+s.length+1:=by
 induction s generalizing i with
 | nil=>
  unfold kK;split <;> simp
 | cons c s ih=>
  unfold kK;split
  ·simp
  have:=ih (i+1);simp only[List.length_cons];omega
theorem o8 {a:Nat}(h:a<2000000001):-1000000000≤eH a∧eH a≤1000000000:=by
 unfold eH;split <;> omega
theorem aRz {x y:Int}(h1:-1000000000≤x)(h2:x≤1000000000)(hy:y≠0):-1000000000≤x.tdiv y∧x.tdiv y≤1000000000:=by
 have h:=Int.natAbs_tdiv_le_natAbs x y;omega
theorem lZ {E:Env}(hE:SmE E){op:Nat}{x y:Int}:-1000000000≤(iR E op x y).1∧(iR E op x y).1≤1000000000:=by
 unfold iR;split
 ·simp
 simp only;generalize (if op=18 then E.wr (x+y) else if op=19 then E.wr (x-y) else if op=20 then E.wr (x*y) else if op=21 then E.wr (x.tdiv y) else E.wr (x-E.wr (E.wr (x.tdiv y)*y)))=n;split
 ·simp
 ·rename_i h
  simp only;omega
theorem aNg {l:LY}{n:Nat}{s t:BA} (h:t ∈ jQ l n s):t ∈ l∨t=cU∨t=s:=by
 unfold jQ at h;rcases List.mem_or_eq_of_mem_set h with h | h
 ·rcases List.mem_append.1 h with h | h
  ·exact Or.inl h
  exact Or.inr (Or.inl (List.eq_of_mem_replicate h))
 exact Or.inr (Or.inr h)
theorem aAh (l:LY)(n:Nat)(s:BA):(jQ l n s).length=max l.length n:=by
 unfold jQ;simp only[List.length_set,Lla,List.length_replicate];omega
theorem aBd {w:Wd}(h:SmW w):SmW (nextR w).1:=by
 unfold nextR;split
 ·exact h
 ·rename_i s hs
  have hm:=List.mem_of_getElem? hs;have hl:w.nr<w.recs.length:=by
   rw[Lgs] at hs;exact hs.1
  obtain⟨c1,c2⟩:=aHz (h.recs s hm);exact { h with nr:=hl,rcd:=h.recs s hm,flds:=c1,nf:=c2 }
theorem Y9 {w:Wd}(h:SmW w)(n:Int){s:BA}(hs:s.size≤100):SmW (bO w n s).1:=by
 unfold bO;split
 ·exact h
 ·rename_i hn
  split
  ·obtain⟨c1,c2⟩:=aHz hs;exact { h with rcd:=hs,flds:=c1,nf:=c2 }
  split
  ·exact h
  ·rename_i hj
   refine { h with rcd:=?_,flds:=?_,nf:=?_ }
   ·simp only[ByteArray.size,List.size_toArray];omega
   ·intro t ht;rcases aNg ht with ht | rfl | rfl
    ·exact h.flds t ht
    ·decide
    exact hs
   simp only[aAh];have:=h.nf;omega
theorem aNk {w:Wd}(h:SmW w)(l:LY):SmW (fN w l).1:=by
 unfold fN;split
 ·exact h
 ·rename_i hn
  refine { h with out:=?_ };show (w.out.data++(joinF l++[10]).toArray).size≤1000;have e:w.out.size=w.out.data.size:=rfl;simp only[Array.size_append,List.size_toArray,Lla,List.length_cons,List.length_nil];omega
theorem aQb {w:Wd}(h:SmW w)(n:Int):SmV (dL w n).1:=by
 unfold dL;split
 ·exact cS
 split
 ·exact xM h.rcd
 split
 ·refine xM ?_;rw[List.getD_eq_getElem?_getD];rcases hq:w.flds[n.toNat-1]? with _ | s
  ·decide
  exact h.flds s (List.mem_of_getElem? hq)
 exact cS
theorem cL {top:List aJ}(h:∀ c ∈ top,SmC c)(i:Nat):SmC (top.getD i c0):=by
 rw[List.getD_eq_getElem?_getD];rcases hq:top[i]? with _ | c
 ·exact aWk
 exact h c (List.mem_of_getElem? hq)
theorem aKb {a:List (BA × Val)}{l:LY}{k:BA}{r:LY} (h:dJ a l=some (k,r)):k ∈ l∧∀ x ∈ r,x ∈ l:=by
 induction l with
 | nil=>cases h
 | cons x l ih=>
  simp only[dJ] at h;split at h
  ·simp only[Option.some.injEq,Prod.mk.injEq] at h;obtain⟨rfl,rfl⟩:=h;exact⟨List.mem_cons_self,fun y hy=>List.mem_cons_of_mem _ hy⟩
  obtain⟨h1,h2⟩:=ih h;exact⟨List.mem_cons_of_mem _ h1,fun y hy=>List.mem_cons_of_mem _ (h2 y hy)⟩
theorem bE {c:aJ}(h:SmC c):∀ x ∈ [c],SmC x:=by
 intro x hx;simp only[List.mem_singleton] at hx;subst hx;exact h
theorem aXv {E:Env}(hE:SmE E){w:Wd}(h:SmW w){locs:List Val}(hl:∀ v ∈ locs,SmV v):∀ {op a b:Nat}{top:List aJ},op<54→(op=0→a<2000000001)→(∀ c ∈ top,SmC c) →
  SmW (eff E w locs op a b top).w∧(∀ v ∈ (eff E w locs op a b top).locs,SmV v)∧∀ c ∈ (eff E w locs op a b top).top,SmC c:=by
 intro op a b top hop ha ht
 match op,hop with
 | 0,_=>
  exact⟨h,hl,bE (bA (bJ (o8 (ha rfl)).1 (o8 (ha rfl)).2))⟩
 | 1,_=>
  refine⟨h,hl,bE (bA (iC ?_))⟩
  rw[List.getD_eq_getElem?_getD]
  rcases hq:E.mo.texts[a]? with _ | s
  ·decide
  ·exact hE.texts s (List.mem_of_getElem? hq)
 | 2,_=>
  exact⟨h,hl,bE (bA cS)⟩
 | 3,_=>
  exact⟨h,hl,bE (bA (aHv hl a))⟩
 | 4,_=>
  exact⟨h,aMt hl a (cL ht 0).1,by simp[eff,Eff.off]⟩
 | 5,_=>
  exact⟨h,hl,bE (bA (aHv h.globs a))⟩
 | 6,_=>
  exact⟨{ h with globs:=aMt h.globs a (cL ht 0).1 },hl,by simp[eff,Eff.off]⟩
 | 7,_=>
  exact⟨h,hl,bE (bA (aQb h _))⟩
 | 8,_=>
  exact⟨Y9 h _ (cB hE (cL ht 1).1),hl,by simp[eff,Eff.off]⟩
 | 9,_=>
  have:=h.nf
  exact⟨h,hl,bE (bA (bJ (by omega) (by omega)))⟩
 | 10,_=>
  have:=h.nr
  have:=h.nrec
  exact⟨h,hl,bE (bA (bJ (by omega) (by omega)))⟩
 | 11,_=>
  have hA:=kU h.arrs a
  simp only[eff]
  split
  ·exact⟨h,hl,bE (bA (aUh hA.each _))⟩
  ·split
   ·exact⟨h,hl,by simp[Eff.bad]⟩
   ·rename_i h2
    exact⟨{ h with arrs:=rZ h.arrs a (aHg hA (cL ht 0).1.sz cS (Or.inr (by omega))) },hl,bE (bA cS)⟩
 | 12,_=>
  have hA:=kU h.arrs a
  simp only[eff]
  split
  ·exact⟨h,hl,by simp[Eff.bad]⟩
  ·rename_i h2
   refine⟨{ h with arrs:=rZ h.arrs a (aHg hA (cL ht 0).1.sz (cL ht 1).1 ?_) },hl,by simp[Eff.off]⟩
   cases hh:bI (w.arrs.getD a []) (top.getD 0 c0).v.s with
   | true=>exact Or.inl rfl
   | false=>
    rw[hh] at h2
    simp only[true_and] at h2
    exact Or.inr (by omega)
 | 13,_=>
  exact⟨h,hl,bE (bA (fP _))⟩
 | 14,_=>
  exact⟨{ h with arrs:=rZ h.arrs a (aQi (kU h.arrs a) _) },hl,by simp[eff,Eff.off]⟩
 | 15,_=>
  exact⟨{ h with arrs:=rZ h.arrs a ⟨by simp,by simp[aM],by simp⟩ },hl,by simp[eff,Eff.off]⟩
 | 16,_=>
  have hA:=kU h.arrs a
  refine⟨h,hl,bE ⟨cS,?_⟩⟩
  intro k hk
  obtain⟨e,he,rfl⟩:=List.mem_map.1 hk
  exact (hA.each e he).1
 | 17,_=>
  simp only[eff]
  split
  ·exact⟨h,hl,by simp⟩
  ·rename_i k l hn
   obtain⟨n1,n2⟩:=aKb hn
   have hc:=cL ht 0
   refine⟨h,hl,?_⟩
   intro c hc'
   simp only[List.mem_cons,List.not_mem_nil,or_false] at hc'
   rcases hc' with rfl | rfl
   ·exact⟨hc.1,fun x hx=>hc.2 x (n2 x hx)⟩
   ·exact bA (iC (hc.2 k n1))
 | 18,_=>
  exact⟨h,hl,bE (bA (bJ (lZ hE).1 (lZ hE).2))⟩
 | 19,_=>
  exact⟨h,hl,bE (bA (bJ (lZ hE).1 (lZ hE).2))⟩
 | 20,_=>
  exact⟨h,hl,bE (bA (bJ (lZ hE).1 (lZ hE).2))⟩
 | 21,_=>
  exact⟨h,hl,bE (bA (bJ (lZ hE).1 (lZ hE).2))⟩
 | 22,_=>
  exact⟨h,hl,bE (bA (bJ (lZ hE).1 (lZ hE).2))⟩
 | 23,_=>
  have h1:=(cL ht 0).1
  have hw:E.wr (-(top.getD 0 c0).v.n) = -(top.getD 0 c0).v.n:=hE.wr _ (by have:=h1.lo;have:=h1.hi;omega) (by have:=h1.lo;have:=h1.hi;omega)
  refine⟨h,hl,bE (bA ?_)⟩
  rw[hw]
  exact bJ (by have:=h1.hi;omega) (by have:=h1.lo;omega)
 | 24,_=>
  exact⟨h,hl,bE (bA (fP _))⟩
 | 25,_=>
  simp only[eff]
  split
  ·exact⟨h,hl,by simp[Eff.bad]⟩
  ·refine⟨h,hl,bE (bA (iC ?_))⟩
   rw[ByteArray.size_append]
   omega
 | 26,_=>
  exact⟨h,hl,bE (bA (bJ (nL (cL ht 0).1).1 (nL (cL ht 0).1).2))⟩
 | 27,_=>
  exact⟨h,hl,bE (bA (iC (cB hE (cL ht 0).1)))⟩
 | 28,_=>
  exact⟨h,hl,bE (bA (fP _))⟩
 | 29,_=>
  exact⟨h,hl,bE (bA (fP _))⟩
 | 30,_=>
  exact⟨h,hl,bE (bA (fP _))⟩
 | 31,_=>
  exact⟨h,hl,bE (bA (fP _))⟩
 | 32,_=>
  exact⟨h,hl,bE (bA (fP _))⟩
 | 33,_=>
  exact⟨h,hl,bE (bA (fP _))⟩
 | 34,_=>
  exact⟨h,hl,bE (bA (fP _))⟩
 | 35,_=>
  have hf:=hE.fnd (E.mo.pats.getD a cU) _ (cL ht 0).1.sz
  exact⟨h,hl,bE (bA (bJ (by omega) (by omega)))⟩
 | 36,_=>
  have hf:=hE.fnd (E.mo.pats.getD a cU) _ (cL ht 0).1.sz
  refine⟨h,hl,bE (bA ?_)⟩
  split
  ·exact bJ (by omega) (by omega)
  ·exact bJ (by omega) (by omega)
 | 37,_=>
  simp only[eff]
  split
  ·exact⟨h,hl,by simp[Eff.bad]⟩
  ·exact⟨h,hl,bE (bA (iC (by omega)))⟩
 | 38,_=>
  simp only[eff]
  split
  ·exact⟨h,hl,by simp[Eff.bad]⟩
  ·rename_i hn
   obtain⟨f1,f2⟩:=aCr hE (hE.spl (E.mo.pats.getD b cU) _ (cL ht 0).1.sz) (i:=0) (by omega)
   exact⟨{ h with arrs:=rZ h.arrs a ⟨by rw[sQ];omega,f1,f2⟩ },hl,bE (bA (bJ (by omega) (by omega)))⟩
 | 39,_=>
  have:=(cL ht 0).1.sz
  exact⟨h,hl,bE (bA (bJ (by omega) (by omega)))⟩
 | 40,_=>
  refine⟨h,hl,bE (bA (iC ?_))⟩
  have h1:=(cL ht 0).1.sz
  have h2:=aAq (top.getD 1 c0).v.n (E.wr ((top.getD 1 c0).v.n+(top.getD 2 c0).v.n)) 0 (bl (top.getD 0 c0).v.s)
  have h3:(bl (top.getD 0 c0).v.s).length=(top.getD 0 c0).v.s.size:=Array.length_toList
  simp only[ByteArray.size,List.size_toArray] at h1 h3 ⊢
  omega
 | 41,_=>
  have h1:=(cL ht 0).1.sz
  have h2:=aCh (bl (top.getD 1 c0).v.s) 0 (bl (top.getD 0 c0).v.s)
  have h3:(bl (top.getD 0 c0).v.s).length=(top.getD 0 c0).v.s.size:=Array.length_toList
  exact⟨h,hl,bE (bA (bJ (by omega) (by omega)))⟩
 | 42,_=>
  exact⟨aBd h,hl,bE (bA (fP _))⟩
 | 43,_=>
  simp only[eff]
  split
  ·exact⟨h,hl,bE (bA (bJ (by omega) (by omega)))⟩
  ·rename_i n hn
   have hd:=h.draws n (List.mem_of_getElem? hn)
   have hlt:w.drawn<w.draws.length:=by
    rw[Lgs] at hn
    exact hn.1
   exact⟨{ h with drawn:=hlt },hl,bE (bA (bJ hd.1 hd.2))⟩
 | 44,_=>
  exact⟨aNk h _,hl,by simp[eff,Eff.off]⟩
 | 45,_=>
  refine⟨h,hl,?_⟩
  intro c hc
  simp only[eff,List.mem_cons,List.not_mem_nil,or_false] at hc
  rcases hc with rfl | rfl <;> exact cL ht 0
 | 46,_=>
  refine⟨h,hl,?_⟩
  intro c hc
  simp only[eff,List.mem_cons,List.not_mem_nil,or_false] at hc
  rcases hc with rfl | rfl | rfl
  ·exact cL ht 1
  ·exact cL ht 0
  ·exact cL ht 1
 | 47,_=>
  exact⟨h,hl,by simp[eff,Eff.off]⟩
 | 48,_=>
  exact⟨h,hl,by simp[eff]⟩
 | 49,_=>
  exact⟨h,hl,by simp[eff]⟩
 | 50,_=>
  exact⟨h,hl,by simp[eff,Eff.off]⟩
 | 51,_=>
  exact⟨h,hl,by simp[eff,Eff.off]⟩
 | 52,_=>
  exact⟨h,hl,by simp[eff,Eff.off]⟩
 | 53,_=>
  exact⟨h,hl,by simp[eff]⟩
 | n+54,h=>exact absurd h (by omega)
end Mach
namespace Mach
open Wire Flow
def Plays (E:Env):Nat→St→St→Prop
 | 0,s,s'=>s=s'
 | n+1,s,s'=>(s.st≠0∧s=s')∨(s.st=0∧∃ low fr i rest top,Ready E s low fr i rest top∧Plays E n (does E s low fr i rest top) s')
theorem Plays.ended {E:Env}{n:Nat}{s s':St} (h:Plays E n s s') (hs:s.st≠0):s'=s:=by
 cases n with
 | zero=>exact h.symm
 | succ n=>
  rcases h with ⟨-,h⟩ | ⟨h,-⟩
  ·exact h.symm
  exact absurd h hs
theorem lP (E:Env)(n:Nat){s:St}(hs:s.st≠0):Plays E n s s:=by
 cases n with
 | zero=>rfl
 | succ n=>exact Or.inl ⟨hs,rfl⟩
theorem Plays.unique {E:Env}{n:Nat}{s a b:St} (h:Plays E n s a) (g:Plays E n s b):a=b:=by
 induction n generalizing s with
 | zero=>exact h.symm.trans g
 | succ n ih=>
  rcases h with ⟨h1,h2⟩ | ⟨h1,low,fr,i,rest,top,h2,h3⟩
  ·exact h2.symm.trans ((Plays.ended g h1).symm)
  rcases g with ⟨g1,g2⟩ | ⟨g1,low',fr',i',rest',top',g2,g3⟩
  ·exact absurd h1 g1
  obtain⟨rfl,rfl,rfl,rfl,rfl⟩:=h2.unique g2;exact ih h3 g3
theorem Plays.append {E:Env}{m n:Nat}{s a b:St} (h:Plays E m s a) (g:Plays E n a b):Plays E (m+n) s b:=by
 induction m generalizing s with
 | zero=>
  have e:s=a:=h;subst e;rw[Nat.zero_add];exact g
 | succ m ih=>
  rcases h with ⟨h1,h2⟩ | ⟨h1,low,fr,i,rest,top,h2,h3⟩
  ·subst h2;rw[Plays.ended g h1];exact lP E _ h1
  rw[show m+1+n=(m+n)+1 by omega];exact Or.inr ⟨h1,low,fr,i,rest,top,h2,ih h3⟩
theorem Plays.split {E:Env}{m n:Nat}{s b:St} (h:Plays E (m+n) s b):∃ a,Plays E m s a∧Plays E n a b:=by
 induction m generalizing s with
 | zero=>exact⟨s,rfl,by rw[Nat.zero_add] at h;exact h⟩
 | succ m ih=>
  rw[show m+1+n=(m+n)+1 by omega] at h;rcases h with ⟨h1,h2⟩ | ⟨h1,low,fr,i,rest,top,h2,h3⟩
  ·subst h2;exact⟨s,lP E _ h1,lP E _ h1⟩
  obtain⟨a,h4,h5⟩:=ih h3;exact⟨a,Or.inr ⟨h1,low,fr,i,rest,top,h2,h4⟩,h5⟩
theorem Plays.more {E:Env}{n:Nat}{s a:St} (h:Plays E n s a) (ha:a.st=0) {low:List Frm}{fr:Frm}{i:Stp}{rest top:List aJ} (hR:Ready E a low fr i rest top):Plays E (n+1) s (does E a low fr i rest top):=
 h.append (n:=1) (Or.inr ⟨ha,low,fr,i,rest,top,hR,rfl⟩)
structure ModOk (m:Mo):Prop where
 three:3≤m.fns.length
 fns:∀ f,f<m.fns.length→FnOk m f
 par:∀ f,f<m.fns.length→parOf m f≤locsOf m f
theorem nJ {m:Mo}{f locs:Nat}{c:LB}{i:Nat}{s:Stp} (h:bH m f locs c i=.inr s):∀ sort,eP.getD s.op 0=sort→sort≠0→pE m locs sort s.a=true:=by
 unfold bH at h;split at h
 ·split at h
  ·rename_i h0
   simp only[Sum.inr.injEq] at h;subst h;intro sort hs hne;simp only at hs;exact absurd (hs.symm.trans h0) hne
  split at h
  ·cases h
  ·rename_i n j hop
   obtain⟨-,-,hf⟩:=fS hop;split at h
   ·split at h
    ·cases h
    simp only[Sum.inr.injEq] at h;subst h;intro sort hs hne;simp only at hs ⊢;rw[← hs];exact hf
   simp only[Sum.inr.injEq] at h;subst h;intro sort hs hne;simp only at hs ⊢;rw[← hs];exact hf
 cases h
theorem bY {m:Mo}{locs sort n:Nat} (h:pE m locs sort n=true):low sort≤n∧n<dQ m locs sort:=by
 unfold pE at h;simpa using h
theorem Ready.call {E:Env}{s:St}{low:List Frm}{fr:Frm}{i:Stp}{rest top:List aJ} (hR:Ready E s low fr i rest top) (h:i.op=50):3≤i.a∧i.a<E.mo.fns.length:=by
 have:=bY (nJ hR.dec 9 (by rw[h];rfl) (by decide));simpa [Flow.low,dQ] using this
theorem Ready.num {E:Env}{s:St}{low:List Frm}{fr:Frm}{i:Stp}{rest top:List aJ} (hR:Ready E s low fr i rest top) (h:i.op=0):i.a<2000000001:=by
 have:=bY (nJ hR.dec 1 (by rw[h];rfl) (by decide));simpa [Flow.low,dQ] using this
def SmF (frs:List Frm):Prop:=∀ g ∈ frs,(∀ v ∈ g.locs,SmV v)∧∀ c ∈ g.stk,SmC c
structure Good (E:Env) (s:St):Prop where
 w:SmW s.w
 arrs:s.w.arrs.length=E.mo.arrs.toNat
 globs:s.w.globs.length=E.mo.globs.toNat
 inv:s.st=0→Inv E.mo s.frs∧SmF s.frs∧s.frs.length≤21
theorem sV {E:Env}{w:Wd}{locs:List Val}{op a b:Nat}{top:List aJ}:(eff E w locs op a b top).w.arrs.length=w.arrs.length∧(eff E w locs op a b top).w.globs.length=w.globs.length:=by
 have n1:(nextR w).1.arrs=w.arrs∧(nextR w).1.globs=w.globs:=by
  unfold nextR;split <;> exact⟨rfl,rfl⟩
 have n2:∀ n s,(bO w n s).1.arrs=w.arrs∧(bO w n s).1.globs=w.globs:=by
  intro n s;unfold bO;split
  ·exact⟨rfl,rfl⟩
  split
  ·exact⟨rfl,rfl⟩
  split <;> exact⟨rfl,rfl⟩
 have n3:∀ l,(fN w l).1.arrs=w.arrs∧(fN w l).1.globs=w.globs:=by
  intro l;unfold fN;split <;> exact⟨rfl,rfl⟩
 unfold eff;split <;> (try exact⟨rfl,rfl⟩)
 ·simp[Eff.off]
 ·simp only[Eff.off];rw[(n2 _ _).1,(n2 _ _).2];exact⟨rfl,rfl⟩
 ·split <;> (try split) <;> simp[Eff.put,Eff.bad]
 ·split <;> simp[Eff.off,Eff.bad]
 ·simp[Eff.off]
 ·simp[Eff.off]
 ·split <;> exact⟨rfl,rfl⟩
 ·split <;> exact⟨rfl,rfl⟩
 ·split <;> exact⟨rfl,rfl⟩
 ·split <;> simp[Eff.put,Eff.bad]
 ·simp only[Eff.put];rw[n1.1,n1.2];exact⟨rfl,rfl⟩
 ·split <;> exact⟨rfl,rfl⟩
 simp only[Eff.off];rw[(n3 _).1,(n3 _).2];exact⟨rfl,rfl⟩
theorem pJ (m:Mo)(f:Nat){args:List Val}(h:∀ v ∈ args,SmV v):(∀ v ∈ (enter m f args).locs,SmV v)∧∀ c ∈ (enter m f args).stk,SmC c:=by
 refine⟨?_,by simp[enter]⟩;intro v hv;simp only[enter] at hv;rcases List.mem_append.1 hv with hv | hv
 ·exact h v hv
 rw[List.eq_of_mem_replicate hv];exact cS
theorem Good.does {E:Env}(hE:SmE E)(hM:ModOk E.mo){s:St}(hG:Good E s)(hs:s.st=0){low:List Frm}{fr:Frm}{i:Stp}{rest top:List aJ} (hR:Ready E s low fr i rest top):Good E (does E s low fr i rest top):=by
 obtain⟨hI,hF,hn⟩:=hG.inv hs;have hinv:=fun hst=>Inv.does hI hM.fns hM.three hM.par hR.call hR hst;have hop:i.op<54:=by
  obtain⟨-,-,-,-,hm⟩:=cE hR.at_ hR.dec;exact oY hm
 have hfr:=hF fr (by rw[hR.frs];simp);have hlow:∀ g ∈ low,(∀ v ∈ g.locs,SmV v)∧∀ c ∈ g.stk,SmC c:=fun g hg=>hF g (by rw[hR.frs];simp[hg]);have hrest:∀ c ∈ rest,SmC c:=fun c hc=>hfr.2 c (by rw[hR.stk];simp[hc]);have htop:∀ c ∈ top,SmC c:=fun c hc=>hfr.2 c (by rw[hR.stk];simp[hc]);have hlen:low.length+1≤21:=by
  rw[hR.frs] at hn;simpa using hn
 obtain⟨e1,e2,e3⟩:=aXv hE hG.w (locs:=fr.locs) hfr.1 (b:=i.b) hop hR.num htop
 revert hinv
 unfold Mach.does;split
 ·split
  ·intro _;exact⟨hG.w,hG.arrs,hG.globs,fun h=>by cases h⟩
  ·rename_i h20
   intro hinv;refine⟨hG.w,hG.arrs,hG.globs,fun h=>⟨hinv h,?_,?_⟩⟩
   ·intro g hg;rcases List.mem_append.1 hg with hg | hg
    ·exact hlow g hg
    simp only[List.mem_cons,List.not_mem_nil,or_false] at hg;rcases hg with rfl | rfl
    ·exact⟨hfr.1,hrest⟩
    refine pJ _ _ ?_;intro v hv;obtain⟨c,hc,rfl⟩:=List.mem_map.1 hv;exact (htop c hc).1
   simp only[Lla,List.length_cons,List.length_nil];omega
 split
 ·intro hinv;rcases List.eq_nil_or_concat low with h0 | ⟨low2,g,h0⟩
  ·subst h0;simp only[List.getLast?_nil];exact hG
  have h0':low=low2++[g]:=by simpa using h0
  subst h0';simp only[List.getLast?_append,List.getLast?_singleton,Option.some_or,List.dropLast_concat] at hinv ⊢;refine⟨hG.w,hG.arrs,hG.globs,fun h=>⟨hinv h,?_,?_⟩⟩
  ·intro x hx;rcases List.mem_append.1 hx with hx | hx
   ·exact hlow x (by simp[hx])
   simp only[List.mem_singleton] at hx;subst hx;have hg:=hlow g (by simp);refine⟨hg.1,?_⟩;intro c hc;rcases List.mem_append.1 hc with hc | hc
   ·exact hg.2 c hc
   simp only[List.mem_singleton] at hc;subst hc;exact bA (cL htop 0).1
  simp only[Lla,List.length_cons,List.length_nil] at hlen ⊢;omega
 split
 ·intro hinv;unfold over at hinv ⊢;have n1:(nextR s.w).1.arrs=s.w.arrs∧(nextR s.w).1.globs=s.w.globs:=by
   unfold nextR;split <;> exact⟨rfl,rfl⟩
  split
  ·exact⟨hG.w,hG.arrs,hG.globs,fun h=>by cases h⟩
  ·rename_i h2
   rw[if_neg h2] at hinv;split
   ·rename_i h3
    rw[if_pos h3] at hinv;refine⟨aBd hG.w,by rw[← hG.arrs];exact congrArg _ n1.1,by rw[← hG.globs];exact congrArg _ n1.2,fun h=>⟨hinv h,?_,by simp⟩⟩;intro g hg;simp only[List.mem_singleton] at hg;subst hg;exact pJ _ _ (by simp)
   ·rename_i h3
    rw[if_neg h3] at hinv;refine⟨hG.w,hG.arrs,hG.globs,fun h=>⟨hinv h,?_,by simp⟩⟩;intro g hg;simp only[List.mem_singleton] at hg;subst hg;exact pJ _ _ (by simp)
 split
 ·rename_i hne
  intro _;exact⟨e1,by rw[← hG.arrs];exact sV.1,by rw[← hG.globs];exact sV.2,fun h=>absurd h hne⟩
 intro hinv;refine⟨e1,by rw[← hG.arrs];exact sV.1,by rw[← hG.globs];exact sV.2,fun h=>⟨hinv h,?_,?_⟩⟩
 ·intro g hg;rcases List.mem_append.1 hg with hg | hg
  ·exact hlow g hg
  simp only[List.mem_singleton] at hg;subst hg;refine⟨e2,?_⟩;intro c hc;rcases List.mem_append.1 hc with hc | hc
  ·exact hrest c hc
  exact e3 c hc
 simp only[Lla,List.length_cons,List.length_nil];omega
def begin_ (m:Mo) (recs:LY) (draws:List Int):St:=
 ⟨⟨recs,0,draws,0,cU,[],cU,List.replicate m.globs.toNat nothing,List.replicate m.arrs.toNat []⟩,[enter m 0 []],0,0,0⟩
theorem good_begin {E:Env}(hM:ModOk E.mo){recs:LY}{draws:List Int} (h1:recs.length≤50) (h2:∀ s ∈ recs,s.size≤100) (h3:draws.length≤50) (h4:∀ n ∈ draws,-1000000000≤n∧n≤1000000000):Good E (begin_ E.mo recs draws) where
 w:={
  recs:=h2
  nr:=Nat.zero_le _
  nrec:=h1
  draws:=h4
  ndr:=h3
  drawn:=Nat.zero_le _
  rcd:=(by decide:cU.size≤100)
  flds:=by simp[begin_]
  nf:=by simp[begin_]
  out:=(by decide:cU.size≤1000)
  globs:=by
   intro v hv;rw[List.eq_of_mem_replicate hv];exact cS
  arrs:=by
   intro v hv;rw[List.eq_of_mem_replicate hv];exact⟨by simp,by simp[aM],by simp⟩ }
 arrs:=by simp[begin_]
 globs:=by simp[begin_]
 inv:=fun _=>⟨tU (by omega) (by have:=hM.three;omega) (hM.fns 0 (by have:=hM.three;omega)),by
  intro g hg;simp only[begin_,List.mem_singleton] at hg;subst hg;exact pJ _ _ (by simp),by simp[begin_]⟩
end Mach
namespace Wire
def rJ (c:LB):Nat→Nat
 | 0=>0
 | i+1=>rJ c i+(c.getD i 0).toNat % 128*128 ^ i
theorem U9 (c:LB)(i:Nat):rJ c i<128 ^ i:=by
 induction i with
 | zero=>simp[rJ]
 | succ i ih=>
  have h:(c.getD i 0).toNat % 128≤127:=by omega
  have h2:=Nat.mul_le_mul_right (128 ^ i) h;simp only[rJ,Nat.pow_succ];omega
theorem aHw {c:LB}{i:Nat} (h:i<c.length):c.drop i=c.getD i 0 :: c.drop (i+1):=by
 rw[List.drop_eq_getElem_cons h];simp[List.getD_eq_getElem?_getD,h]
theorem aBa (c:LB)(i:Nat)(hi:i≤5)(hl:i≤c.length)(h:∀ j,j<i→128≤(c.getD j 0).toNat) :
  num c=(mA (5-i) (decide (i=0)) (c.drop i)).map fun p=>(rJ c i+128 ^ i*p.1,p.2):=by
 induction i with
 | zero=>
  simp only[num,rJ,List.drop_zero,Nat.sub_zero,decide_true,Nat.pow_zero,Nat.one_mul,Nat.zero_add];cases mA 5 true c <;> rfl
 | succ i ih=>
  rw[ih (by omega) (by omega) (fun j hj=>h j (by omega)),aHw (by omega)];have h0:=h i (by omega);have hb:=(c.getD i 0).toNat_lt;rw[show 5-i=(5-(i+1))+1 by omega];simp only[mA];rw[if_neg (by omega),Option.map_map];have e:(decide (i+1=0))=false:=by simp
  rw[e];congr 1;funext p;simp only[Function.comp,rJ,Prod.mk.injEq,and_true];have e2:(c.getD i 0).toNat-128=(c.getD i 0).toNat % 128:=by omega
  rw[e2,Nat.mul_add,Nat.pow_succ,Nat.mul_assoc,Nat.mul_comm (128 ^ i) ((c.getD i 0).toNat % 128)];omega
theorem aOg {c:LB}{i:Nat} (hi:i<5) (hl:i<c.length) (h:∀ j,j<i→128≤(c.getD j 0).toNat) (h0:(c.getD i 0).toNat<128) :
  num c=if 0<i∧(c.getD i 0).toNat=0 then none else some (rJ c (i+1),c.drop (i+1)):=by
 rw[aBa c i (by omega) (by omega) h,aHw hl,show 5-i=(5-(i+1))+1 by omega];simp only[mA];rw[if_pos h0];have hm:(c.getD i 0).toNat % 128=(c.getD i 0).toNat:=by omega
 by_cases hz:0<i∧(c.getD i 0).toNat=0
 ·rw[if_pos hz,if_pos ⟨hz.2,by have:=hz.1;simp;omega⟩];rfl
 rw[if_neg hz,if_neg (by rintro ⟨a,b⟩;exact hz ⟨by simp at b;omega,a⟩)];simp only[Option.map_some,rJ,hm,Nat.mul_comm]
theorem aSu {c:LB}{i:Nat} (hi:i≤5) (hl:i≤c.length) (h:∀ j,j<i→128≤(c.getD j 0).toNat) (h0:i=5∨i=c.length):num c=none:=by
 rw[aBa c i hi hl h];rcases h0 with rfl | rfl
 ·simp[mA]
 rw[List.drop_length];cases 5-c.length <;> simp[mA]
theorem aNw (a x i:Nat)(h:a<128 ^ i):a ||| (x <<< (7*i))=a+x*128 ^ i:=by
 have e:(128:Nat) ^ i=2 ^ (7*i):=by rw[Nat.pow_mul]
 rw[Nat.shiftLeft_eq,e,Nat.mul_comm x,Nat.or_comm,← Nat.two_pow_add_eq_or_of_lt (by omega),Nat.add_comm]
theorem aVi (c:LB)(i:Nat):rJ c i ||| (((c.getD i 0).toNat &&& 127) <<< (7*i))=rJ c (i+1):=by
 rw[aNw _ _ _ (U9 c i),show (127:Nat)=2 ^ 7-1 by rfl,Nat.and_two_pow_sub_one_eq_mod];rfl
theorem I6 (s:Nat)(l:LB)(i:Nat)(h:i<l.length):rV s (l.take (i+1))=vO (rV s (l.take i)) l[i]:=by
 rw[List.take_succ_eq_append_getElem h];unfold rV;rw[List.foldl_append];rfl
abbrev Sta:=(Nat × Nat) ⊕ (Nat × Nat)
abbrev Rd (α:Type):=Nat→LB→(Nat × Nat) ⊕ (α × LB)
def seg (l:LB) (a e:Nat):LB:=(l.take e).drop a
theorem qR {l:LB}{a e:Nat} (he:e≤l.length):(seg l a e).length=e-a:=by
 simp[seg];omega
theorem qQ {l p r:LB}{a e:Nat} (h:seg l a e=p++r) (ha:a≤e) (he:e≤l.length):seg l (e-r.length) e=r∧e-r.length=a+p.length∧r.length≤e:=by
 have h1:=congrArg List.length h;rw[qR he,Lla] at h1;have h2:e-r.length=a+p.length:=by omega
 refine⟨?_,h2,by omega⟩;rw[h2];have h3:(seg l a e).drop p.length=r:=by rw[h];simp
 rw[← h3];simp[seg,List.drop_drop]
theorem aSg (l:LB)(a:Nat):seg l a l.length=l.drop a:=by simp[seg]
def aWr {α:Type} (op:Rd α) (l:LB) (d:α):Sta→α
 | .inl _=>d
 | .inr (a,e)=>match op e (seg l a e) with
  | .inl _=>d
  | .inr (x,_)=>x
def nextR {α:Type} (op:Rd α) (l:LB):Sta→Sta
 | .inl f=>.inl f
 | .inr (a,e)=>match op e (seg l a e) with
  | .inl f=>.inl f
  | .inr (_,r)=>.inr (e-r.length,e)
def aOe (l:LB):Sta→Prop
 | .inl f=>0<f.1∧f.1≤100∧f.2≤l.length
 | .inr (a,e)=>a≤e∧e≤l.length
theorem aYk {α:Type}(op:Rd α)(l:LB)(f:Nat × Nat):nextR op l (.inl f)=.inl f:=rfl
theorem aYy {α:Type}(op:Rd α)(l:LB)(d:α)(f:Nat × Nat):aWr op l d (.inl f)=d:=rfl
theorem aKa {α:Type}{op:Rd α}{l:LB}{a e:Nat}{f:Nat × Nat} (h:op e (seg l a e)=.inl f):nextR op l (.inr (a,e))=.inl f:=by simp only[nextR,h]
theorem aYx {α:Type}{op:Rd α}{l:LB}{d:α}{a e:Nat}{f:Nat × Nat} (h:op e (seg l a e)=.inl f):aWr op l d (.inr (a,e))=d:=by simp only[aWr,h]
theorem aJz {α:Type}{op:Rd α}{l:LB}{a e:Nat}{x:α}{r:LB} (h:op e (seg l a e)=.inr (x,r)):nextR op l (.inr (a,e))=.inr (e-r.length,e):=by simp only[nextR,h]
end Wire
namespace Wire
structure aZv {α:Type} (op:Rd α):Prop where
 bad:∀ {base:Nat}{c:LB}{f:Nat × Nat},op base c=.inl f→0<f.1∧f.1≤100∧f.2≤base
 good:∀ {base:Nat}{c:LB}{x:α}{r:LB},op base c=.inr (x,r)→∃ p,c=p++r
theorem aZv.next {α:Type}{op:Rd α} (h:aZv op) {l:LB}{s:Sta} (hs:aOe l s):aOe l (nextR op l s):=by
 rcases s with f | ⟨a,e⟩
 ·exact hs
 obtain⟨h1,h2⟩:=hs;rcases hop:op e (seg l a e) with f | ⟨x,r⟩
 ·rw[aKa hop];have:=h.bad hop;exact⟨this.1,this.2.1,by omega⟩
 rw[aJz hop];obtain⟨p,hp⟩:=h.good hop;have:=qQ hp h1 h2;exact⟨by omega,h2⟩
end Wire
namespace Flow
def ab (x:Nat):UInt8:=if x=1 then 110 else if x=2 then 116 else if x=3 then 97 else if x=4 then 107 else 106
def pY (x:Nat):Prop:=0<x∧x<8
theorem pY.cases {x:Nat}(h:pY x):x=1∨x=2∨x=3∨x=4∨x=5∨x=6∨x=7:=by
 unfold pY at h;omega
theorem pY.or {x y:Nat}(h:pY x)(g:pY y):pY (x ||| y):=by
 rcases h.cases with rfl | rfl | rfl | rfl | rfl | rfl | rfl <;> rcases g.cases with rfl | rfl | rfl | rfl | rfl | rfl | rfl <;> exact⟨by decide,by decide⟩
theorem aZt {x y:Nat}(h:pY x)(g:pY y):ab (x ||| y)=lst (ab x) (ab y):=by
 rcases h.cases with rfl | rfl | rfl | rfl | rfl | rfl | rfl <;> rcases g.cases with rfl | rfl | rfl | rfl | rfl | rfl | rfl <;> rfl
def aRq (x:Nat):Prop:=x=1∨x=2∨x=3∨x=4∨x=7
theorem aVv {x w:Nat}(h:pY x)(g:aRq w):x &&& (w ^^^ 15)=0↔le (ab x) (ab w):=by
 rcases g with rfl | rfl | rfl | rfl | rfl <;> rcases h.cases with rfl | rfl | rfl | rfl | rfl | rfl | rfl <;> (unfold le;decide)
def bc (x:Nat):Nat:=x % 2+x / 2 % 2+x / 4 % 2
theorem aZs (x:Nat):bc x≤3:=by unfold bc;omega
theorem aZr {x y:Nat}(h:pY x)(g:pY y):bc x≤bc (x ||| y)∧(x ||| y≠x→bc x<bc (x ||| y)):=by
 rcases h.cases with rfl | rfl | rfl | rfl | rfl | rfl | rfl <;> rcases g.cases with rfl | rfl | rfl | rfl | rfl | rfl | rfl <;> exact⟨by decide,by decide⟩
def bC (s:LN):Prop:=∀ x,x ∈ s→pY x
def abL (s:LN):LB:=s.map ab
def orL (s t:LN):LN:=List.zipWith (· ||| ·) s t
theorem bR (s:LN):(abL s).length=s.length:=by simp[abL]
theorem kW (s t:LN):abL (s++t)=abL s++abL t:=by simp[abL]
theorem xX {s t:LN}(h:s.length=t.length):(orL s t).length=s.length:=by simp[orL,h]
theorem bC.cons {x:Nat}{s:LN} (h:bC (x :: s)):pY x∧bC s:=⟨h x (by simp),fun y hy=>h y (by simp[hy])⟩
theorem bC.of_cons {x:Nat}{s:LN} (h:pY x) (g:bC s):bC (x :: s):=by
 intro y hy;rcases List.mem_cons.1 hy with rfl | hy
 ·exact h
 exact g y hy
theorem bC.append {s t:LN}(h:bC s)(g:bC t):bC (s++t):=by
 intro y hy;rcases List.mem_append.1 hy with hy | hy
 ·exact h y hy
 exact g y hy
theorem bC.nil:bC []:=by intro y hy;cases hy
theorem bC.left {s t:LN}(h:bC (s++t)):bC s:=fun y hy=>h y (List.mem_append.2 (Or.inl hy))
theorem aAw {s t:LN}(h:bC s)(g:bC t):bC (orL s t):=by
 induction s generalizing t with
 | nil=>simp[orL];exact bC.nil
 | cons x s ih=>cases t with
  | nil=>simp[orL];exact bC.nil
  | cons y t=>exact bC.of_cons (h.cons.1.or g.cons.1) (ih h.cons.2 g.cons.2)
theorem aRk {s t:LN}(h:bC s)(g:bC t):abL (orL s t)=nX (abL s) (abL t):=by
 induction s generalizing t with
 | nil=>simp[orL,abL,nX]
 | cons x s ih=>cases t with
  | nil=>simp[orL,abL,nX]
  | cons y t=>
   have:=ih h.cons.2 g.cons.2
   simp only[orL,abL,nX,List.zipWith_cons_cons,List.map_cons] at this ⊢
   rw[aZt h.cons.1 g.cons.1,this]
def bcL:LN→Nat
 | []=>0
 | x :: s=>bc x+bcL s
theorem aYg (s:LN):bcL s≤3*s.length:=by
 induction s with
 | nil=>simp[bcL]
 | cons x s ih=>have:=aZs x;simp only[bcL,List.length_cons];omega
theorem aYf {s t:LN}(h:bC s)(g:bC t)(hl:s.length=t.length):bcL s≤bcL (orL s t)∧(orL s t≠s→bcL s<bcL (orL s t)):=by
 induction s generalizing t with
 | nil=>cases t with
  | nil=>exact⟨Nat.le_refl _,fun e=>absurd rfl e⟩
  | cons=>simp at hl
 | cons x s ih=>cases t with
  | nil=>simp at hl
  | cons y t=>
   obtain⟨h1,h2⟩:=aZr h.cons.1 g.cons.1
   obtain⟨h3,h4⟩:=ih h.cons.2 g.cons.2 (by simpa using hl)
   have e:orL (x :: s) (y :: t)=(x ||| y) :: orL s t:=rfl
   rw[e]
   simp only[bcL]
   refine⟨by omega,fun hne=>?_⟩
   by_cases ex:x ||| y=x
   ·have:=h4 (fun es=>hne (by rw[ex,es]))
    omega
   ·have:=h2 ex
    omega
def pk:LN→Nat
 | []=>0
 | x :: s=>x+16*pk s
theorem aHl {s:LN}(h:∀ x,x ∈ s→x<16):pk s<16 ^ s.length:=by
 induction s with
 | nil=>simp[pk]
 | cons x s ih=>
  have h1:=h x (by simp);have h2:=ih (fun y hy=>h y (by simp[hy]));simp only[pk,List.length_cons,Nat.pow_succ];omega
theorem tN (s t:LN):pk (s++t)=pk s+16 ^ s.length*pk t:=by
 induction s with
 | nil=>simp[pk]
 | cons x s ih=>
  simp only[List.cons_append,pk,ih,List.length_cons,Nat.pow_succ];rw[Nat.mul_add,← Nat.mul_assoc,Nat.mul_comm 16 (16 ^ s.length)];omega
theorem aAj (n:Nat):16 ^ n=2 ^ (4*n):=by
 rw[show (16:Nat)=2 ^ 4 from rfl,← Nat.pow_mul]
theorem aSp {s:LN}{x:Nat} (h:∀ y,y ∈ s→y<16):pk s ||| (x <<< (4*s.length))=pk (s++[x]):=by
 have hl:=aHl h;rw[aAj] at hl;rw[tN,aAj];simp only[pk,Nat.mul_zero,Nat.add_zero];rw[Nat.or_comm,Nat.shiftLeft_eq,Nat.mul_comm x,← Nat.two_pow_add_eq_or_of_lt hl];omega
theorem aWp {s:LN}{x:Nat} (h:∀ y,y ∈ s→y<16) (hx:x<16):(pk (s++[x])) >>> (4*s.length) % 16=x:=by
 have hl:=aHl h;rw[aAj] at hl;rw[tN,aAj,Nat.shiftRight_eq_div_pow];simp only[pk,Nat.mul_zero,Nat.add_zero];rw[Nat.add_mul_div_left _ _ (Nat.two_pow_pos _),Nat.div_eq_of_lt hl];omega
theorem aYw {s t:LN}(h:∀ y,y ∈ s→y<16)(g:∀ y,y ∈ t→y<16)(hl:s.length=t.length):pk s ||| pk t=pk (orL s t):=by
 induction s generalizing t with
 | nil=>cases t with
  | nil=>rfl
  | cons=>simp at hl
 | cons x s ih=>cases t with
  | nil=>simp at hl
  | cons y t=>
   have hx:x<2 ^ 4:=h x (by simp)
   have hy:y<2 ^ 4:=g y (by simp)
   have:=ih (t:=t) (fun z hz=>h z (by simp[hz])) (fun z hz=>g z (by simp[hz])) (by simpa using hl)
   have e:pk (orL (x :: s) (y :: t))=(x ||| y)+16*pk (orL s t):=rfl
   rw[e,← this]
   simp only[pk]
   have hxy:x ||| y<2 ^ 4:=Nat.or_lt_two_pow hx hy
   rw[show 16=2 ^ 4 from rfl,Nat.add_comm x,Nat.add_comm y,Nat.add_comm (x ||| y)]
   rw[Nat.two_pow_add_eq_or_of_lt hx,Nat.two_pow_add_eq_or_of_lt hy,Nat.two_pow_add_eq_or_of_lt hxy]
   apply Nat.eq_of_testBit_eq
   intro i
   simp only[Nat.testBit_or,Nat.testBit_two_pow_mul]
   cases decide (4≤i) <;> simp[Bool.or_comm,Bool.or_left_comm,Bool.or_assoc]
theorem aWq {s t:LN}(h:∀ y,y ∈ s→y<16)(g:∀ y,y ∈ t→y<16)(hl:s.length=t.length)(e:pk s=pk t):s=t:=by
 induction s generalizing t with
 | nil=>cases t with
  | nil=>rfl
  | cons=>simp at hl
 | cons x s ih=>cases t with
  | nil=>simp at hl
  | cons y t=>
   have hx:=h x (by simp)
   have hy:=g y (by simp)
   simp only[pk] at e
   have e1:x=y:=by omega
   have e2:pk s=pk t:=by omega
   rw[e1,ih (t:=t) (fun z hz=>h z (by simp[hz])) (fun z hz=>g z (by simp[hz])) (by simpa using hl) e2]
def abG (G:List (Option (LN))):List (Option (LB)):=G.map (Option.map abL)
theorem iK (G:List (Option (LN))):(abG G).length=G.length:=by simp[abG]
theorem lU (G:List (Option (LN)))(i:Nat):(abG G)[i]?=(G[i]?).map (Option.map abL):=by simp[abG]
theorem cV {G:List (Option (LN))}{i:Nat}{s:LN} (h:G[i]?=some (some s)):(abG G)[i]?=some (some (abL s)):=by
 rw[lU,h];rfl
theorem aDv {G:List (Option (LN))}{i:Nat}{t:LB} (h:(abG G)[i]?=some (some t)):∃ s,G[i]?=some (some s)∧t=abL s:=by
 rw[lU] at h;cases hg:G[i]? with
 | none=>rw[hg] at h;cases h
 | some x=>
  rw[hg] at h;cases x with
  | none=>simp at h
  | some s=>
   simp only[Option.map_some,Option.some.injEq] at h;exact⟨s,rfl,h.symm⟩
theorem aIe (G:List (Option (LN)))(i:Nat)(s:LN):abG (G.set i (some s))=(abG G).set i (some (abL s)):=by
 simp[abG,List.map_set]
def E7 (G:List (Option (LN))):Prop:=∀ (i:Nat) s,G[i]?=some (some s)→bC s
theorem E7.set {G:List (Option (LN))}(h:E7 G){i:Nat}{s:LN} (hs:bC s):E7 (G.set i (some s)):=by
 intro j t hj;rw[List.getElem?_set] at hj;split at hj
 ·split at hj
  ·simp only[Option.some.injEq] at hj;subst hj;exact hs
  cases hj
 exact h j t hj
theorem aLy {G:List (Option (LN))}{i:Nat}{s:LN} (h:G[i]?=some none):abG (G.set i (some s))=laid (abG G) i (abL s):=by
 rw[aIe];unfold laid;rw[lU,h];rfl
theorem aRl {G:List (Option (LN))}{i:Nat}{s t:LN} (h:G[i]?=some (some t)) (ht:bC t) (hs:bC s):abG (G.set i (some (orL t s)))=laid (abG G) i (abL s):=by
 rw[aIe,aRk ht hs];unfold laid;rw[cV h]
theorem aCl {G:List (Option (LN))}{i:Nat}{s t:LN} (h:G[i]?=some (some t)) (ht:bC t) (hs:bC s) (hl:t.length=s.length) (e:orL t s=t):Has (abG G) i (abL s):=by
 refine⟨abL t,cV h,?_⟩;have h1:leS (abL s) (nX (abL t) (abL s)):=A9 (by rw[bR,bR,hl]);rw[← aRk ht hs,e] at h1;exact h1
def yH:Option (LN)→Nat
 | none=>4000
 | some st=>3*st.length-bcL st
def gO (G:List (Option (LN))):Nat:=(G.map yH).sum
theorem A8 {G:List (Option (LN))}{i:Nat}{x y:Option (LN)} (hx:G[i]?=some x) (h:yH y<yH x):gO (G.set i y)<gO G:=by
 induction G generalizing i with
 | nil=>simp at hx
 | cons a G ih=>
  cases i with
  | zero=>
   simp only[List.getElem?_cons_zero,Option.some.injEq] at hx;subst hx;simp only[gO,List.set_cons_zero,List.map_cons,List.sum_cons];omega
  | succ i=>
   simp only[List.getElem?_cons_succ] at hx;have:=ih hx;simp only[gO,List.set_cons_succ,List.map_cons,List.sum_cons] at this ⊢;omega
theorem aBj {G:List (Option (LN))}{i:Nat}{s:LN} (h:G[i]?=some none) (hs:s.length≤1024):gO (G.set i (some s))<gO G:=by
 refine A8 h ?_;simp only[yH];omega
theorem aEz {G:List (Option (LN))}{i:Nat}{s t:LN} (h:G[i]?=some (some t)) (ht:bC t) (hs:bC s) (hl:t.length=s.length) (hne:orL t s≠t):gO (G.set i (some (orL t s)))<gO G:=by
 refine A8 h ?_;simp only[yH];have h1:=(aYf ht hs hl).2 hne;have h2:=aYg (orL t s);have h3:=xX hl;omega
end Flow
end Go.Proofs.YtlokkgajpjafmaaGreatDoor
