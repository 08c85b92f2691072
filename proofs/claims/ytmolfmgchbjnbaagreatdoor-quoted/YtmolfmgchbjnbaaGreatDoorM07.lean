import Derived.Test.YtmolfmgchbjnbaaGreatDoorM06
set_option linter.unusedSimpArgs false
set_option linter.unusedVariables false
set_option linter.unusedSectionVars false
set_option maxRecDepth 100000
set_option maxHeartbeats 40000000
open _root_.Go.Proofs.Tryz
namespace Go.Proofs.YtmolfmgchbjnbaaGreatDoor
open Go.RowKit
open Wire Flow Mach
structure InsA (W:WL) (g:Nat) (L:List Stp) (T:LN):Prop where
 len:T.length=L.length
 cell:∀ i s t,L[i]?=some s→T[i]?=some t→W.cell? ⟨g,i*5,none⟩=some (.int .u8 (s.op:Nat))∧W.cell? ⟨g,i*5+1,none⟩=some (.int .i64 (s.pl:Nat))∧W.cell? ⟨g,i*5+2,none⟩=some (.int .i64 (min s.a 2000000000:Nat))∧W.cell? ⟨g,i*5+3,none⟩=some (.int .i64 (min s.b 2000000000:Nat))∧W.cell? ⟨g,i*5+4,none⟩=some (.int .i64 (t:Nat))
theorem InsA.of_block {W W':WL}{g:Nat}{L:List Stp}{T:LN} (h:InsA W g L T) (hb:W'.heap[g]?=W.heap[g]?):InsA W' g L T:=
 ⟨h.len,fun i s t hs ht=>by
  have e:=fun o=>World.cell?_of_block (w:=W) (a:=Ad g o) hb
  obtain⟨h0,h1,h2,h3,h4⟩:=h.cell i s t hs ht
  exact⟨(e _).trans h0,(e _).trans h1,(e _).trans h2,(e _).trans h3,(e _).trans h4⟩⟩
def JoinedA (L:List Stp) (T:LN) (k:Nat):Prop:=∀ i s,i<k→L[i]?=some s→far s.op=true→∃ t,T[i]?=some t∧numb L s.a=some t
structure CodeM (m:Mo) (W:WL) (tag:NN) (f:Nat) (cv:Value) (L:List Stp):Prop where
 at_:∃ g cap T,cv=.slice (some ⟨g,0,none⟩) L.length cap∧L.length≤cap∧g<W.heap.size∧tag g=9∧InsA W g L T∧JoinedA L T L.length
 reads:Reads m f (locsOf m f) (codeOf m f) L
 jump:badJump L L=none
 len:L.length≤20000
def StrsV (B:Nat) (W:WL) (v:Value) (L:LY):Prop:=∃ o c,v=.slice o L.length c∧∀ (i:Nat) (t:BA),L[i]?=some t→∃ g off,o=some ⟨g,off,none⟩∧B≤g∧W.cell? ⟨g,off+i,none⟩=some (.string t)
def PatG (E:Env) (W:WL) (pb:Nat) (t:BA):Prop:=∀ W',W'.heap[pb]?=W.heap[pb]?→Tab W' →
 (∀ x:BA,x.size≤100→Calls prog 217 #[.pointer (some ⟨pb,0,none⟩),.string x,.int .i64 0] W' fun e V=>e=.returned (.tuple #[.int .i64 (E.fnd t x).1,.int .i64 (E.fnd t x).2])∧Fr [] W' V) ∧
 (∀ y x:BA,y.size≤100→x.size≤100→Calls prog 218 #[.pointer (some ⟨pb,0,none⟩),.string y,.string x] W' fun e V=>e=.returned (.string (E.swp t y x))∧Fr [] W' V) ∧
 (∀ x:BA,x.size≤100→Calls prog 219 #[.pointer (some ⟨pb,0,none⟩),.string x] W' fun e V=>∃ v,e=.returned v∧StrsV W'.heap.size V v (E.spl t x)∧Fr [] W' V)
theorem PatG.of_block {E:Env}{W W':WL}{pb:Nat}{t:BA} (h:PatG E W pb t) (hb:W'.heap[pb]?=W.heap[pb]?):PatG E W' pb t:=fun V hV hT=>h V (hV.trans hb) hT
def PatL (E:Env) (W:WL) (tag:NN) (pv:Value):Prop:=∃ o cap,pv=.slice o E.mo.pats.length cap∧E.mo.pats.length≤1000 ∧
 ∀ (i:Nat) (t:BA),E.mo.pats[i]?=some t→∃ g pb,o=some ⟨g,0,none⟩∧g<W.heap.size∧tag g=9∧W.cell? ⟨g,i,none⟩=some (.pointer (some ⟨pb,0,none⟩))∧pb<W.heap.size∧tag pb=9∧PatG E W pb t
structure Sta (E:Env) (W:WL) (tag:NN) (tv pv fv:Value) (code:Nat→Value × List Stp):Prop where
 pow:PowTab W
 low:∀ k,k<6→tag k<10
 mxl:∃ m:Int,W.cell? ⟨4,0,none⟩=some (.int .i64 m)
 tab:Tab W
 txt:RoL W tag tv (E.mo.texts.map .string)
 fns:∃ g cap,fv=.slice (some ⟨g,0,none⟩) E.mo.fns.length cap∧g<W.heap.size∧tag g=9∧E.mo.fns.length≤1000∧∀ f,f<E.mo.fns.length→W.cell? ⟨g,f*2,none⟩=some (.int .i64 (parOf E.mo f:Nat))∧W.cell? ⟨g,f*2+1,none⟩=some (code f).1
 code:∀ f,f<E.mo.fns.length→CodeM E.mo W tag f (code f).1 (code f).2
 pat:PatL E W tag pv
theorem CodeM.kp {m:Mo}{W W':WL}{tag tag':NN}{f:Nat}{cv:Value}{L:List Stp} (h:CodeM m W tag f cv L) (k:Kp tag tag' W W'):CodeM m W' tag' f cv L:=by
 obtain⟨g,cap,T,h1,h2,h3,h4,h5,h6⟩:=h.at_;exact⟨⟨g,cap,T,h1,h2,Nll h3 k.size,(k.ret g h3).trans h4,h5.of_block (k.blk g h3 (by omega)),h6⟩,h.reads,h.jump,h.len⟩
structure Ms where
 w:Wd
 low:List Frm
 fr:Frm
 st:Nat
 code:Int
 used:Nat
def fAt (s:Ms) (k:Nat):Frm:=if k<s.low.length then s.low.getD k fr0 else s.fr
theorem fAt_top (s:Ms):fAt s s.low.length=s.fr:=by simp[fAt]
structure Mx where
 tv:Value
 pv:Value
 fv:Value
 rv:Value
 dv:Value
 flv:Value
 gv:Value
 av:Value
 frv:Value
 entry:Nat
 F:Nat→FrX
 A:Nat→Nat × Value
 code:Nat→Value × List Stp
def xC (x:Mx) (s:Ms):LV:=[x.tv,x.pv,x.fv,x.rv,x.dv,.int .i64 (s.w.nr:Nat),.string s.w.rcd,x.flv,x.gv,x.av,.int .i64 (x.entry:Nat),x.frv,.int .i64 (s.st:Nat),.int .i64 s.code,.string s.w.out,.int .i64 (s.used:Nat)]
def entL (a:List (BA × Val)):List (Value × Value):=a.map fun e=>(.string e.1,vV e.2)
def PlcAt (m:Mo) (f:Nat) (L:List Stp) (ix a:Nat):Prop:=(∃ i,L[ix]?=some i∧i.pl=a)∨(ix=L.length∧a=(codeOf m f).length)
structure MR (E:Env) (X g:Nat) (s:Ms) (W:WL) (tag:NN) (lv:Nat→Bool) (R:Nat→Rw) (mp:Nat→Option (Nat × List (Value × Value))) (x:Mx):Prop where
 S:Sto W tag lv R mp
 sta:Sta E W tag x.tv x.pv x.fv x.code
 lX:lv 10=true
 rX:R 10=⟨.slice (some ⟨X,0,none⟩) 1 1,135,16,1,xC x s⟩
 lF:lv 11=true
 rF:R 11=⟨x.frv,225,51,s.low.length+1,rng (s.low.length+1) fun k=>frC (x.F k) (fAt s k)⟩
 vF:∃ cap,x.frv=.slice (some ⟨g,0,none⟩) (s.low.length+1) cap
 nF:s.low.length≤20
 lG:lv 12=true
 rG:R 12=⟨x.gv,221,3,s.w.globs.length,rng s.w.globs.length fun i=>vC (s.w.globs.getD i nothing)⟩
 lA:lv 13=true
 rA:R 13=⟨x.av,146,2,s.w.arrs.length,rng s.w.arrs.length fun i=>[.map (some (x.A i).1),(x.A i).2]⟩
 nA:s.w.arrs.length≤1000
 arr:∀ i,i<s.w.arrs.length→mp (20+2*i)=some ((x.A i).1,entL (s.w.arrs.getD i []))∧lv (21+2*i)=true∧R (21+2*i)=⟨(x.A i).2,9,1,(s.w.arrs.getD i []).length,(keysA (s.w.arrs.getD i [])).map .string⟩
 stk:∀ k,k≤s.low.length→lv (5000+k)=true∧R (5000+k)=⟨(x.F k).sv,306,4,(fAt s k).stk.length,stkC (x.F k).pw (fAt s k).stk⟩
 wlk:∀ k j c,k≤s.low.length→(fAt s k).stk[j]?=some c→c.list=true→j<1024∧c.arr<s.w.arrs.length∧lv (10000+1024*k+j)=true ∧
  ∃ ga ca lf,x.av=.slice (some ⟨ga,0,none⟩) s.w.arrs.length ca∧R (10000+1024*k+j)=⟨.slice (some ⟨(x.F k).pw j,0,none⟩) 1 1,315,2,1,[.pointer (some ⟨ga,c.arr*2,none⟩),lf]⟩∧RoL W tag lf (c.keys.map .string)
 fn:∀ k,k≤s.low.length→(fAt s k).f<E.mo.fns.length∧(x.F k).cv=(x.code (fAt s k).f).1∧PlcAt E.mo (fAt s k).f (x.code (fAt s k).f).2 (x.F k).ix (fAt s k).at_
 rcs:RoL W tag x.rv ((s.w.recs.drop s.w.nr).map .string)
 drw:RoL W tag x.dv ((s.w.draws.drop s.w.drawn).map (.int .i64))
 fld:RoL W tag x.flv (s.w.flds.map .string)
theorem pow_global:prog.globalNamed powNm=some 0:=by kernel_rfl
theorem PowTab.of_block {W W':WL}(h:PowTab W)(hb:W'.heap[0]?=W.heap[0]?):PowTab W':=by
 unfold PowTab Lib.TabIs World.var? at *;rw[pow_global] at h ⊢;simp only[Option.bind_some] at h ⊢;rw[hb];exact h
theorem PatL.kp {E:Env}{W W':WL}{tag tag':NN}{pv:Value} (h:PatL E W tag pv) (k:Kp tag tag' W W'):PatL E W' tag' pv:=by
 obtain⟨o,cap,h1,h2,h3⟩:=h;refine⟨o,cap,h1,h2,fun i t hi=>?_⟩;obtain⟨g,pb,e1,e2,e3,e4,e5,e6,e7⟩:=h3 i t hi;exact⟨g,pb,e1,Nll e2 k.size,(k.ret g e2).trans e3,(k.cell (p:=Ad g i) e2 (by show tag g<10;omega)).trans e4,Nll e5 k.size,(k.ret pb e5).trans e6,e7.of_block (k.blk pb e5 (by omega))⟩
theorem Sta.kp {E:Env}{W W':WL}{tag tag':NN}{tv pv fv:Value}{code:Nat→Value × List Stp} (h:Sta E W tag tv pv fv code) (k:Kp tag tag' W W') (hs:6≤W.heap.size):Sta E W' tag' tv pv fv code:=by
 obtain⟨g,cap,h1,h2,h3,h4,h5⟩:=h.fns;refine⟨h.pow.of_block (k.blk 0 (by omega) (h.low 0 (by omega))),fun i hi=>by rw[k.ret i (by omega)];exact h.low i hi,?_,h.tab.of_block (k.blk 1 (by omega) (h.low 1 (by omega))),h.txt.kp k,⟨g,cap,h1,Nll h2 k.size,(k.ret g h2).trans h3,h4,fun f hf=>?_⟩,fun f hf=>(h.code f hf).kp k,h.pat.kp k⟩
 ·obtain⟨m,hm⟩:=h.mxl;exact⟨m,(k.cell (p:=Ad 4 0) (by show 4<_;omega) (h.low 4 (by omega))).trans hm⟩
 obtain⟨a,b⟩:=h5 f hf;exact⟨(k.cell (p:=Ad g (f*2)) h2 (by show tag g<10;omega)).trans a,(k.cell (p:=Ad g (f*2+1)) h2 (by show tag g<10;omega)).trans b⟩
section
variable {E:Env}{X g:Nat}{s:Ms}{W W':WL}{tag tag':NN}{lv:Nat→Bool}{R:Nat→Rw}{mp:Nat→Option (Nat × List (Value × Value))}{x:Mx}
theorem MR.stay (h:MR E X g s W tag lv R mp x)(hs:6≤W.heap.size)(hS:Sto W' tag' lv R mp)(k:Kp tag tag' W W'):MR E X g s W' tag' lv R mp x:=
 { h with
  S:=hS
  sta:=h.sta.kp k hs
  wlk:=fun a b c ha hb hc=>by
   obtain⟨h1,h2,h3,ga,ca,lf,h4,h5,h6⟩:=h.wlk a b c ha hb hc
   exact⟨h1,h2,h3,ga,ca,lf,h4,h5,h6.kp k⟩
  rcs:=h.rcs.kp k
  drw:=h.drw.kp k
  fld:=h.fld.kp k }
theorem MR.fr (h:MR E X g s W tag lv R mp x)(hs:6≤W.heap.size)(hf:Fr [] W W'):MR E X g s W' (newTag tag W.heap.size 6) lv R mp x∧Kp tag (newTag tag W.heap.size 6) W W':=
 have k:Kp tag (newTag tag W.heap.size 6) W W':=Kp.of_fr hf fun _ hk=>newTag_old hk
 ⟨h.stay hs (h.S.frm hf 6) k,k⟩
def onStk (s:Ms) (l:List Cell):Ms:={ s with fr:={ s.fr with stk:=l } }
theorem fAt_on (s:Ms)(l:List Cell){k:Nat}(hk:k<s.low.length):fAt (onStk s l) k=fAt s k:=by simp[fAt,onStk,hk]
def onF (x:Mx) (k:Nat) (y:FrX):Mx:={ x with F:=up x.F k y }
theorem MR.restack (h:MR E X g s W tag lv R mp x)(hs:6≤W.heap.size){l:List Cell}{sv:Value}{R':Nat→Rw}{lv':Nat→Bool} (k:Kp tag tag' W W') (hS:Sto W' tag' lv' R' mp) (hl:∀ i,lv i=true→lv' i=true)
  (h11:R' 11=⟨x.frv,225,51,s.low.length+1,(rng (s.low.length+1) fun k=>frC (x.F k) (fAt s k)).set (s.low.length*51+50) sv⟩)
  {pw:NN} (hm:R' (5000+s.low.length)=⟨sv,306,4,l.length,stkC pw l⟩)
  (hR:∀ i,i≠11→i≠5000+s.low.length→(i<10000+1024*s.low.length∨10000+1024*s.low.length+1024≤i)→R' i=R i)
  (hw:∀ j c,l[j]?=some c→c.list=true→j<1024∧c.arr<s.w.arrs.length∧lv' (10000+1024*s.low.length+j)=true∧∃ ga ca lf,x.av=.slice (some (Ad ga 0)) s.w.arrs.length ca∧R' (10000+1024*s.low.length+j)=⟨.slice (some (Ad (pw j) 0)) 1 1,315,2,1,[.pointer (some (Ad ga (c.arr*2))),lf]⟩∧RoL W' tag' lf (c.keys.map .string)) :
  MR E X g (onStk s l) W' tag' lv' R' mp (onF x s.low.length ⟨(x.F s.low.length).cv,(x.F s.low.length).ix,sv,pw⟩):=by
 have hn:=h.nF;refine⟨hS,h.sta.kp k hs,hl _ h.lX,?_,hl _ h.lF,?_,h.vF,h.nF,hl _ h.lG,?_,hl _ h.lA,?_,h.nA,fun i hi=>?_,fun i hi=>?_,fun i j c hi hj hc=>?_,fun i hi=>?_,h.rcs.kp k,h.drw.kp k,h.fld.kp k⟩
 ·rw[hR 10 (by omega) (by omega) (.inl (by omega))];exact h.rX
 ·rw[h11];congr 1;rw[rng_set (fun _ _=>frC_len _ _) (by omega) (by omega)];refine rng_congr fun j hj=>?_;by_cases e:j=s.low.length
  ·subst e;rw[up_same];show _=frC (up x.F s.low.length _ s.low.length) (fAt (onStk s l) s.low.length);rw[up_same];unfold frC;rw[List.set_append_right _ _ (by simp[locC_len])];simp only[Lla,List.length_cons,List.length_nil,locC_len];show _++[sv]=_;congr 2;rw[fAt_top,show fAt (onStk s l) s.low.length=(onStk s l).fr from fAt_top (onStk s l)];rfl
  rw[up_off _ _ e];show _=frC (up x.F s.low.length _ j) (fAt (onStk s l) j);rw[up_off _ _ e,fAt_on s l (by omega)]
 ·rw[hR 12 (by omega) (by omega) (.inl (by omega))];exact h.rG
 ·rw[hR 13 (by omega) (by omega) (.inl (by omega))];exact h.rA
 ·obtain⟨a,b,c⟩:=h.arr i hi;have:=h.nA;have hi':i<s.w.arrs.length:=hi;exact⟨a,hl _ b,by rw[hR _ (by omega) (by omega) (.inl (by omega))];exact c⟩
 ·have hi':i≤s.low.length:=hi;by_cases e:i=s.low.length
  ·subst e;refine⟨hl _ (h.stk _ (Nat.le_refl _)).1,?_⟩;rw[hm];show _=Rw.mk (up x.F s.low.length _ s.low.length).sv 306 4 (fAt (onStk s l) s.low.length).stk.length (stkC (up x.F s.low.length _ s.low.length).pw (fAt (onStk s l) s.low.length).stk);rw[up_same,show fAt (onStk s l) s.low.length=(onStk s l).fr from fAt_top (onStk s l)];rfl
  obtain⟨a,b⟩:=h.stk i hi;refine⟨hl _ a,?_⟩;rw[hR _ (by omega) (by omega) (.inl (by omega)),b];show _=Rw.mk (up x.F s.low.length _ i).sv 306 4 (fAt (onStk s l) i).stk.length (stkC (up x.F s.low.length _ i).pw (fAt (onStk s l) i).stk);rw[up_off _ _ e,fAt_on s l (by omega)]
 ·have hi':i≤s.low.length:=hi;by_cases e:i=s.low.length
  ·subst e;rw[show fAt (onStk s l) s.low.length=(onStk s l).fr from fAt_top (onStk s l)] at hj;obtain⟨h1,h2,h3,ga,ca,lf,h4,h5,h6⟩:=hw j c hj hc;refine⟨h1,h2,h3,ga,ca,lf,h4,?_,h6⟩;rw[h5];show _=Rw.mk (.slice (some (Ad ((up x.F s.low.length _ s.low.length).pw j) 0)) 1 1) 315 2 1 _;rw[up_same]
  rw[fAt_on s l (by omega)] at hj;obtain⟨h1,h2,h3,ga,ca,lf,h4,h5,h6⟩:=h.wlk i j c hi hj hc;refine⟨h1,h2,hl _ h3,ga,ca,lf,h4,?_,h6.kp k⟩;rw[hR _ (by omega) (by omega) (.inl (by omega)),h5];show _=Rw.mk (.slice (some (Ad ((up x.F s.low.length _ i).pw j) 0)) 1 1) 315 2 1 _;rw[up_off _ _ e]
 have hi':i≤s.low.length:=hi;obtain⟨a,b,c⟩:=h.fn i hi;by_cases e:i=s.low.length
 ·subst e;rw[show fAt (onStk s l) s.low.length=(onStk s l).fr from fAt_top (onStk s l)];rw[fAt_top] at a b c;show s.fr.f<_∧(up x.F s.low.length _ s.low.length).cv=_∧PlcAt E.mo s.fr.f (x.code s.fr.f).2 (up x.F s.low.length _ s.low.length).ix s.fr.at_;rw[up_same];exact⟨a,b,c⟩
 rw[fAt_on s l (by omega)];show _∧(up x.F s.low.length _ i).cv=_∧PlcAt E.mo (fAt s i).f (x.code (fAt s i).f).2 (up x.F s.low.length _ i).ix (fAt s i).at_;rw[up_off _ _ e];exact⟨a,b,c⟩
end
theorem Kp.new {tag:NN}{a b:WL} (h:Fr [] a b) (t:Nat):Kp tag (newTag tag a.heap.size t) a b:=Kp.of_fr h fun _ hk=>newTag_old hk
structure Pl where
 g:Nat
 gv:Value
 av:Value
 en:Nat
 pv:Value
 code:Nat→Value × List Stp
def MM (E:Env) (X:Nat) (g:Pl) (s:Ms) (W:WL) (tag:NN):Prop:=6≤W.heap.size∧∃ lv R mp x,((x.gv=g.gv∧x.entry=g.en∧x.pv=g.pv∧x.code=g.code)∧x.av=g.av)∧MR E X g.g s W tag lv R mp x
def MP (E:Env) (X:Nat) (g:Pl) (s:Ms) (tag:NN) (W:WL) (v:Value) (e:Ending) (W':WL):Prop:=e=.returned v∧∃ tag',MM E X g s W' tag'∧Kp tag tag' W W'
abbrev unit:Value:=.tuple #[]
abbrev fp (g:Pl) (s:Ms):Value:=.pointer (some ⟨g.g,s.low.length*51,none⟩)
section
variable {E:Env}{X:Nat}{g:Pl}{s:Ms}{W W':WL}{tag:NN}
theorem MM.fr (h:MM E X g s W tag)(hf:Fr [] W W'):∃ tag',MM E X g s W' tag'∧Kp tag tag' W W':=by
 obtain⟨h6,lv,R,mp,x,hx,h⟩:=h;obtain⟨h',k⟩:=h.fr h6 hf;exact⟨_,⟨Nat.le_trans h6 hf.size,lv,R,mp,x,hx,h'⟩,k⟩
theorem MM.pow (h:MM E X g s W tag):PowTab W:=by
 obtain⟨h6,lv,R,mp,x,hx,h⟩:=h;exact h.sta.pow
theorem MR.top {lv:Nat→Bool}{R:Nat→Rw}{mp:Nat→Option (Nat × List (Value × Value))}{x:Mx} (h:MR E X g.g s W tag lv R mp x) :
  (∃ cap,R 11=⟨.slice (some (Ad g.g 0)) (s.low.length+1) cap,225,51,s.low.length+1,rng (s.low.length+1) fun k=>frC (x.F k) (fAt s k)⟩∧x.frv=.slice (some (Ad g.g 0)) (s.low.length+1) cap) ∧
  lv (5000+s.low.length)=true∧R (5000+s.low.length)=⟨(x.F s.low.length).sv,306,4,s.fr.stk.length,stkC (x.F s.low.length).pw s.fr.stk⟩ ∧
  (rng (s.low.length+1) fun k=>frC (x.F k) (fAt s k))[s.low.length*51+50]?=some (x.F s.low.length).sv:=by
 obtain⟨cap,hc⟩:=h.vF;obtain⟨a,b⟩:=h.stk _ (Nat.le_refl _);rw[fAt_top] at b;refine⟨⟨cap,by rw[h.rF,hc],hc⟩,a,b,?_⟩;rw[rng_get (fun _ _=>frC_len _ _) (by omega) (by omega),frC_stk]
theorem MM.push (h:MM E X g s W tag)(hl:s.fr.stk.length<1024)(v:Val):Calls prog 195 #[fp g s,vV v] W (MP E X g (onStk s (s.fr.stk++[cv v])) tag W unit):=by
 obtain⟨h6,lv,R,mp,x,hx,h⟩:=h;obtain⟨⟨cap,r11,hv⟩,lm,rm,hxx⟩:=h.top;have hn:=h.nF;refine (pushA_any h.S h.lF r11 (Nat.lt_succ_self _) (by omega) lm rm hxx (by omega) _ _ _).mono fun e W' ⟨he,tag',sv',hS,k⟩=>⟨he,tag',⟨Nat.le_trans h6 k.size,lv,_,mp,onF x s.low.length _,hx,h.restack h6 (l:=s.fr.stk++[cv v]) (pw:=(x.F s.low.length).pw) (sv:=sv') k hS (fun _ h=>h) ?_ ?_ ?_ ?_⟩,k⟩
 ·rw[up_same,hv]
 ·rw[up_off _ _ (by omega),up_same,stkC_push,Lla];rfl
 ·intro i h1 h2 h3;rw[up_off _ _ h1,up_off _ _ h2]
 intro j c hj hc;rcases Nat.lt_or_ge j s.fr.stk.length with c1 | c1
 ·rw[List.getElem?_append_left c1] at hj;obtain⟨w1,w2,w3,ga,ca,lf,w4,w5,w6⟩:=h.wlk s.low.length j c (Nat.le_refl _) (by rw[fAt_top];exact hj) hc;exact⟨w1,w2,w3,ga,ca,lf,w4,by rw[up_off _ _ (by omega),up_off _ _ (by omega)];exact w5,w6.kp k⟩
 rw[List.getElem?_append_right c1] at hj;have:c=cv v:=by
  rcases e:j-s.fr.stk.length with _ | q
  ·rw[e] at hj;simpa using hj.symm
  rw[e] at hj;simp at hj
 subst this;simp[cv] at hc
def celV (c:Cell):Value:=if c.list=true then vlV 0 0 ⟨#[]⟩ else vV c.v
theorem MM.pop (h:MM E X g s W tag){l:List Cell}{c:Cell} (hs:s.fr.stk=l++[c]) (hl:s.fr.stk.length≤1024):Calls prog 196 #[fp g s] W (MP E X g (onStk s l) tag W (celV c)):=by
 obtain⟨h6,lv,R,mp,x,hx,h⟩:=h;obtain⟨⟨cap,r11,hv⟩,lm,rm,hxx⟩:=h.top;have hn:=h.nF;have hlen:s.fr.stk.length=l.length+1:=by rw[hs];simp
 have o11:W.ownsRow 0 225 51 (.slice (some (Ad g.g 0)) (s.low.length+1) cap) (s.low.length+1) (rng (s.low.length+1) fun k=>frC (x.F k) (fAt s k)):=by have:=(h.S.rows 11 h.lF).1;rw[r11] at this;exact this
 have om:W.ownsRow 0 306 4 (x.F s.low.length).sv (l.length+1) (stkC (x.F s.low.length).pw (l++[c])):=by have:=(h.S.rows _ lm).1;rw[rm,hlen,hs] at this;exact this
 obtain⟨gs,cs,hsv,hcs,hgs⟩:=own_some om (by omega);rw[hsv] at om hxx;obtain⟨a,b,t,p,h0,h1,h2,h3,hV⟩:∃ (a b:Int) (t:BA) (p:OA),W.cell? (Ad gs (l.length*4))=some (.int .u8 a)∧W.cell? (Ad gs (l.length*4+1))=some (iA b)∧W.cell? (Ad gs (l.length*4+2))=some (.string t)∧W.cell? (Ad gs (l.length*4+3))=some (.pointer p)∧celV c=vlV a b t:=by
  have e:=fun t (ht:t<4)=>stkC_last (x.F s.low.length).pw l c t ht;by_cases hc:c.list=true
  ·refine⟨0,0,⟨#[]⟩,some (Ad ((x.F s.low.length).pw l.length) 0),own_cell om ((e 0 (by decide)).trans ?_),own_cell om ((e 1 (by decide)).trans ?_),own_cell om ((e 2 (by decide)).trans ?_),own_cell om ((e 3 (by decide)).trans ?_),by simp[celV,hc]⟩ <;> simp[celC,hc]
  refine⟨c.v.kind,vN c.v,vS c.v,none,own_cell om ((e 0 (by decide)).trans ?_),own_cell om ((e 1 (by decide)).trans ?_),own_cell om ((e 2 (by decide)).trans ?_),own_cell om ((e 3 (by decide)).trans ?_),by simp[celV,hc,vV]⟩ <;> simp[celC,hc]
 rw[hV];refine (popA_any g.g (s.low.length*51) gs l.length cs a b t p W (own_cell o11 hxx) (own_thaw o11 _) (by omega) hcs h0 h1 h2 h3).mono fun e W' ⟨he,hset⟩=>⟨he,?_⟩;obtain⟨S1,K1⟩:=h.S.put h.lF r11 (j:=s.low.length*51+50) (by omega) (.slice (some (Ad gs 0)) l.length cs);have rm':up R 11 ⟨.slice (some (Ad g.g 0)) (s.low.length+1) cap,225,51,s.low.length+1,(rng (s.low.length+1) fun k=>frC (x.F k) (fAt s k)).set (s.low.length*51+50) (.slice (some (Ad gs 0)) l.length cs)⟩ (5000+s.low.length)=⟨.slice (some (Ad gs 0)) (l.length+1) cs,306,4,l.length+1,stkC (x.F s.low.length).pw (l++[c])⟩:=by
  rw[up_off _ _ (by omega),rm,hsv,hlen,hs]
 have S2:=S1.cut lm rm' (n':=l.length) (by omega);have S3:=S2.frm hset 6;have K:=K1.trans (Kp.new hset 6);refine⟨_,⟨Nat.le_trans h6 K.size,lv,_,mp,onF x s.low.length _,hx,h.restack h6 (l:=l) (pw:=(x.F s.low.length).pw) (sv:=.slice (some (Ad gs 0)) l.length cs) K S3 (fun _ h=>h) ?_ ?_ ?_ ?_⟩,K⟩
 ·rw[up_off _ _ (by omega),up_same,hv]
 ·rw[up_same,stkC_pop]
 ·intro i h1 h2 h3;rw[up_off _ _ h2,up_off _ _ h1]
 intro j q hj hc;have c1:=(Lgs.1 hj).1;obtain⟨w1,w2,w3,ga,ca,lf,w4,w5,w6⟩:=h.wlk s.low.length j q (Nat.le_refl _) (by rw[fAt_top,hs,List.getElem?_append_left c1];exact hj) hc;exact⟨w1,w2,w3,ga,ca,lf,w4,by rw[up_off _ _ (by omega),up_off _ _ (by omega)];exact w5,w6.kp K⟩
end
structure EnvOk (E:Env):Prop where
 itoa:E.itoa=itoaB
 wr:∀ n:Int,-9223372036854775808≤n→n≤9223372036854775807→E.wr n=n
section
variable {E:Env}{X:Nat}{g:Pl}{s:Ms}{W W':WL}{tag:NN}
theorem MM.pushNumber (h:MM E X g s W tag)(hl:s.fr.stk.length<1024)(n:Int):Calls prog 192 #[fp g s,iA n] W (MP E X g (onStk s (s.fr.stk++[cv (whole n)])) tag W unit):=by
 have HN:Hid _:=fun (_:Unit)=>numberV_any n W;have HP:Hid _:=fun (W1:WL) (t1:NN) (h1:MM E X g s W1 t1)=>h1.push hl (whole n);have HM:Hid (MM E X g s W tag):=h;clear h;go_enter func192,ntmps192;go_wp2_with fail;refine (HN.out ()).mono ?_;rintro e W1 ⟨rfl,F1⟩;obtain⟨t1,h1,k1⟩:=MM.fr (HM.out:MM E X g s W tag) F1;have HK:Hid _:=k1;clear k1 F1 HM HN;go_wp2_with fail;refine (HP.out W1 t1 h1).mono ?_;rintro e W2 hp;obtain⟨rfl,t2,h2,k2⟩:=hp;go_wp2_with fail;refine bodyPost_ret (results_none rfl _ _ _) rfl ?_;exact⟨rfl,t2,h2,HK.out.trans k2⟩
theorem MM.pushText (h:MM E X g s W tag)(hl:s.fr.stk.length<1024)(t:BA):Calls prog 194 #[fp g s,.string t] W (MP E X g (onStk s (s.fr.stk++[cv (words t)])) tag W unit):=by
 have HN:Hid _:=fun (_:Unit)=>textV_any t W;have HP:Hid _:=fun (W1:WL) (t1:NN) (h1:MM E X g s W1 t1)=>h1.push hl (words t);have HM:Hid (MM E X g s W tag):=h;clear h;go_enter func194,ntmps194;go_wp2_with fail;refine (HN.out ()).mono ?_;rintro e W1 ⟨rfl,F1⟩;obtain⟨t1,h1,k1⟩:=MM.fr (HM.out:MM E X g s W tag) F1;have HK:Hid _:=k1;clear k1 F1 HM HN;go_wp2_with fail;refine (HP.out W1 t1 h1).mono ?_;rintro e W2 hp;obtain⟨rfl,t2,h2,k2⟩:=hp;go_wp2_with fail;refine bodyPost_ret (results_none rfl _ _ _) rfl ?_;exact⟨rfl,t2,h2,HK.out.trans k2⟩
theorem MM.pushTruth (h:MM E X g s W tag)(hl:s.fr.stk.length<1024)(b:Bool):Calls prog 206 #[fp g s,.bool b] W (MP E X g (onStk s (s.fr.stk++[cv (whole (truth b))])) tag W unit):=by
 have HN:Hid _:=fun (_:Unit)=>truth_any b W;have HP:Hid _:=fun (W1:WL) (t1:NN) (h1:MM E X g s W1 t1)=>h1.push hl (whole (truth b));have HM:Hid (MM E X g s W tag):=h;clear h;go_enter func206,ntmps206;go_wp2_with fail;refine (HN.out ()).mono ?_;rintro e W1 ⟨rfl,F1⟩;obtain⟨t1,h1,k1⟩:=MM.fr (HM.out:MM E X g s W tag) F1;have HK:Hid _:=k1;clear k1 F1 HM HN;go_wp2_with fail;refine (HP.out W1 t1 h1).mono ?_;rintro e W2 hp;obtain⟨rfl,t2,h2,k2⟩:=hp;go_wp2_with fail;refine bodyPost_ret (results_none rfl _ _ _) rfl ?_;exact⟨rfl,t2,h2,HK.out.trans k2⟩
theorem MM.popText (hE:EnvOk E)(h:MM E X g s W tag){l:List Cell}{v:Val} (hs:s.fr.stk=l++[cv v]) (hl:s.fr.stk.length≤1024) (hv:SmV v):Calls prog 199 #[fp g s] W (MP E X g (onStk s l) tag W (.string (textV E v))):=by
 have HP:Hid _:=fun (_:Unit)=>h.pop hs hl;have HN:Hid _:=fun (W1:WL) (hp:PowTab W1)=>text_v hE.itoa hv W1 hp;clear h;go_enter func199,ntmps199;go_wp2_with fail;refine (HP.out ()).mono ?_;rintro e W1 hp;obtain⟨rfl,t1,h1,k1⟩:=hp;have HM:Hid _:=AI h1 k1;clear h1 k1 HP;go_wp2_with fail;refine (HN.out W1 HM.out.1.pow).mono ?_;rintro e W2 ⟨rfl,F2⟩;obtain⟨t2,h2,k2⟩:=MM.fr HM.out.1 F2;have HK:Hid _:=AI h2 (HM.out.2.trans k2);clear h2 k2 F2 HN;go_wp2_with fail;go_ret;exact⟨rfl,t2,HK.out.1,HK.out.2⟩
end
section
variable {E:Env}{X:Nat}{g:Pl}{s:Ms}{W W':WL}{tag:NN}
theorem MM.pop2 (h:MM E X g s W tag){l:List Cell}{u v:Val} (hs:s.fr.stk=l++[cv u,cv v]) (hl:s.fr.stk.length≤1024):s.fr.stk=(l++[cv u])++[cv v]∧(onStk s (l++[cv u])).fr.stk=l++[cv u]∧(onStk s (l++[cv u])).fr.stk.length≤1024∧l.length<1024:=by
 have e:s.fr.stk=(l++[cv u])++[cv v]:=by rw[hs];simp
 refine⟨e,rfl,?_,?_⟩
 ·show (l++[cv u]).length≤1024;rw[e] at hl;simp at hl ⊢;omega
 rw[e] at hl;simp at hl;omega
end
theorem isLong_any (t:BA)(W:WL):Calls prog 54 #[.string t] W fun e W'=>e=.returned (.bool (decide ((t.size:Int)>100)))∧W'=W:=by
 go_enter func54,ntmps54;go_wp2_with fail;go_ret;exact⟨rfl,rfl⟩
section
variable {E:Env}{X:Nat}{g:Pl}{s:Ms}{W W':WL}{tag:NN}
theorem MM.popV (h:MM E X g s W tag){l:List Cell}{v:Val} (hs:s.fr.stk=l++[cv v]) (hl:s.fr.stk.length≤1024):Calls prog 196 #[fp g s] W (MP E X g (onStk s l) tag W (vlV v.kind (vN v) (vS v))):=h.pop hs hl
theorem MM.box (h:MM E X g s W tag)(hf:Fr [] W W'):∃ tag',MM E X g s W' tag'∧Kp tag tag' W W'∧∀ b,W.heap.size≤b→tag' b=6:=by
 obtain⟨h6,lv,R,mp,x,hx,h⟩:=h;obtain⟨h',k⟩:=h.fr h6 hf;exact⟨_,⟨Nat.le_trans h6 hf.size,lv,R,mp,x,hx,h'⟩,k,fun b hb=>newTag_new hb⟩
theorem MM.cat (hE:EnvOk E)(h:MM E X g s W tag){l:List Cell}{u v:Val} (hs:s.fr.stk=l++[cv u,cv v]) (hl:s.fr.stk.length≤1024) (hu:SmV u) (hv:SmV v) (su:(textV E u).size≤100) (sv:(textV E v).size≤100) :
  Calls prog 121 #[fp g s] W (MP E X g (onStk s (l++if (textV E u).size+(textV E v).size>100 then [] else [cv (words (textV E u++textV E v))])) tag W (iA (if (textV E u).size+(textV E v).size>100 then 6 else 0))):=by
 obtain⟨e1,e2,hl2,hl3⟩:=h.pop2 hs hl;have HP1:Hid _:=fun (_:Unit)=>h.popText hE e1 hl hv;have HP2:Hid _:=fun (W1:WL) (t1:NN) (h1:MM E X g (onStk s (l++[cv u])) W1 t1)=>MM.popText hE h1 e2 hl2 hu;have HN:Hid _:=fun (W1:WL) (t1:NN) (h1:MM E X g (onStk s l) W1 t1) (n:BA)=>MM.pushText h1 (show l.length<1024 from hl3) n;have HB:Hid _:=fun (t:BA) (W:WL)=>isLong_any t W;obtain⟨a,ha⟩:=eXi (textV E u);obtain⟨b,hb⟩:=eXi (textV E v);rw[ha] at HP2 su;rw[hb] at HP1 sv;rw[ha,hb];have hsz:(a++b).size=a.size+b.size:=ByteArray.size_append;obtain⟨c,hc⟩:=eXi (a++b);rw[hc] at hsz;rw[hc];clear h ha hb hu hv;by_cases hlong:a.size+b.size>100
 ·rw[if_pos hlong,if_pos hlong,List.append_nil];have hB2:decide ((c.size:Int)>100)=true:=by simp;omega
  replace HB:Hid _:=fun (W:WL)=>HB.out c W;rw[hB2] at HB;clear hlong hsz hB2 HN;go_enter func121,ntmps121;go_wp2_with fail;refine (HP1.out ()).mono ?_;rintro e W1 ⟨rfl,t1,h1,k1⟩;have HM1:Hid _:=AI h1 (k1);clear h1 k1;go_wp2_with fail;refine (HP2.out W1 t1 HM1.out.1).mono ?_;rintro e W2 ⟨rfl,t2,h2,k2⟩;have HM2:Hid _:=AI h2 (HM1.out.2.trans k2);clear h2 k2 HP1 HP2;go_wp2_with fail;refine (HB.out W2).mono ?_;rintro e W3 ⟨rfl,hw3⟩;replace hw3:=hw3.symm;subst hw3;go_wp2_with fail;go_ret;exact⟨rfl,t2,HM2.out.1,HM2.out.2⟩
 rw[if_neg hlong,if_neg hlong];have hB2:decide ((c.size:Int)>100)=false:=by simp;omega
 replace HB:Hid _:=fun (W:WL)=>HB.out c W;rw[hB2] at HB;clear hlong hsz hB2;go_enter func121,ntmps121;go_wp2_with fail;refine (HP1.out ()).mono ?_;rintro e W1 ⟨rfl,t1,h1,k1⟩;have HM1:Hid _:=AI h1 (k1);clear h1 k1;go_wp2_with fail;refine (HP2.out W1 t1 HM1.out.1).mono ?_;rintro e W2 ⟨rfl,t2,h2,k2⟩;have HM2:Hid _:=AI h2 (HM1.out.2.trans k2);clear h2 k2 HP1 HP2;go_wp2_with fail;refine (HB.out W2).mono ?_;rintro e W3 ⟨rfl,hw3⟩;replace hw3:=hw3.symm;subst hw3;go_wp2_with fail;refine (HN.out W2 t2 HM2.out.1 c).mono ?_;rintro e W4 ⟨rfl,t4,h4,k4⟩;have HM4:Hid _:=AI h4 (HM2.out.2.trans k4);clear h4 k4 HN HB;go_wp2_with fail;go_ret;exact⟨rfl,t4,HM4.out.1,HM4.out.2⟩
def oneV (E:Env) (op:Nat) (v:Val):Val:=if op=23 then whole (-numV v) else if op=24 then whole (truth (numV v==0)) else if op=26 then whole (numV v) else if op=27 then words (textV E v) else whole (truth (holdsV v))
theorem MM.one (hE:EnvOk E)(h:MM E X g s W tag){op:Nat}(hop:op=23∨op=24∨op=26∨op=27∨op=28){l:List Cell}{v:Val} (hs:s.fr.stk=l++[cv v]) (hl:s.fr.stk.length≤1024) (hv:SmV v) :
  Calls prog 122 #[fp g s,.int .u8 (op:Nat)] W (MP E X g (onStk s (l++[cv (oneV E op v)])) tag W unit):=by
 have hl3:l.length<1024:=by rw[hs] at hl;simp at hl;omega
 have HP1:Hid _:=fun (_:Unit)=>h.popV hs hl;have HV:Hid _:=fun (W1:WL)=>num_v hv W1;have HT:Hid _:=fun (W1:WL) (hp:PowTab W1)=>text_v hE.itoa hv W1 hp;have HH:Hid _:=fun (W1:WL)=>holds_v v W1;have HN:Hid _:=fun (W1:WL) (t1:NN) (h1:MM E X g (onStk s l) W1 t1) (n:Int)=>MM.pushNumber h1 (show l.length<1024 from hl3) n;have HS:Hid _:=fun (W1:WL) (t1:NN) (h1:MM E X g (onStk s l) W1 t1) (n:BA)=>MM.pushText h1 (show l.length<1024 from hl3) n;have HB:Hid _:=fun (W1:WL) (t1:NN) (h1:MM E X g (onStk s l) W1 t1) (n:Bool)=>MM.pushTruth h1 (show l.length<1024 from hl3) n;have bv:=numV_sm hv;have hneg:IntKind.i64.wrap (-numV v) = -numV v:=by rw[IntKind.wrap_i64];omega
 have hV:Hid (vV v=vlV v.kind (vN v) (vS v)):=rfl;unfold vV at HV HT HH;clear h;obtain⟨k,hk⟩:∃ k:Int,(v.kind:Int)=k:=⟨_,rfl⟩;obtain⟨m,hm⟩:=eXi (vN v);obtain⟨t,ht⟩:=eXi (vS v);rw[hk,hm,ht] at HV HT HH HP1;clear hk hm ht hV;rcases hop with rfl | rfl | rfl | rfl | rfl
 ·have ho:Hid (oneV E 23 v=whole (-numV v)):=rfl;rw[ho.out];clear ho;go_enter func122,ntmps122;go_wp2_with fail;refine (HP1.out ()).mono ?_;rintro e W1 ⟨rfl,t1,h1,k1⟩;have HM1:Hid _:=AI h1 (k1);clear h1 k1 HP1;obtain⟨W2,hW2,F2,c0,c1,c2,l2⟩:=box_cells W1 k m t;obtain⟨t2,h2,k2,-⟩:=MM.box HM1.out.1 F2;have HM2:Hid _:=AI h2 (HM1.out.2.trans k2);clear h2 k2 F2 l2;go_wp2_with fail;refine (HV.out W2).mono ?_;rintro e W3 ⟨rfl,F3⟩;obtain⟨t3,h3,k3⟩:=MM.fr HM2.out.1 F3;have HM3:Hid _:=AI h3 (HM2.out.2.trans k3);clear h3 k3 F3 c0 c1 c2;go_wp2_with fail;refine (HN.out W3 t3 HM3.out.1 (-numV v)).mono ?_;rintro e W4 ⟨rfl,t4,h4,k4⟩;have HM4:Hid _:=AI h4 (HM3.out.2.trans k4);clear h4 k4;go_wp2_with fail;refine bodyPost_ret (results_none rfl _ _ _) rfl ?_;exact⟨rfl,t4,HM4.out.1,HM4.out.2⟩
 ·have ho:Hid (oneV E 24 v=whole (truth (numV v==0))):=rfl;rw[ho.out];clear ho;go_enter func122,ntmps122;go_wp2_with fail;refine (HP1.out ()).mono ?_;rintro e W1 ⟨rfl,t1,h1,k1⟩;have HM1:Hid _:=AI h1 (k1);clear h1 k1 HP1;obtain⟨W2,hW2,F2,c0,c1,c2,l2⟩:=box_cells W1 k m t;obtain⟨t2,h2,k2,-⟩:=MM.box HM1.out.1 F2;have HM2:Hid _:=AI h2 (HM1.out.2.trans k2);clear h2 k2 F2 l2;go_wp2_with fail;refine (HV.out W2).mono ?_;rintro e W3 ⟨rfl,F3⟩;obtain⟨t3,h3,k3⟩:=MM.fr HM2.out.1 F3;have HM3:Hid _:=AI h3 (HM2.out.2.trans k3);clear h3 k3 F3 c0 c1 c2;go_wp2_with fail;refine (HB.out W3 t3 HM3.out.1 (numV v==0)).mono ?_;rintro e W4 ⟨rfl,t4,h4,k4⟩;have HM4:Hid _:=AI h4 (HM3.out.2.trans k4);clear h4 k4;go_wp2_with fail;refine bodyPost_ret (results_none rfl _ _ _) rfl ?_;exact⟨rfl,t4,HM4.out.1,HM4.out.2⟩
 ·have ho:Hid (oneV E 26 v=whole (numV v)):=rfl;rw[ho.out];clear ho;go_enter func122,ntmps122;go_wp2_with fail;refine (HP1.out ()).mono ?_;rintro e W1 ⟨rfl,t1,h1,k1⟩;have HM1:Hid _:=AI h1 (k1);clear h1 k1 HP1;obtain⟨W2,hW2,F2,c0,c1,c2,l2⟩:=box_cells W1 k m t;obtain⟨t2,h2,k2,-⟩:=MM.box HM1.out.1 F2;have HM2:Hid _:=AI h2 (HM1.out.2.trans k2);clear h2 k2 F2 l2;go_wp2_with fail;refine (HV.out W2).mono ?_;rintro e W3 ⟨rfl,F3⟩;obtain⟨t3,h3,k3⟩:=MM.fr HM2.out.1 F3;have HM3:Hid _:=AI h3 (HM2.out.2.trans k3);clear h3 k3 F3 c0 c1 c2;go_wp2_with fail;refine (HN.out W3 t3 HM3.out.1 (numV v)).mono ?_;rintro e W4 ⟨rfl,t4,h4,k4⟩;have HM4:Hid _:=AI h4 (HM3.out.2.trans k4);clear h4 k4;go_wp2_with fail;refine bodyPost_ret (results_none rfl _ _ _) rfl ?_;exact⟨rfl,t4,HM4.out.1,HM4.out.2⟩
 ·have ho:Hid (oneV E 27 v=words (textV E v)):=rfl;rw[ho.out];clear ho;go_enter func122,ntmps122;go_wp2_with fail;refine (HP1.out ()).mono ?_;rintro e W1 ⟨rfl,t1,h1,k1⟩;have HM1:Hid _:=AI h1 (k1);clear h1 k1 HP1;obtain⟨W2,hW2,F2,c0,c1,c2,l2⟩:=box_cells W1 k m t;obtain⟨t2,h2,k2,-⟩:=MM.box HM1.out.1 F2;have HM2:Hid _:=AI h2 (HM1.out.2.trans k2);clear h2 k2 F2 l2;go_wp2_with fail;refine (HT.out W2 (MM.pow HM2.out.1)).mono ?_;rintro e W3 ⟨rfl,F3⟩;obtain⟨t3,h3,k3⟩:=MM.fr HM2.out.1 F3;have HM3:Hid _:=AI h3 (HM2.out.2.trans k3);clear h3 k3 F3 c0 c1 c2;go_wp2_with fail;refine (HS.out W3 t3 HM3.out.1 (textV E v)).mono ?_;rintro e W4 ⟨rfl,t4,h4,k4⟩;have HM4:Hid _:=AI h4 (HM3.out.2.trans k4);clear h4 k4;go_wp2_with fail;refine bodyPost_ret (results_none rfl _ _ _) rfl ?_;exact⟨rfl,t4,HM4.out.1,HM4.out.2⟩
 have ho:Hid (oneV E 28 v=whole (truth (holdsV v))):=rfl;rw[ho.out];clear ho;go_enter func122,ntmps122;go_wp2_with fail;refine (HP1.out ()).mono ?_;rintro e W1 ⟨rfl,t1,h1,k1⟩;have HM1:Hid _:=AI h1 (k1);clear h1 k1 HP1;obtain⟨W2,hW2,F2,c0,c1,c2,l2⟩:=box_cells W1 k m t;obtain⟨t2,h2,k2,-⟩:=MM.box HM1.out.1 F2;have HM2:Hid _:=AI h2 (HM1.out.2.trans k2);clear h2 k2 F2 l2;go_wp2_with fail;refine (HH.out W2).mono ?_;rintro e W3 ⟨rfl,F3⟩;obtain⟨t3,h3,k3⟩:=MM.fr HM2.out.1 F3;have HM3:Hid _:=AI h3 (HM2.out.2.trans k3);clear h3 k3 F3 c0 c1 c2;go_wp2_with fail;refine (HB.out W3 t3 HM3.out.1 (holdsV v)).mono ?_;rintro e W4 ⟨rfl,t4,h4,k4⟩;have HM4:Hid _:=AI h4 (HM3.out.2.trans k4);clear h4 k4;go_wp2_with fail;refine bodyPost_ret (results_none rfl _ _ _) rfl ?_;exact⟨rfl,t4,HM4.out.1,HM4.out.2⟩
end
structure BoxAt (W:WL) (tag:NN) (b:Nat) (k m:Int) (t:BA):Prop where
 lt:b<W.heap.size
 tg:tag b=6
 c0:W.cell? ⟨b,0,none⟩=some (.int .u8 k)
 c1:W.cell? ⟨b,1,none⟩=some (.int .i64 m)
 c2:W.cell? ⟨b,2,none⟩=some (.string t)
theorem BoxAt.kp {W W':WL}{tag tag':NN}{b:Nat}{k m:Int}{t:BA} (h:BoxAt W tag b k m t) (q:Kp tag tag' W W'):BoxAt W' tag' b k m t:=
 have e:=fun o=>q.cell (p:=Ad b o) h.lt (by show tag b<10;rw[h.tg];decide)
 ⟨Nll h.lt q.size,(q.ret b h.lt).trans h.tg,(e 0).trans h.c0,(e 1).trans h.c1,(e 2).trans h.c2⟩
section
variable {E:Env}{X:Nat}{g:Pl}{s:Ms}{W W':WL}{tag:NN}
theorem MM.drop (h:MM E X g s W tag){l:List Cell}{c:Cell} (hs:s.fr.stk=l++[c]) (hl:s.fr.stk.length≤1024) :
  Calls prog 127 #[fp g s,.int .u8 47] W (MP E X g (onStk s l) tag W unit):=by
 obtain⟨k,m,t,he⟩:∃ (k m:Int) (t:BA),celV c=vlV k m t:=by
  unfold celV;split
  ·exact⟨_,_,_,rfl⟩
  exact⟨_,_,_,rfl⟩
 have HP1:Hid _:=fun (_:Unit)=>h.pop hs hl;rw[he] at HP1;clear h he;go_enter func127,ntmps127;go_wp2_with fail;refine (HP1.out ()).mono ?_;rintro e W1 ⟨rfl,t1,h1,k1⟩;have HM1:Hid _:=AI h1 (k1);have HK1:Hid _:=k1;clear h1 k1 HP1;obtain⟨W2,hW2,F2,c0,c1,c2,l2⟩:=box_cells W1 k m t;obtain⟨t2,h2,k2,hb2⟩:=MM.box HM1.out.1 F2;have HX2:Hid _:=BoxAt.mk l2 (hb2 _ (Nat.le_refl _)) c0 c1 c2;have HM2:Hid _:=AI h2 (HM1.out.2.trans k2);have HK2:Hid _:=k2;clear h2 k2 F2 hb2 l2;go_wp2_with fail;refine bodyPost_ret (results_none rfl _ _ _) rfl ?_;exact⟨rfl,t2,HM2.out.1,HM2.out.2⟩
theorem MM.dup (h:MM E X g s W tag){l:List Cell}{v:Val} (hs:s.fr.stk=l++[cv v]) (hl:s.fr.stk.length<1024) :
  Calls prog 127 #[fp g s,.int .u8 45] W (MP E X g (onStk s (l++[cv v,cv v])) tag W unit):=by
 have hl3:l.length+1<1024:=by rw[hs] at hl;simp at hl;omega
 have HP1:Hid _:=fun (_:Unit)=>h.popV hs (Nat.le_of_lt hl);have HQ1:Hid _:=fun (W1:WL) (t1:NN) (h1:MM E X g (onStk s l) W1 t1)=>MM.push h1 (show l.length<1024 by omega) v;have HQ2:Hid _:=fun (W1:WL) (t1:NN) (h1:MM E X g (onStk s (l++[cv v])) W1 t1)=>MM.push h1 (show (l++[cv v]).length<1024 by simp;omega) v;have hfin:Hid ((l++[cv v])++[cv v]=l++[cv v,cv v]):=by show _=_;simp
 clear h;unfold vV at HQ1 HQ2;generalize ek:(v.kind:Int)=k at HP1 HQ1 HQ2;generalize em:vN v=m at HP1 HQ1 HQ2;generalize et:vS v=t at HP1 HQ1 HQ2;clear ek em et;go_enter func127,ntmps127;go_wp2_with fail;refine (HP1.out ()).mono ?_;rintro e W1 ⟨rfl,t1,h1,k1⟩;have HM1:Hid _:=AI h1 (k1);have HK1:Hid _:=k1;clear h1 k1 HP1;obtain⟨W2,hW2,F2,c0,c1,c2,l2⟩:=box_cells W1 k m t;obtain⟨t2,h2,k2,hb2⟩:=MM.box HM1.out.1 F2;have HX2:Hid _:=BoxAt.mk l2 (hb2 _ (Nat.le_refl _)) c0 c1 c2;have HM2:Hid _:=AI h2 (HM1.out.2.trans k2);have HK2:Hid _:=k2;clear h2 k2 F2 hb2 l2;go_wp2_with fail;refine (HQ1.out W2 t2 HM2.out.1).mono ?_;rintro e W3 ⟨rfl,t3,h3,k3⟩;have HM3:Hid _:=AI h3 (HM2.out.2.trans k3);have HK3:Hid _:=k3;clear h3 k3 HQ1 c0 c1 c2;obtain⟨-,-,c0,c1,c2⟩:=HX2.out.kp HK3.out;go_wp2_with fail;refine (HQ2.out W3 t3 HM3.out.1).mono ?_;rintro e W4 ⟨rfl,t4,h4,k4⟩;have HM4:Hid _:=AI h4 (HM3.out.2.trans k4);have HK4:Hid _:=k4;clear h4 k4 HQ2 c0 c1 c2;go_wp2_with fail;refine bodyPost_ret (results_none rfl _ _ _) rfl ?_;refine⟨rfl,t4,?_,HM4.out.2⟩;rw[← hfin.out];exact HM4.out.1
end
section
variable {E:Env}{X:Nat}{g:Pl}{s:Ms}{W W':WL}{tag:NN}
theorem MM.compare (hE:EnvOk E)(h:MM E X g s W tag){op:Nat}(hop:op=29∨op=30∨op=31∨op=32∨op=33∨op=34){l:List Cell}{u v:Val} (hs:s.fr.stk=l++[cv u,cv v]) (hl:s.fr.stk.length≤1024) (hu:SmV u) (hv:SmV v) :
  Calls prog 123 #[fp g s,.int .u8 (op:Nat)] W (MP E X g (onStk s (l++[cv (whole (truth (cmpOp op (cmpV E u v))))])) tag W unit):=by
 have hm:=hmX
 obtain⟨e1,e2,hl2,hl3⟩:=h.pop2 hs hl;have HP1:Hid _:=fun (_:Unit)=>h.popV e1 hl;have HP2:Hid _:=fun (W1:WL) (t1:NN) (h1:MM E X g (onStk s (l++[cv u])) W1 t1)=>MM.popV h1 e2 hl2;have HC:Hid _:=fun (W1:WL) (hp:PowTab W1)=>compare_v hE.itoa hu hv W1 hp;have HB:Hid _:=fun (W1:WL) (t1:NN) (h1:MM E X g (onStk s l) W1 t1) (b:Bool)=>MM.pushTruth h1 (show l.length<1024 from hl3) b;clear h;unfold vV at HC;generalize ek:(v.kind:Int)=k at HP1 HC;generalize em:vN v=m at HP1 HC;generalize et:vS v=t at HP1 HC;generalize ek':(u.kind:Int)=k' at HP2 HC;generalize em':vN u=m' at HP2 HC;generalize et':vS u=t' at HP2 HC;generalize cmpV E u v=o at HC ⊢;clear ek em et ek' em' et';have hcase:∃ c:Bool,cmpOp op o=c∧((op=29∧decide (o<0)=c)∨(op=30∧decide (o≤0)=c)∨(op=31∧(o==0)=c)∨(op=32∧(o != 0)=c)∨(op=33∧decide (o>0)=c)∨(op=34∧decide (o ≥ 0)=c)):=by
  refine⟨_,rfl,?_⟩;rcases hop with rfl | rfl | rfl | rfl | rfl | rfl
  ·exact .inl ⟨rfl,rfl⟩
  ·exact .inr (.inl ⟨rfl,rfl⟩)
  ·exact .inr (.inr (.inl ⟨rfl,by simp[cmpOp];rfl⟩))
  ·exact .inr (.inr (.inr (.inl ⟨rfl,by simp[cmpOp];by_cases h:o=0 <;> simp[h]⟩)))
  ·exact .inr (.inr (.inr (.inr (.inl ⟨rfl,rfl⟩))))
  exact .inr (.inr (.inr (.inr (.inr ⟨rfl,rfl⟩))))
 obtain⟨c,hc,hcase⟩:=hcase;rw[hc];clear hc hop;replace HB:Hid _:=fun (W1:WL) (t1:NN) (h1:MM E X g (onStk s l) W1 t1)=>HB.out W1 t1 h1 c;rcases hcase with ⟨rfl,hc⟩ | ⟨rfl,hc⟩ | ⟨rfl,hc⟩ | ⟨rfl,hc⟩ | ⟨rfl,hc⟩ | ⟨rfl,hc⟩
 all_goals
  have HCC:Hid _:=hc;clear hc;go_enter func123,ntmps123;go_wp2_with fail;refine (HP1.out ()).mono ?_;rintro e W1 ⟨rfl,t1,h1,k1⟩;have HM1:Hid _:=AI h1 (k1);have HK1:Hid _:=k1;clear h1 k1 HP1;obtain⟨W2,hW2,F2,c0,c1,c2,l2⟩:=box_cells W1 k m t;obtain⟨t2,h2,k2,hb2⟩:=MM.box HM1.out.1 F2;have HX2:Hid _:=BoxAt.mk l2 (hb2 _ (Nat.le_refl _)) c0 c1 c2;have HM2:Hid _:=AI h2 (HM1.out.2.trans k2);have HK2:Hid _:=k2;clear h2 k2 F2 hb2 l2;go_wp2_with fail;refine wp_region_heldD (fun w=>w.cell? (Ad W1.heap.size 0)=some (.int .u8 k)∧w.cell? (Ad W1.heap.size 1)=some (iA m)∧w.cell? (Ad W1.heap.size 2)=some (.string t)) hm ?_;have hS:W2.drew.cell? (Ad W1.heap.size 0)=some (.int .u8 k)∧W2.drew.cell? (Ad W1.heap.size 1)=some (iA m)∧W2.drew.cell? (Ad W1.heap.size 2)=some (.string t):=⟨c0,c1,c2⟩;obtain⟨WD,hWD⟩:=eXi (W2.drew);rw[hWD] at hS ⊢;have F3:Fr [] W2 WD:=by rw[← hWD];exact (Fr.refl [] W2).drew
  obtain⟨t3,h3,k3⟩:=MM.fr HM2.out.1 F3;have HM3:Hid _:=AI h3 (HM2.out.2.trans k3);have HX3:Hid _:=BoxAt.kp HX2.out k3;clear h3 k3 F3 c0 c1 c2;refine wpAnyH_takes (fun _ _ _ _ _ h=>h) hS [0,2] (by kernel_rfl) ?_
  iterate 2
   refine Yls.cons (v:=?_) rfl (.inl ⟨rfl,fun w1 hS1=>?_⟩) ?_;rotate_left
   ·obtain⟨s0,s1,s2⟩:=hS1;go_simp
    first | rfl | (refine (if_neg (by omega)).trans ?_;rfl)
   simp only[Act.put,Zp,Zq]
  refine Yls.nil ?_;refine rd1 (r:=1) (by kernel_rfl) rfl fun K hK=>?_;go_simp;refine (HP2.out WD t3 HM3.out.1).mono ?_;rintro e W4 ⟨rfl,t4,h4,k4⟩;have HX4:Hid _:=BoxAt.kp HX3.out k4;have HM4:Hid _:=AI h4 (HM3.out.2.trans k4);clear h4 k4;refine hK _ _ ⟨HX4.out.c0,HX4.out.c1,HX4.out.c2⟩ ?_;clear hK K;intro _
  try simp only[Act.put,Zp,Zq]
  refine rd1 (r:=3) (by kernel_rfl) rfl fun K hK=>?_;go_simp;refine (HC.out W4 (MM.pow HM4.out.1)).mono ?_;rintro e W5 ⟨rfl,F5⟩;obtain⟨t5,h5,k5⟩:=MM.fr HM4.out.1 F5;have HX5:Hid _:=BoxAt.kp HX4.out k5;have HM5:Hid _:=AI h5 (HM4.out.2.trans k5);clear h5 k5 F5;refine hK _ _ ⟨HX5.out.c0,HX5.out.c1,HX5.out.c2⟩ ?_;clear hK K;intro _
  try simp only[Act.put,Zp,Zq]
  refine rd1 (r:=4) (by kernel_rfl) rfl fun K hK=>?_;go_simp;refine hK _ _ ⟨HX5.out.c0,HX5.out.c1,HX5.out.c2⟩ ?_;clear hK K;intro _
  try simp only[Act.put,Zp,Zq]
  refine wpAnyH_done (by kernel_rfl) ?_ _;have hc:=HCC.out;go_wp2_with fail;refine (HB.out W5 t5 HM5.out.1).mono ?_;rintro e W6 ⟨rfl,t6,h6,k6⟩;have HM6:Hid _:=AI h6 (HM5.out.2.trans k6);clear h6 k6;go_wp2_with fail;refine bodyPost_ret (results_none rfl _ _ _) rfl ?_;exact⟨rfl,t6,HM6.out.1,HM6.out.2⟩
end
section
variable {E:Env}{X:Nat}{g:Pl}{s:Ms}{W W':WL}{tag:NN}
theorem MM.len (hE:EnvOk E)(h:MM E X g s W tag){l:List Cell}{v:Val} (hs:s.fr.stk=l++[cv v]) (hl:s.fr.stk.length≤1024) (hv:SmV v) :
  Calls prog 125 #[fp g s,.int .u8 39] W (MP E X g (onStk s (l++[cv (whole ((textV E v).size:Nat))])) tag W unit):=by
 have hl3:l.length<1024:=by rw[hs] at hl;simp at hl;omega
 have HP1:Hid _:=fun (_:Unit)=>h.popText hE hs hl hv;have HN:Hid _:=fun (W1:WL) (t1:NN) (h1:MM E X g (onStk s l) W1 t1) (n:Int)=>MM.pushNumber h1 (show l.length<1024 from hl3) n;generalize textV E v=a at HP1 ⊢;clear h;go_enter func125,ntmps125;go_wp2_with fail;refine (HP1.out ()).mono ?_;rintro e W1 ⟨rfl,t1,h1,k1⟩;have HM1:Hid _:=AI h1 (k1);have HK1:Hid _:=k1;clear h1 k1 HP1;go_wp2_with fail;refine (HN.out W1 t1 HM1.out.1 (a.size:Nat)).mono ?_;rintro e W2 ⟨rfl,t2,h2,k2⟩;have HM2:Hid _:=AI h2 (HM1.out.2.trans k2);have HK2:Hid _:=k2;clear h2 k2 HN;go_wp2_with fail;refine bodyPost_ret (results_none rfl _ _ _) rfl ?_;exact⟨rfl,t2,HM2.out.1,HM2.out.2⟩
end
theorem box5 (W:WL)(op pl a b q:Int):∃ W1,W.alloc (.cells #[.int .u8 op,iA pl,iA a,iA b,iA q] 150)=W1∧Fr [] W W1∧(W1.cell? (Ad W.heap.size 0)=some (.int .u8 op)∧W1.cell? (Ad W.heap.size 1)=some (iA pl)∧W1.cell? (Ad W.heap.size 2)=some (iA a)∧W1.cell? (Ad W.heap.size 3)=some (iA b)∧W1.cell? (Ad W.heap.size 4)=some (iA q))∧W.heap.size<W1.heap.size:=by
 have k1:=wan W (.cells #[.int .u8 op,iA pl,iA a,iA b,iA q] 150);exact⟨_,rfl,(Fr.refl [] W).alloc _,(cells5 k1).1,by simp⟩
section
variable {E:Env}{X:Nat}{g:Pl}{s:Ms}{W W':WL}{tag:NN}
theorem MR.xc {lv:Nat→Bool}{R:Nat→Rw}{mp:Nat→Option (Nat × List (Value × Value))}{x:Mx} (h:MR E X g.g s W tag lv R mp x) {j:Nat}{v:Value} (hj:(xC x s)[j]?=some v):W.cell? (Ad X j)=some v:=by
 have:=(h.S.rows 10 h.lX).1;rw[h.rX] at this;exact own_cell this hj
theorem MM.text (h:MM E X g s W tag){i:Nat}{t:BA} (hi:E.mo.texts[i]?=some t):∃ gt off n c,W.cell? (Ad X 0)=some (.slice (some (Ad gt off)) n c)∧i<n∧W.cell? (Ad gt (off+i))=some (.string t):=by
 obtain⟨h6,lv,R,mp,x,hx,h⟩:=h;obtain⟨o,c,e1,e2,e2',e3⟩:=h.sta.txt;have hl:=(Lgs.1 hi).1;obtain⟨gt,off,rfl,-,-,e4⟩:=e3 (by simp;omega);exact⟨gt,off,_,c,h.xc (by rw[← e1];rfl),by simpa using hl,e4 i _ (by rw[List.getElem?_map,hi];rfl)⟩
theorem MM.glob (h:MM E X g s W tag){i:Nat}(hi:i<s.w.globs.length):∃ gg n c,W.cell? (Ad X 8)=some (.slice (some (Ad gg 0)) n c)∧i<n∧W.cell? (Ad gg (i*3))=some (.int .u8 (s.w.globs.getD i nothing).kind)∧W.cell? (Ad gg (i*3+1))=some (iA (vN (s.w.globs.getD i nothing)))∧W.cell? (Ad gg (i*3+2))=some (.string (vS (s.w.globs.getD i nothing))):=by
 obtain⟨h6,lv,R,mp,x,hx,h⟩:=h;have o:=(h.S.rows 12 h.lG).1;rw[h.rG] at o;obtain⟨gg,c,hv,-,-⟩:=own_some o (by show 0<s.w.globs.length;omega);simp only at hv;simp only at o;rw[hv] at o;have e:=fun t (ht:t<3)=>rng_get (n:=s.w.globs.length) (z:=3) (f:=fun i=>vC (s.w.globs.getD i nothing)) (fun _ _=>vC_len _) hi ht;exact⟨gg,_,c,h.xc (by rw[← hv];rfl),hi,own_cell o ((e 0 (by decide)).trans rfl),own_cell o ((e 1 (by decide)).trans rfl),own_cell o ((e 2 (by decide)).trans rfl)⟩
end
section
variable {E:Env}{X:Nat}{g:Pl}{s:Ms}{W W':WL}{tag:NN}
theorem MM.vstr (h:MM E X g s W tag)(hl:s.fr.stk.length<1024){a:Nat}{t:BA} (ha:E.mo.texts[a]?=some t) (pl b q:Int) :
  Calls prog 116 #[ptr X,fp g s,inV 1 pl (a:Nat) b q] W (MP E X g (onStk s (s.fr.stk++[cv (words t)])) tag W unit):=by
 obtain⟨W1,hW1,F1,⟨b0,b1,b2,b3,b4⟩,l1⟩:=box5 W 1 pl (a:Nat) b q;obtain⟨t1,h1,k1,-⟩:=MM.box h F1;have HM1:Hid _:=AI h1 k1;obtain⟨gt,off,n,c,x0,hi,x1⟩:=h1.text ha;have hi':(a:Int)<n:=by omega
 have HQ:Hid _:=fun (W1:WL) (t1:NN) (h1:MM E X g s W1 t1)=>MM.pushText h1 hl t;clear h h1 k1 F1 l1;go_enter func116,ntmps116;go_wp2_with fail;refine (HQ.out W1 t1 HM1.out.1).mono ?_;rintro e W2 ⟨rfl,t2,h2,k2⟩;have HM2:Hid _:=AI h2 (HM1.out.2.trans k2);have HK2:Hid _:=k2;clear h2 k2;go_wp2_with fail;refine bodyPost_ret (results_none rfl _ _ _) rfl ?_;exact⟨rfl,t2,HM2.out.1,HM2.out.2⟩
theorem MM.vgload (h:MM E X g s W tag)(hl:s.fr.stk.length<1024){a:Nat}(ha:a<s.w.globs.length)(pl b q:Int) :
  Calls prog 116 #[ptr X,fp g s,inV 5 pl (a:Nat) b q] W (MP E X g (onStk s (s.fr.stk++[cv (s.w.globs.getD a nothing)])) tag W unit):=by
 obtain⟨W1,hW1,F1,⟨b0,b1,b2,b3,b4⟩,l1⟩:=box5 W 5 pl (a:Nat) b q;obtain⟨t1,h1,k1,-⟩:=MM.box h F1;have HM1:Hid _:=AI h1 k1;obtain⟨gg,n,c,y0,hi,x0,x1,x2⟩:=h1.glob ha;have hi':(a:Int)<n:=by omega
 have HQ:Hid _:=fun (W1:WL) (t1:NN) (h1:MM E X g s W1 t1)=>MM.push h1 hl (s.w.globs.getD a nothing);unfold vV at HQ;generalize ((s.w.globs.getD a nothing).kind:Int)=kk at HQ x0;generalize vN (s.w.globs.getD a nothing)=mm at HQ x1;generalize vS (s.w.globs.getD a nothing)=tt at HQ x2;clear h h1 k1 F1 l1;go_enter func116,ntmps116;go_wp2_with fail;refine (HQ.out W1 t1 HM1.out.1).mono ?_;rintro e W2 ⟨rfl,t2,h2,k2⟩;have HM2:Hid _:=AI h2 (HM1.out.2.trans k2);have HK2:Hid _:=k2;clear h2 k2;go_wp2_with fail;refine bodyPost_ret (results_none rfl _ _ _) rfl ?_;exact⟨rfl,t2,HM2.out.1,HM2.out.2⟩
end
def set3L (xs:LV) (j:Nat) (a b c:Value):LV:=((xs.set j a).set (j+1) b).set (j+2) c
theorem set3L_app {xs ys:LV}{j:Nat} (h:j+3≤xs.length) (a b c:Value):set3L (xs++ys) j a b c=set3L xs j a b c++ys:=by
 unfold set3L;rw[List.set_append_left _ _ (by omega),List.set_append_left _ _ (by simp;omega),List.set_append_left _ _ (by simp;omega)]
theorem set3L_pre {xs ys:LV}{j:Nat} (a b c:Value):set3L (xs++ys) (xs.length+j) a b c=xs++set3L ys j a b c:=by
 unfold set3L;rw[List.set_append_right _ _ (by omega),Nat.add_sub_cancel_left,List.set_append_right _ _ (by omega),show xs.length+j+1-xs.length=j+1 by omega,List.set_append_right _ _ (by omega),show xs.length+j+2-xs.length=j+2 by omega]
theorem set3L_rng {n z:Nat}{f:Nat→LV} (hf:∀ j,j<n→(f j).length=z) {j t:Nat} (hj:j<n) (ht:t+2<z) (a b c:Value):set3L (rng n f) (j*z+t) a b c=rng n (up f j (set3L (f j) t a b c)):=by
 have hup:∀ (y:LV),y.length=z→∀ i,i<n→(up f j y i).length=z:=fun y hy i hi=>by
  by_cases e:i=j
  ·subst e;rw[up_same];exact hy
  rw[up_off _ _ e];exact hf i hi
 unfold set3L;rw[rng_set hf hj (by omega),Nat.add_assoc (j*z) t 1,rng_set (hup _ (by rw[List.length_set];exact hf j hj)) hj (by omega),up_same,up_up,Nat.add_assoc (j*z) t 2,rng_set (hup _ (by rw[List.length_set,List.length_set];exact hf j hj)) hj (by omega),up_same,up_up]
theorem set3L_vC (u v:Val):set3L (vC u) 0 (.int .u8 v.kind) (iA (vN v)) (.string (vS v))=vC v:=rfl
theorem vals_set {n:Nat}{l:List Val}{i:Nat} (hi:i<n) (hl:i<l.length) (v:Val):set3L (rng n fun j=>vC (l.getD j nothing)) (i*3) (.int .u8 v.kind) (iA (vN v)) (.string (vS v))=rng n fun j=>vC ((l.set i v).getD j nothing):=by
 rw[show i*3=i*3+0 by omega,set3L_rng (z:=3) (fun _ _=>vC_len _) hi (by omega),set3L_vC];refine rng_congr fun j hj=>?_;by_cases e:j=i
 ·subst e;rw[up_same,List.getD_eq_getElem?_getD,List.getElem?_set_self hl];rfl
 rw[up_off _ _ e,List.getD_eq_getElem?_getD,List.getD_eq_getElem?_getD,List.getElem?_set_ne (fun e'=>e e'.symm)]
theorem frC_setLoc (x:FrX)(f:Frm){i:Nat}(hi:i<16)(hl:i<f.locs.length)(v:Val):set3L (frC x f) (2+i*3) (.int .u8 v.kind) (iA (vN v)) (.string (vS v))=frC x { f with locs:=f.locs.set i v }:=by
 unfold frC;rw[List.append_assoc,show 2+i*3=[x.cv,iA x.ix].length+i*3 by rfl,set3L_pre,set3L_app (by rw[locC_len];omega)];unfold locC;rw[vals_set hi hl,List.append_assoc]
section
variable {E:Env}{X:Nat}{g:Pl}{s:Ms}{W W':WL}{tag:NN}{lv:Nat→Bool}{R:Nat→Rw}{mp:Nat→Option (Nat × List (Value × Value))}{x:Mx}
def set3W (W:WL) (b j:Nat) (u v w:Value):WL:=((W.setCell ⟨b,j,none⟩ u).setCell ⟨b,j+1,none⟩ v).setCell ⟨b,j+2,none⟩ w
theorem Sto.put3 (h:Sto W tag lv R mp){i b n cap z:Nat}{e:TypeId}{xs:LV} (hl:lv i=true) (hR:R i=⟨.slice (some (Ad b 0)) n cap,e,z,n,xs⟩) {j:Nat} (hj:j+2<n*z) (u v w:Value) :
  Sto (set3W W b j u v w) tag lv (up R i ⟨.slice (some (Ad b 0)) n cap,e,z,n,set3L xs j u v w⟩) mp∧Kp tag tag W (set3W W b j u v w):=by
 obtain⟨S1,K1⟩:=h.put hl hR (j:=j) (by omega) u;obtain⟨S2,K2⟩:=S1.put hl (up_same _ _ _) (j:=j+1) (by omega) v;obtain⟨S3,K3⟩:=S2.put hl (up_same _ _ _) (j:=j+2) (by omega) w;rw[up_up,up_up] at S3;exact⟨S3,(K1.trans K2).trans K3⟩
theorem MM.gvc (h:MM E X g s W tag):W.cell? (Ad X 8)=some g.gv:=by
 obtain⟨h6,lv,R,mp,x,hx,h⟩:=h;exact h.xc (by rw[← hx.1.1];rfl)
def onGlob (s:Ms) (l:List Val):Ms:={ s with w:={ s.w with globs:=l } }
theorem MM.setGlob (h:MM E X g s W tag){i:Nat}(hi:i<s.w.globs.length)(v:Val):∃ gg n c,g.gv=.slice (some (Ad gg 0)) n c∧i<n∧(∀ t,W.frozen? (Ad gg t)=false) ∧
  MM E X g (onGlob s (s.w.globs.set i v)) (set3W W gg (i*3) (.int .u8 v.kind) (iA (vN v)) (.string (vS v))) tag∧Kp tag tag W (set3W W gg (i*3) (.int .u8 v.kind) (iA (vN v)) (.string (vS v))) ∧
  ∃ a b c:Value,W.cell? (Ad gg (i*3))=some a∧W.cell? (Ad gg (i*3+1))=some b∧W.cell? (Ad gg (i*3+2))=some c:=by
 obtain⟨h6,lv,R,mp,x,hx,h⟩:=h;have r12:=h.rG;have o:=(h.S.rows 12 h.lG).1;rw[r12] at o;obtain⟨gg,c,hv,hc,-⟩:=own_some o (by show 0<s.w.globs.length;omega);simp only at hv o;rw[hv] at r12 o;obtain⟨S1,K1⟩:=h.S.put3 h.lG r12 (j:=i*3) (by omega) (.int .u8 v.kind) (iA (vN v)) (.string (vS v));have e:=fun t (ht:t<3)=>rng_get (n:=s.w.globs.length) (z:=3) (f:=fun i=>vC (s.w.globs.getD i nothing)) (fun _ _=>vC_len _) hi ht;rw[vals_set hi hi] at S1;have hR:∀ q,q≠12→up R 12 ⟨.slice (some (Ad gg 0)) s.w.globs.length c,221,3,s.w.globs.length,rng s.w.globs.length fun j=>vC ((s.w.globs.set i v).getD j nothing)⟩ q=R q:=fun q hq=>up_off _ _ hq;have M:MR E X g.g (onGlob s (s.w.globs.set i v)) (set3W W gg (i*3) (.int .u8 v.kind) (iA (vN v)) (.string (vS v))) tag lv (up R 12 ⟨.slice (some (Ad gg 0)) s.w.globs.length c,221,3,s.w.globs.length,rng s.w.globs.length fun j=>vC ((s.w.globs.set i v).getD j nothing)⟩) mp x:=by
  refine⟨S1,h.sta.kp K1 h6,h.lX,?_,h.lF,?_,h.vF,h.nF,h.lG,?_,h.lA,?_,h.nA,fun q hq=>?_,fun q hq=>?_,fun q j c hq hj hc=>?_,h.fn,h.rcs.kp K1,h.drw.kp K1,h.fld.kp K1⟩
  ·rw[hR 10 (by decide)];exact h.rX
  ·rw[hR 11 (by decide)];exact h.rF
  ·rw[up_same,hv];show _=Rw.mk _ 221 3 (s.w.globs.set i v).length (rng (s.w.globs.set i v).length _);rw[List.length_set];rfl
  ·rw[hR 13 (by decide)];exact h.rA
  ·obtain⟨a,b,c⟩:=h.arr q hq;exact⟨a,b,by rw[hR _ (by omega)];exact c⟩
  ·obtain⟨a,b⟩:=h.stk q hq;rw[hR _ (by omega)];exact⟨a,b⟩
  obtain⟨h1,h2,h3,ga,ca,lf,h4,h5,h6⟩:=h.wlk q j c hq hj hc;exact⟨h1,h2,h3,ga,ca,lf,h4,by rw[hR _ (by omega)];exact h5,h6.kp K1⟩
 exact⟨gg,_,c,hx.1.1.symm.trans hv,hi,fun t=>own_thaw o t,⟨Nat.le_trans h6 K1.size,lv,_,mp,x,hx,M⟩,K1,_,_,_,own_cell o ((e 0 (by decide)).trans rfl),own_cell o ((e 1 (by decide)).trans rfl),own_cell o ((e 2 (by decide)).trans rfl)⟩
end
section
variable {E:Env}{X:Nat}{g:Pl}{s:Ms}{W W':WL}{tag:NN}
theorem MM.vgstore (h:MM E X g s W tag){l:List Cell}{v:Val} (hs:s.fr.stk=l++[cv v]) (hl:s.fr.stk.length≤1024) {a:Nat} (ha:a<s.w.globs.length) (pl b q:Int) :
  Calls prog 116 #[ptr X,fp g s,inV 6 pl (a:Nat) b q] W (MP E X g (onGlob (onStk s l) (s.w.globs.set a v)) tag W unit):=by
 have hm:=hmX
 obtain⟨W1,hW1,F1,⟨b0,b1,b2,b3,b4⟩,l1⟩:=box5 W 6 pl (a:Nat) b q;obtain⟨t1,h1,k1,-⟩:=MM.box h F1;have HM1:Hid _:=AI h1 k1;have HP:Hid _:=fun (W1:WL) (t1:NN) (h1:MM E X g s W1 t1)=>MM.popV h1 hs hl;have HL:Hid _:=fun (W1:WL) (t1:NN) (h1:MM E X g (onStk s l) W1 t1)=>MM.setGlob h1 (show a<s.w.globs.length from ha) v;have HG:Hid _:=fun (W1:WL) (t1:NN) (h1:MM E X g s W1 t1)=>MM.gvc h1;have HG2:Hid _:=fun (W1:WL) (t1:NN) (h1:MM E X g (onStk s l) W1 t1)=>MM.gvc h1;obtain⟨gg,gn,gc,hgv,hgn,-⟩:=MM.setGlob h1 ha v;have HG3:Hid _:=fun (W1:WL) (t1:NN) (h1:MM E X g (onGlob (onStk s l) (s.w.globs.set a v)) W1 t1)=>(MM.gvc h1).trans (congrArg some hgv);generalize (v.kind:Int)=kk at HP HL;generalize vN v=mm at HP HL;generalize vS v=tt at HP HL;have hi':(a:Int)<gn:=by omega
 clear h h1 k1 F1 l1;go_enter func116,ntmps116;go_wp2_with fail;have c8:=HG.out W1 t1 HM1.out.1;rw[hgv] at c8;refine wp_region_heldD (fun W=>W.cell? (Ad X 8)=some (.slice (some (Ad gg 0)) gn gc)) hm ?_;obtain⟨WD,hWD⟩:=eXi (W1.drew);rw[hWD];have F2:Fr [] W1 WD:=by rw[← hWD];exact (Fr.refl [] W1).drew
 have hS:WD.cell? (Ad X 8)=some (.slice (some (Ad gg 0)) gn gc):=by rw[← hWD];exact c8
 obtain⟨t2,h2,k2⟩:=MM.fr HM1.out.1 F2;have HM2:Hid _:=AI h2 (HM1.out.2.trans k2);have HK2:Hid _:=k2;clear h2 k2 F2;refine wpAnyH_takes (fun _ _ _ _ _ h=>h) hS [0,1,2,3,4,5] (by kernel_rfl) ?_
 iterate 6
  refine Yls.cons (v:=?_) rfl (.inl ⟨rfl,fun w1 hS1=>?_⟩) ?_;rotate_left
  ·go_simp
   first | rfl | (refine (if_neg (by omega)).trans ?_;rfl)
  simp only[Act.put,Zp,Zq]
 refine Yls.nil ?_;refine rd1 (r:=6) (by kernel_rfl) rfl fun K hK=>?_;go_simp;refine (HP.out WD t2 HM2.out.1).mono ?_;rintro e W3 ⟨rfl,t3,h3,k3⟩;have HM3:Hid _:=AI h3 (HM2.out.2.trans k3);clear h3 k3;clear hS;have hS:=HG2.out W3 t3 HM3.out.1;rw[hgv] at hS;refine hK _ _ hS ?_;clear hK K;intro _
 try simp only[Act.put,Zp,Zq]
 refine wpAnyH_takes (fun _ _ _ _ _ h=>h) hS [7] (by kernel_rfl) ?_
 iterate 1
  refine Yls.cons (v:=?_) rfl (.inl ⟨rfl,fun w1 hS1=>?_⟩) ?_;rotate_left
  ·go_simp
   first | rfl | (refine (if_neg (by omega)).trans ?_;rfl)
  simp only[Act.put,Zp,Zq]
 refine Yls.nil ?_;obtain⟨gg',gn',gc',hgv',-,hz,M4,K4,y0,y1,y2,x0,x1,x2⟩:=HL.out W3 t3 HM3.out.1;rw[hgv] at hgv';obtain⟨⟨rfl⟩,rfl,rfl⟩:=Value.slice.inj hgv';have z0:=hz (a*3);have z1:=hz (a*3+1);have z2:=hz (a*3+2);obtain⟨W4,hW4⟩:=eXi (set3W W3 gg (a*3) (.int .u8 kk) (iA mm) (.string tt));have M4':MM E X g (onGlob (onStk s l) (s.w.globs.set a v)) W4 t3:=by rw[← hW4];exact M4
 have K4':Kp t3 t3 W3 W4:=by rw[← hW4];exact K4
 unfold set3W at hW4;have HM4:Hid _:=AI M4' (HM3.out.2.trans K4');clear M4 K4 M4' K4' hz HL;refine rd1 (r:=8) (by kernel_rfl) rfl fun K hK=>?_;go_simp;refine hK _ _ (HG3.out W4 t3 HM4.out.1) ?_;clear hK K;intro _
 try simp only[Act.put,Zp,Zq]
 refine wpAnyH_done (by kernel_rfl) ?_ _;go_wp2_with fail;refine bodyPost_ret (results_none rfl _ _ _) rfl ?_;exact⟨rfl,t3,HM4.out.1,HM4.out.2⟩
end
theorem chain_last {m:Mo}{f locs:Nat}{c:LB}{i j k:Nat}{l:List Stp} (h:Chain m f locs c i l j) {s:Stp} (hs:l[k]?=some s) (hk:k+1=l.length):s.nx=j:=by
 induction l generalizing i k with
 | nil=>simp at hs
 | cons a l ih=>
  cases k with
  | zero=>
   cases l with
   | nil=>
    have e:a=s:=by simpa using hs
    subst e;exact h.2.2
   | cons b l=>simp at hk
  | succ k=>exact ih h.2.2 (by simpa using hs) (by simpa using hk)
theorem plc_next {m:Mo}{f:Nat}{L:List Stp} (h:Reads m f (locsOf m f) (codeOf m f) L) {k:Nat}{i:Stp} (hi:L[k]?=some i):PlcAt m f L (k+1) i.nx:=by
 have hk:=(Lgs.1 hi).1;rcases Nat.lt_or_ge (k+1) L.length with c | c
 ·obtain⟨j,hj⟩:∃ j,L[k+1]?=some j:=⟨_,Lge c⟩;exact .inl ⟨j,hj,Chain.behind h hi hj⟩
 exact .inr ⟨by omega,chain_last h hi (by omega)⟩
section
variable {E:Env}{X:Nat}{g:Pl}{s:Ms}{W W':WL}{tag tag':NN}{lv:Nat→Bool}{R:Nat→Rw}{mp:Nat→Option (Nat × List (Value × Value))}{x:Mx}
def onAt (s:Ms) (a:Nat):Ms:={ s with fr:={ s.fr with at_:=a } }
theorem fAt_onAt (s:Ms)(a:Nat){k:Nat}(hk:k<s.low.length):fAt (onAt s a) k=fAt s k:=by simp[fAt,onAt,hk]
theorem fAt_onAt_top (s:Ms)(a:Nat):fAt (onAt s a) s.low.length = { s.fr with at_:=a }:=fAt_top (onAt s a)
theorem fAt_onAt_stk (s:Ms)(a k:Nat):(fAt (onAt s a) k).stk=(fAt s k).stk∧(fAt (onAt s a) k).f=(fAt s k).f∧(fAt (onAt s a) k).locs=(fAt s k).locs:=by
 unfold fAt;split
 ·rename_i h
  have h':k<s.low.length:=h;rw[if_pos h'];exact⟨rfl,rfl,rfl⟩
 ·rename_i h
  have h':¬ k<s.low.length:=h;rw[if_neg h'];exact⟨rfl,rfl,rfl⟩
def atF (x:Mx) (s:Ms) (t:Nat):Mx:=onF x s.low.length ⟨(x.F s.low.length).cv,t,(x.F s.low.length).sv,(x.F s.low.length).pw⟩
theorem atF_oth (x:Mx)(s:Ms)(t k:Nat):((atF x s t).F k).cv=(x.F k).cv∧((atF x s t).F k).sv=(x.F k).sv∧((atF x s t).F k).pw=(x.F k).pw:=by
 by_cases e:k=s.low.length
 ·subst e;simp[atF,onF,up_same]
 show (up x.F s.low.length _ k).cv=_∧(up x.F s.low.length _ k).sv=_∧(up x.F s.low.length _ k).pw=_;rw[up_off _ _ e];exact⟨rfl,rfl,rfl⟩
theorem MR.setAt (h:MR E X g.g s W tag lv R mp x)(h6:6≤W.heap.size){t a:Nat}(ht:PlcAt E.mo s.fr.f (x.code s.fr.f).2 t a) :
  W.frozen? (Ad g.g (s.low.length*51+1))=false∧W.cell? (Ad g.g (s.low.length*51+1))=some (iA ((x.F s.low.length).ix:Nat)) ∧
  (∃ R',MR E X g.g (onAt s a) (W.setCell ⟨g.g,s.low.length*51+1,none⟩ (.int .i64 (t:Nat))) tag lv R' mp (atF x s t))∧Kp tag tag W (W.setCell ⟨g.g,s.low.length*51+1,none⟩ (.int .i64 (t:Nat))):=by
 obtain⟨⟨cap,r11,hv⟩,-⟩:=h.top;have o:=(h.S.rows 11 h.lF).1;rw[r11] at o;obtain⟨S1,k⟩:=h.S.put h.lF r11 (j:=s.low.length*51+1) (by omega) (iA (t:Nat));have e1:(rng (s.low.length+1) fun k=>frC (x.F k) (fAt s k))[s.low.length*51+1]?=some (iA ((x.F s.low.length).ix:Nat)):=by
  rw[rng_get (fun _ _=>frC_len _ _) (by omega) (by omega)];rfl
 refine⟨own_thaw o _,own_cell o e1,⟨_,S1,h.sta.kp k h6,h.lX,?_,h.lF,?_,h.vF,h.nF,h.lG,?_,h.lA,?_,h.nA,fun i hi=>?_,fun i hi=>?_,fun i j c hi hj hc=>?_,fun i hi=>?_,h.rcs.kp k,h.drw.kp k,h.fld.kp k⟩,k⟩
 ·rw[up_off _ _ (by decide)];exact h.rX
 ·rw[up_same,← hv];show _=Rw.mk x.frv 225 51 (s.low.length+1) _;congr 1;rw[rng_set (fun _ _=>frC_len _ _) (by omega) (by omega)];refine rng_congr fun j hj=>?_;by_cases e:j=s.low.length
  ·subst e;show _=frC (up x.F s.low.length _ s.low.length) (fAt (onAt s a) s.low.length);rw[up_same,up_same,fAt_top,fAt_onAt_top];rfl
  show _=frC (up x.F s.low.length _ j) (fAt (onAt s a) j);rw[up_off _ _ e,up_off _ _ e,fAt_onAt _ _ (by omega)]
 ·rw[up_off _ _ (by decide)];exact h.rG
 ·rw[up_off _ _ (by decide)];exact h.rA
 ·obtain⟨a,b,c⟩:=h.arr i hi;exact⟨a,b,by rw[up_off _ _ (by omega)];exact c⟩
 ·obtain⟨a1,b⟩:=h.stk i hi;rw[(fAt_onAt_stk s a i).1,up_off _ _ (by omega),(atF_oth x s t i).2.1,(atF_oth x s t i).2.2];exact⟨a1,b⟩
 ·rw[(fAt_onAt_stk s a i).1] at hj;obtain⟨h1,h2,h3,ga,ca,lf,h4,h5,h6⟩:=h.wlk i j c hi hj hc;exact⟨h1,h2,h3,ga,ca,lf,h4,by rw[up_off _ _ (by omega),(atF_oth x s t i).2.2];exact h5,h6.kp k⟩
 obtain⟨a1,a2,a3⟩:=h.fn i hi;rw[(atF_oth x s t i).1,(fAt_onAt_stk s a i).2.1];refine⟨a1,a2,?_⟩;by_cases e:i=s.low.length
 ·subst e;show PlcAt _ _ _ (up x.F s.low.length _ s.low.length).ix _;rw[up_same,fAt_onAt_top,fAt_top];exact ht
 have hi':i≤s.low.length:=hi;show PlcAt _ _ _ (up x.F s.low.length _ i).ix _;rw[up_off _ _ e,fAt_onAt _ _ (by omega)];exact a3
theorem MM.frame (h:MM E X g s W tag):Calls prog 63 #[ptr X] W (MP E X g s tag W (fp g s)):=by
 obtain⟨h6,lv,R,mp,x,hx,h⟩:=h;obtain⟨cap,hc⟩:=h.vF;have hn:=h.nF;refine (frame_any X g.g s.low.length cap W (h.xc (by rw[← hc];rfl)) (by omega)).mono fun e W' ⟨he,hf⟩=>⟨he,?_⟩;exact MM.fr ⟨h6,lv,R,mp,x,hx,h⟩ hf
def NextP (E:Env) (X:Nat) (g:Pl) (s:Ms) (i:Stp) (tag:NN) (W:WL) (e:Ending) (W':WL):Prop:=
 ∃ t:Nat,e=.returned (inV (i.op:Nat) (i.pl:Nat) (min i.a 2000000000:Nat) (min i.b 2000000000:Nat) (t:Nat))∧(far i.op=true→∀ L,Reads E.mo s.fr.f (locsOf E.mo s.fr.f) (codeOf E.mo s.fr.f) L→PlcAt E.mo s.fr.f L t i.a)∧∃ tag',MM E X g (onAt s i.nx) W' tag'∧Kp tag tag' W W'
theorem MM.next (h:MM E X g s W tag)(hat:s.fr.at_<(codeOf E.mo s.fr.f).length){i:Stp}(hd:decodeL E.mo s.fr.f (locsOf E.mo s.fr.f) (codeOf E.mo s.fr.f) s.fr.at_=.inr i) :
  Calls prog 64 #[fp g s] W (NextP E X g s i tag W):=by
 obtain⟨h6,lv,R,mp,x,hx,h⟩:=h;obtain⟨a1,a2,a3⟩:=h.fn _ (Nat.le_refl _);rw[fAt_top] at a1 a2 a3;have C:=h.sta.code _ a1;obtain⟨gc,cc,T,v1,v2,v3,v4,v5,v6⟩:=C.at_;obtain⟨i',hi',hp⟩:∃ i,(x.code s.fr.f).2[(x.F s.low.length).ix]?=some i∧i.pl=s.fr.at_:=by
  rcases a3 with c | ⟨-,c⟩
  ·exact c
  omega
 have hdd:=(Chain.decodes C.reads hi').2;rw[hp,hd] at hdd;have hii:i=i':=by simpa using hdd
 subst hii;have hlt:=(Lgs.1 hi').1;obtain⟨t,hT⟩:∃ t,T[(x.F s.low.length).ix]?=some t:=⟨_,Lge (by rw[v5.len];exact hlt)⟩;obtain⟨c0,c1,c2,c3,c4⟩:=v5.cell _ _ _ hi' hT;obtain⟨⟨cap,r11,hv⟩,-⟩:=h.top;have o:=(h.S.rows 11 h.lF).1;rw[r11] at o;have e0:(rng (s.low.length+1) fun k=>frC (x.F k) (fAt s k))[s.low.length*51]?=some (x.F s.low.length).cv:=by
  have:=rng_get (n:=s.low.length+1) (z:=51) (f:=fun k=>frC (x.F k) (fAt s k)) (fun _ _=>frC_len _ _) (j:=s.low.length) (t:=0) (by omega) (by omega);exact this
 obtain⟨f1,f2,⟨R',f3⟩,f4⟩:=h.setAt h6 (plc_next C.reads hi');have hlen:=C.len;refine (next_any g.g (s.low.length*51) gc (x.F s.low.length).ix _ cc _ _ _ _ _ W ((own_cell o e0).trans (by rw[a2,v1])) f2 f1 hlt (by omega) c0 c1 c2 c3 c4).mono fun e W' ⟨he,hset⟩=>⟨t,he,fun hf L hL=>?_,?_⟩
 ·obtain⟨t',q1,q2⟩:=v6 _ _ hlt hi' hf;rw[hT] at q1;have:t=t':=by simpa using q1
  subst this;rw[chain_unique hL C.reads];exact .inl (numb_some q2)
 obtain⟨tg,M2,K2⟩:=MM.fr (g:=g) ⟨Nat.le_trans h6 f4.size,lv,R',mp,atF x s _,hx,f3⟩ hset;exact⟨tg,M2,f4.trans K2⟩
end
end Go.Proofs.YtmolfmgchbjnbaaGreatDoor
