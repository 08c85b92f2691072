/-
  Texts Ld Le.
-/
import Derived.Test.YtclkgoigmgkffaaGreatDoorM28
set_option linter.unusedSimpArgs false
set_option linter.unusedVariables false
set_option maxRecDepth 100000
set_option maxHeartbeats 40000000
namespace Go.Proofs.YtclkgoigmgkffaaGreatDoor
open Go.RowKit
open Wire Flow Mach
structure TyI (t e:TypeId) (i0:TypeInfo) (zv:Value) (z bytes:Nat):Prop where
 ht:Tryz.prog.underlying t=some (.slice e)
 hi:Tryz.prog.info? e=some i0
 hz0:i0.zero=some zv
 hz1:i0.size=z
 hz2:i0.bytes=bytes
 hzs:zv.cells.size=z
 hsz:0<z
 hby:bytes≤1000
theorem tyT:∃ i0,TyI 27 9 i0 (.string ⟨#[]⟩) 1 16:=by
 obtain⟨i0,hi,hz0,hz1,hz2⟩:=info_parts infoP9
 exact⟨i0,Tryz.underlying27,hi,hz0,hz1,hz2,rfl,by decide,by decide⟩
theorem tyF:∃ i0,TyI 28 65 i0 (.agg #[.int .i64 0,.int .i64 0,.string ⟨#[]⟩]) 3 32:=by
 obtain⟨i0,hi,hz0,hz1,hz2⟩:=info_parts infoP65
 exact⟨i0,Tryz.underlying28,hi,hz0,hz1,hz2,rfl,by decide,by decide⟩
structure FamZ (B:Nat) (w:World) (tag:Nat→Nat) (t:Nat) (e:TypeId) (z:Nat) (v:Value) (n:Nat) (m:List Value) (k:Nat) (u:Value):Prop where
 row:RowT B w tag t e z u (n+k) (repsZ (n+k) m)
 lies:(∃ g cap,v=.slice (some ⟨g,0,none⟩) n cap∧u=.slice (some ⟨g,0,none⟩) (n+k) cap)∨u.ownBlock≠v.ownBlock
theorem FamZ.chg {B:Nat}{w w':World}{tag:Nat→Nat}{t:Nat}{e:TypeId}{z:Nat}{v:Value}{n:Nat}{m:List Value}{k:Nat}{u:Value}{S:List Nat} (h:FamZ B w tag t e z v n m k u) (hc:Chg tag S w w') (ht:t ∉ S):FamZ B w' tag t e z v n m k u:=⟨h.row.chg hc ht,h.lies⟩
theorem own_shorterZ {w:World}{B:Nat}{e:TypeId}{z g n n' cap:Nat}{xs:List Value} (h:w.ownsRow B e z (.slice (some ⟨g,0,none⟩) n' cap) n' xs) (hn:n≤n'):w.ownsRow B e z (.slice (some ⟨g,0,none⟩) n cap) n (xs.take (n*z)):=by
 have hl:=h.1
 have hmul:n*z≤n'*z:=Nat.mul_le_mul_right z hn
 rcases h.2 with ⟨h',_⟩ | ⟨g',cap',cur,h',hb,hg,hnc,hcm,hcs,htake⟩
 ·cases h'
 ·simp only[Value.slice.injEq,Option.some.injEq,Addr.mk.injEq,and_true,true_and] at h'
  obtain⟨rfl,rfl⟩:=h'
  refine⟨by rw[List.length_take];omega,.inr ⟨g,cap,cur,rfl,hb,hg,by omega,hcm,hcs,?_⟩⟩
  rw[← htake,List.take_take]
  congr 1
  omega
theorem repsZ_one_cell {n:Nat}{m:List Value} (h:∀ u ∈ m,u.oneCell'=true):∀ u ∈ repsZ n m,u.oneCell'=true:=by
 intro u hu
 unfold repsZ at hu
 rw[List.mem_flatten] at hu
 obtain⟨l,hl,hu⟩:=hu
 rw[List.mem_replicate] at hl
 rw[hl.2] at hu
 exact h u hu
theorem famZ_append {st e:TypeId}{i0:TypeInfo}{zv:Value}{z bytes:Nat} (ti:TyI st e i0 zv z bytes) (w:World) (B:Nat) (tag:Nat→Nat) (t:Nat) (v:Value) (n:Nat) (m:List Value) (hm:m.length=z) (h1m:∀ u ∈ m,u.oneCell'=true) (j:Nat) (ty:TypeId) (ad:Addr) (cc:Nat) (own:RowT B w tag t e z v n (repsZ n m)) (hj:0<j)
  (hnews:∀ i u,(repsZ j m)[i]?=some u→w.cell? (ad.add i)=some u) (hn:n+j≤2000) (hB:B≤w.heap.size) (hnew:tag w.heap.size=t) :
  ∃ v' w',(Builtin.append_ #[st,st] ty #[v,.slice (some ad) j cc]).run Tryz.prog w=.ok v' w'∧(∃ o cap,v'=.slice o (n+j) cap)∧RowT B w' tag t e z v n (repsZ n m)∧FamZ B w' tag t e z v n m j v' ∧
   (∀ k u,k≤j→FamZ B w tag t e z v n m k u→FamZ B w' tag t e z v n m k u)∧Chg tag [t] w w':=by
 have hbytes:(n+j)*bytes≤140737488355328:=by
  have:(n+j)*bytes≤2000*1000:=Nat.mul_le_mul hn ti.hby
  omega
 have h63:n+j≤maxLen:=by unfold maxLen;omega
 have h1:∀ u ∈ repsZ j m,u.oneCell'=true:=repsZ_one_cell h1m
 have hlen:(repsZ j m).length=j*z:=by rw[repsZ_len,hm]
 obtain⟨v',w',hr,hown,hgr,hnl,hw⟩:=run_append_own_at (P:=Tryz.prog) w B st ty e i0 zv z bytes ti.ht ti.hi ti.hz0 ti.hz1 ti.hz2 ti.hzs ti.hsz v n (repsZ n m) own.own ad j cc (repsZ j m) hlen hnews h1 h63 hbytes hB
 rw[repsZ_app] at hown
 have hchg:Chg tag [t] w w':=Chg.grown hgr (fun k hk=>by rw[own.tg k hk];simp)
 have htg:Tg tag v' t:=by
  intro g hg
  rcases hw with h | h
  ·rw[h] at hg;exact own.tg g hg
  ·rw[h] at hg
   obtain rfl:w.heap.size=g:=by simpa using hg
   exact hnew
 have hform:∃ o cap,v'=.slice o (n+j) cap:=own_form hown
 have fresh:v'.ownBlock=some w.heap.size→w.grownBy w' none→∃ v' w',(Builtin.append_ #[st,st] ty #[v,.slice (some ad) j cc]).run Tryz.prog w=.ok v' w'∧(∃ o cap,v'=.slice o (n+j) cap)∧RowT B w' tag t e z v n (repsZ n m)∧FamZ B w' tag t e z v n m j v' ∧
   (∀ k u,k≤j→FamZ B w tag t e z v n m k u→FamZ B w' tag t e z v n m k u)∧Chg tag [t] w w':=by
  intro hb hg0
  have c0:Chg tag [] w w':=Chg.grown hg0 (fun k hk=>by cases hk)
  refine⟨v',w',hr,hform,own.chg c0 (by simp),⟨⟨hown,htg⟩,.inr ?_⟩,fun k u _ hu=>hu.chg c0 (by simp),hchg⟩
  intro e
  rw[hb] at e
  have:=(own.own.lt _ e.symm).2
  omega
 rcases own.own.2 with ⟨hv,hn0⟩ | ⟨g,cap,cur,hv,hbg,hg,hnc,hcm,hcs,htake⟩
 ·subst hv
  refine fresh ?_ ⟨hgr.os,hgr.tape,hgr.output,hgr.size,fun k hk _=>hgr.block k hk (by simp[Value.ownBlock])⟩
  rcases hw with h | h
  ·exfalso
   rcases hown.2 with ⟨_,h'⟩ | ⟨g,cap,cur,h',_⟩
   ·omega
   ·rw[h'] at h;simp[Value.ownBlock] at h
  ·exact h
 ·subst hv
  by_cases hroom:n+j≤cap
  ·have hfit:n*i0.size+(repsZ j m).length≤cur.size:=by
    rw[ti.hz1,hlen,hcs,← Nat.add_mul]
    exact Nat.mul_le_mul_right z hroom
   have hr2:=run_append_room (P:=Tryz.prog) w st ty e i0 ti.ht ti.hi g n cap cur hg ad j cc (repsZ j m) (by rw[ti.hz1];exact hlen) hnews h1 hroom hfit
   rw[hr] at hr2
   have hv':v'=.slice (some ⟨g,0,none⟩) (n+j) cap:=by injection hr2
   subst hv'
   have keepv:RowT B w' tag t e z (.slice (some ⟨g,0,none⟩) n cap) n (repsZ n m):=⟨by have:=own_shorterZ (n:=n) hown (by omega);rwa [← hm,repsZ_take _ _ _ (by omega),hm] at this,own.tg⟩
   refine⟨_,w',hr,hform,keepv,⟨⟨hown,htg⟩,.inl ⟨g,cap,rfl,rfl⟩⟩,fun k u hk hu=>?_,hchg⟩
   rcases hu.lies with ⟨g',cap',e1,e2⟩ | hne
   ·simp only[Value.slice.injEq,Option.some.injEq,Addr.mk.injEq,and_true,true_and] at e1
    obtain⟨rfl,rfl⟩:=e1
    subst e2
    refine⟨⟨?_,hu.row.tg⟩,.inl ⟨g,cap,rfl,rfl⟩⟩
    have:=own_shorterZ (n:=n+k) hown (by omega)
    rwa [← hm,repsZ_take _ _ _ (by omega),hm] at this
   ·exact⟨⟨hu.row.own.kept hgr (.inr hne),hu.row.tg⟩,.inr hne⟩
  ·have holds:∀ j u,(repsZ n m)[j]?=some u→w.cell? ((⟨g,0,none⟩:Addr).add j)=some u:=own.own.cells (g:=g) rfl
   have hr2:=run_append_grow (P:=Tryz.prog) w st ty e i0 zv ti.ht ti.hi ti.hz0 ⟨g,0,none⟩ n cap (repsZ n m) (by rw[ti.hz1,repsZ_len,hm]) holds ad j cc (repsZ j m) (by rw[ti.hz1];exact hlen) hnews (by omega) (by omega) (by rw[ti.hz2];exact growslice_fits (by omega) hbytes)
   rw[hr] at hr2
   injection hr2 with e1 e2
   subst e1
   refine fresh rfl ?_
   rw[e2]
   exact⟨rfl,rfl,rfl,by simp,fun k hk _=>Below.heap_alloc w.drew _ k hk⟩
theorem wpList_append_famZ {st e:TypeId}{i0:TypeInfo}{zv:Value}{z bytes:Nat} (ti:TyI st e i0 zv z bytes) {w:World}{ops:Array Oper}{rest:List Oper}{o:Oper}{a:Act}{Q:Exit→Act→World→Prop} (hgd:o.guard=none) (s x:Operand)
  (ho:o.op=.call { callee:=.builtin .append,args:=#[s,x],argTypes:=#[st,st] }) (B:Nat) (tag:Nat→Nat) (t:Nat) (v:Value) (n:Nat) (m:List Value) (hm:m.length=z) (h1m:∀ u ∈ m,u.oneCell'=true) (j:Nat) (ad:Addr) (cc:Nat) (hs:a.eval s=v) (hx:a.eval x=.slice (some ad) j cc)
  (own:RowT B w tag t e z v n (repsZ n m)) (hj:0<j) (hnews:∀ i u,(repsZ j m)[i]?=some u→w.cell? (ad.add i)=some u) (hn:n+j≤2000) (hB:B≤w.heap.size) (hnew:tag w.heap.size=t)
  (h:∀ o' cap' w',RowT B w' tag t e z v n (repsZ n m)→FamZ B w' tag t e z v n m j (.slice o' (n+j) cap')→(∀ k u,k≤j→FamZ B w tag t e z v n m k u→FamZ B w' tag t e z v n m k u)→Chg tag [t] w w'→wpList Tryz.prog ops Q rest (a.put o.dst (.slice o' (n+j) cap')) w') :
  wpList Tryz.prog ops Q (o :: rest) a w:=by
 obtain⟨v',w',hr,⟨o',cap',rfl⟩,h1,h2,h3,h4⟩:=famZ_append ti w B tag t v n m hm h1m j o.type ad cc own hj hnews hn hB hnew
 exact wpList_append_run hgd s x st ho _ _ hs hx hr (h o' cap' w' h1 h2 h3 h4)
theorem RowT.allZ {B:Nat}{W:World}{tag:Nat→Nat}{t:Nat}{e:TypeId}{u:Value}{n:Nat}{m:List Value} (h:RowT B W tag t e m.length u n (repsZ n m)) (hn:n≤2000):AllZ W u m:=⟨n,hn,LsAt.of_own h.own⟩
theorem repsZ_new (W:World) (m:List Value) (j:Nat) (cs:Array Value) (t:TypeId) (h:cs.toList=repsZ j m):∀ i u,(repsZ j m)[i]?=some u→(W.alloc (.cells cs t)).cell? ((⟨W.heap.size,0,none⟩:Addr).add i)=some u:=by
 intro i u hu
 have hm:=World.alloc_heap_new W (.cells cs t)
 have:∀ i,(W.alloc (.cells cs t)).cell? ⟨W.heap.size,i,none⟩=cs[i]?:=fun i=>by
  unfold World.cell?;rw[hm];simp
 rw[← h] at hu
 rcases i with _ | i
 ·simpa [Addr.add,this] using hu
 ·simpa [Addr.add,this] using hu
structure Stq (tag tag':Nat→Nat) (t:Nat) (W W2:World):Prop where
 chg:Chg tag [0,6,t] W W2
 ret:∀ k,k<W.heap.size→tag k≠t→tag' k=tag k
theorem Stq.row {tag tag':Nat→Nat}{t t':Nat}{W W2:World} (s:Stq tag tag' t W W2) {B:Nat}{e:TypeId}{size:Nat}{v:Value}{n:Nat}{xs:List Value} (h:RowT B W tag t' e size v n xs) (h0:t'≠0) (h6:t'≠6) (h1:t'≠t):RowT B W2 tag' t' e size v n xs:=
 ⟨(h.chg s.chg (by simp;exact⟨h0,h6,h1⟩)).own,fun g hg=>by rw[s.ret g (h.own.lt g hg).2 (by rw[h.tg g hg];exact h1)];exact h.tg g hg⟩
theorem Stq.bk {tag tag':Nat→Nat}{t:Nat}{W W2:World} (s:Stq tag tag' t W W2) {P:List Value→Prop}{x:Bk} (h:BkOk W tag P x) (h1:8≠t):BkOk W2 tag' P x:=by
 have h':=h.chg s.chg (by simp;exact h1)
 have hr:∀ k,k<W.heap.size→tag k=8→tag' k=8:=fun k hk e=>by rw[s.ret k hk (by rw[e];exact h1)];exact e
 exact⟨h.isM,h'.l,h'.g1,h'.g2,h'.g3,h.tl.re h.l.lt hr,h.t1.re h.g1.lt hr,h.t2.re h.g2.lt hr,h.t3.re h.g3.lt hr⟩
theorem ScP.book {w0 W W12 W2:World}{b:Nat}{tag tagB tag':Nat→Nat}{c:Nat→Value}{ms:Value}{bs:ByteArray}{N:Nat→Nat}{X:Nat→List Value}{bk fk:List Bk}{t:Nat}{v':Value}{x:Bk} (I:ScP w0 W b tag c ms bs N X bk fk) (ht:12≤t) (sQ:Stq tag tagB t W W12) (i:Nat) (hi:i=7∨i=8)
  (s:Stp tagB tag' (rtag i) W12 W2) (core:CorI w0 W2 b tag' (upd (upd c 6 (.int .i64 ((bk.length+fk.length:Nat)+1:Int))) i v')) (hr:RowT w0.heap.size W2 tag' (rtag i) (relt i) (rwid i) v' (N i+1) (X i++x.cells)) (hx:BkOk W12 tagB (if i=7 then MkT else MkF) x) :
  ScP w0 W2 b tag' (upd (upd c 6 (.int .i64 ((bk.length+fk.length:Nat)+1:Int))) i v') ms bs (up N i (N i+1)) (up X i (X i++x.cells)) (if i=7 then bk++[x] else bk) (if i=7 then fk else fk++[x]):=by
 have e8:rtag i≠8:=(rtag_ne i).2.2.2.1
 have hiR:isR i:=by unfold isR;omega
 have hc:∀ j,j≠6→j≠i→upd (upd c 6 (.int .i64 ((bk.length+fk.length:Nat)+1:Int))) i v' j=c j:=fun j h1 h2=>by
  show (if j=i then v' else if j=6 then _ else c j)=c j
  rw[if_neg h2,if_neg h1]
 have bk1:∀ P y,BkOk W tag P y→BkOk W2 tag' P y:=fun P y h=>s.bk (sQ.bk h (by omega)) e8
 refine⟨core,?_,?_,?_,?_,fun j hj=>?_,?_,?_,?_,?_,I.sz⟩
 ·rw[hc 0 (by omega) (by omega)];exact I.n0
 ·rw[hc 1 (by omega) (by omega)];exact I.n1
 ·rw[hc 2 (by omega) (by omega)];exact I.n2
 ·show (if 6=i then v' else if 6=6 then _ else c 6)=_
  rw[if_neg (by omega),if_pos rfl]
  rcases hi with rfl | rfl
  ·simp;omega
  ·simp;omega
 ·by_cases e:j=i
  ·subst e
   rw[up_same,up_same]
   show RowT _ _ _ _ _ _ (if j=j then v' else _) _ _
   rw[if_pos rfl];exact hr
  ·rw[up_off _ _ e,up_off _ _ e,hc j (by unfold isR at hj;omega) e]
   have rj:=rtag_ne j
   exact s.row (sQ.row (I.rows j hj) rj.1 rj.2.1 (by omega)) rj.1 (fun h=>e (rtag_inj hj hiR h))
 ·rcases hi with rfl | rfl
  ·rw[up_same,up_same]
   have h:=I.k7
   simp only[if_true]
   rw[h.1,h.2,List.length_append,List.flatMap_append]
   simp
  ·rw[up_off _ _ (by decide),up_off _ _ (by decide)];exact I.k7
 ·rcases hi with rfl | rfl
  ·rw[up_off _ _ (by decide),up_off _ _ (by decide)];exact I.k8
  ·rw[up_same,up_same]
   have h:=I.k8
   rw[if_neg (by decide),h.1,h.2,List.length_append,List.flatMap_append]
   simp
 ·intro y hy
  rcases hi with rfl | rfl
  ·simp only[if_true] at hy hx
   rcases List.mem_append.1 hy with h | h
   ·exact bk1 _ _ (I.books y h)
   ·simp at h;subst h;exact s.bk hx e8
  ·exact bk1 _ _ (I.books y hy)
 ·intro y hy
  rcases hi with rfl | rfl
  ·exact bk1 _ _ (I.funcs y hy)
  ·rw[if_neg (by decide)] at hy hx
   rcases List.mem_append.1 hy with h | h
   ·exact bk1 _ _ (I.funcs y h)
   ·simp at h;subst h;exact s.bk hx e8
theorem infoP89:(Tryz.prog.info? 89).map (fun i=>(i.zero,i.size,i.bytes))=some (some (.agg #[.string ⟨#[]⟩,.slice none 0 0,.slice none 0 0,.slice none 0 0,.slice none 0 0]),5,112):=by kernel_rfl
theorem repsZ_set1 (xs:List Value) (k:Nat) (v:Value) (hk:k<xs.length):(repsZ k [v]++xs.drop k).set k v=repsZ (k+1) [v]++xs.drop (k+1):=by
 have hl:(repsZ k [v]).length=k:=by rw[repsZ_len];simp
 rw[List.set_append_right _ _ (by omega),hl,Nat.sub_self,List.drop_eq_getElem_cons hk,List.set_cons_zero,← repsZ_app,repsZ_one,List.append_assoc]
 rfl
structure BkAt (W:World) (hb:Nat) (m:ByteArray) (v x1 x2 x3:Value):Prop where
 c0:W.cell? ⟨hb,0,none⟩=some (.string m)
 c1:W.cell? ⟨hb,1,none⟩=some v
 c2:W.cell? ⟨hb,2,none⟩=some x1
 c3:W.cell? ⟨hb,3,none⟩=some x2
 c4:W.cell? ⟨hb,4,none⟩=some x3
 z:∀ i,i<5→W.frozen? ⟨hb,i,none⟩=false
theorem BkAt.lt {W:World}{hb:Nat}{m:ByteArray}{v x1 x2 x3:Value} (h:BkAt W hb m v x1 x2 x3):hb<W.heap.size:=lt_of_cell (a:=⟨hb,0,none⟩) h.c0
theorem BkAt.chg {W W':World}{tag:Nat→Nat}{S:List Nat}{hb:Nat}{m:ByteArray}{v x1 x2 x3:Value} (h:BkAt W hb m v x1 x2 x3) (hc:Chg tag S W W') (ht:tag hb ∉ S):BkAt W' hb m v x1 x2 x3:=
 ⟨(hc.cell (p:=⟨hb,0,none⟩) h.lt ht).trans h.c0,(hc.cell (p:=⟨hb,1,none⟩) h.lt ht).trans h.c1,(hc.cell (p:=⟨hb,2,none⟩) h.lt ht).trans h.c2,(hc.cell (p:=⟨hb,3,none⟩) h.lt ht).trans h.c3,(hc.cell (p:=⟨hb,4,none⟩) h.lt ht).trans h.c4,
  fun i hi=>(hc.frozen (p:=⟨hb,i,none⟩) h.lt ht).trans (h.z i hi)⟩
theorem BkAt.new (W:World) (m:ByteArray) (v x1 x2 x3:Value) (t:TypeId):BkAt (W.alloc (.cells #[.string m,v,x1,x2,x3] t)) W.heap.size m v x1 x2 x3:=by
 have hm:=World.alloc_heap_new W (.cells #[.string m,v,x1,x2,x3] t)
 refine⟨?_,?_,?_,?_,?_,fun i hi=>?_⟩
 ·unfold World.cell?;rw[hm];simp
 ·unfold World.cell?;rw[hm];simp
 ·unfold World.cell?;rw[hm];simp
 ·unfold World.cell?;rw[hm];simp
 ·unfold World.cell?;rw[hm];simp
 ·unfold World.frozen?;rw[hm];simp
theorem BkAt.set2 {W:World}{hb:Nat}{m:ByteArray}{v x1 x2 x3:Value} (h:BkAt W hb m v x1 x2 x3) (u:Value):BkAt (W.setCell ⟨hb,2,none⟩ u) hb m v u x2 x3:=
 ⟨(setCell_off (by decide)).trans h.c0,(setCell_off (by decide)).trans h.c1,World.cell?_setCell_same' _ _ _ (by rw[h.c2];rfl),(setCell_off (by decide)).trans h.c3,(setCell_off (by decide)).trans h.c4,fun i hi=>by rw[World.frozen?_setCell];exact h.z i hi⟩
theorem BkAt.set3 {W:World}{hb:Nat}{m:ByteArray}{v x1 x2 x3:Value} (h:BkAt W hb m v x1 x2 x3) (u:Value):BkAt (W.setCell ⟨hb,3,none⟩ u) hb m v x1 u x3:=
 ⟨(setCell_off (by decide)).trans h.c0,(setCell_off (by decide)).trans h.c1,(setCell_off (by decide)).trans h.c2,World.cell?_setCell_same' _ _ _ (by rw[h.c3];rfl),(setCell_off (by decide)).trans h.c4,fun i hi=>by rw[World.frozen?_setCell];exact h.z i hi⟩
theorem BkAt.set4 {W:World}{hb:Nat}{m:ByteArray}{v x1 x2 x3:Value} (h:BkAt W hb m v x1 x2 x3) (u:Value):BkAt (W.setCell ⟨hb,4,none⟩ u) hb m v x1 x2 u:=
 ⟨(setCell_off (by decide)).trans h.c0,(setCell_off (by decide)).trans h.c1,(setCell_off (by decide)).trans h.c2,(setCell_off (by decide)).trans h.c3,World.cell?_setCell_same' _ _ _ (by rw[h.c4];rfl),fun i hi=>by rw[World.frozen?_setCell];exact h.z i hi⟩
theorem markT_any (w0 W:World) (b:Nat) (tag:Nat→Nat) (c:Nat→Value) (ms:Value) (bs:ByteArray) (N:Nat→Nat) (X:Nat→List Value) (bk fk:List Bk) (o:Option Addr) (cap:Nat) (t n:Nat) (xs:List Value) (I:ScP w0 W b tag c ms bs N X bk fk) (ht:12≤t)
  (hv:RowT w0.heap.size W tag t 9 1 (.slice o n cap) n xs) (hL:n≤1000) (hp:PowTab w0) (hbk:bk.length+fk.length≤1000000000) :
  Calls Tryz.prog 35 #[.pointer (some ⟨b,0,none⟩),.slice o n cap] W fun e W'=>e=.returned (.tuple #[])∧∃ tag' c' x,ScP w0 W' b tag' c' ms bs (up N 7 (N 7+1)) (up X 7 (X 7++x.cells)) (bk++[x]) fk∧Chg tag [0,3,6,t] W W'∧(∀ k,k<W.heap.size→tag k≠t→tag' k=tag k):=by
 obtain⟨i9,ti⟩:=tyT
 have hxl:xs.length=n:=by have:=hv.own.1;omega
 obtain⟨K,hK⟩:∃ K,bk.length+fk.length=K:=⟨_,rfl⟩
 have h7:N 7≤1000000000:=by have:=I.k7.1;omega
 rw[hK] at hbk
 have hm:Tryz.prog.follows .mixedOrders=true:=by kernel_rfl
 have d6:=I.core.cell 6 (by decide)
 have z6:=I.core.fz 6 (by decide)
 rw[I.n6,hK] at d6
 have HK:Hid _:=hK
 clear hK
 have core1:=I.core.set 6 (by decide) (.int .i64 ((K:Int)+1))
 have hit:=itoa_any ((K:Int)+1) _ (by omega) (by omega) (hp.fr core1.fr)
 have ch1:Chg tag [0] W (W.setCell ⟨b,6,none⟩ (.int .i64 ((K:Int)+1))):=Chg.setCell W (by rw[I.core.tb];simp) _
 have HI:Hid _:=I
 have d61:=core1.cell 6 (by decide)
 have e61:upd c 6 (.int .i64 ((K:Int)+1)) 6=.int .i64 ((K:Int)+1):=rfl
 rw[e61] at d61
 have hv1:=hv.chg ch1 (by simp;omega)
 have Hc1:Hid _:=core1
 clear I hv core1 e61
 go_enter Tryz.func35,Tryz.ntmps35
 go_wp2_with fail
 refine hit.mono ?_
 generalize hW1:W.setCell ⟨b,6,none⟩ (.int .i64 ((K:Int)+1))=W1 at *
 rintro e W2 ⟨s,hs,rfl,f2⟩
 have hsm:((⟨#[109,97,114,107,32]⟩:ByteArray)++s).size=5+s.size:=by rw[ByteArray.size_append];rfl
 have hv2:=hv1.chg (S:=[]) (Chg.of_fr f2) (by simp)
 clear hit hv1 d6 z6 d61 hW1
 go_wp2
 generalize hgm:(⟨#[109,97,114,107,32]⟩:ByteArray)++s=m at *
 clear hgm
 go_loopw [5] (fun i wr=>∃ k:Nat,k≤n∧i=.int .i64 k∧RowT w0.heap.size wr tag t 9 1 (.slice o n cap) n (repsZ k [.string m]++xs.drop k)∧Chg tag [t] W2 wr) (fun i _=>n-(intOf i).toNat)
 case atStart=>exact⟨0,by omega,rfl,by simpa [repsZ] using hv2,Chg.refl _ _ _⟩
 case round=>
  obtain⟨k,hk,rfl,hv,ch2⟩:=hrel
  clear hv2
  by_cases hlt:k<n
  ·have g1:(k:Int)<n:=by omega
   obtain⟨g,rfl⟩:∃ g,o=some ⟨g,0,none⟩:=by
    rcases hv.own.2 with ⟨_,h'⟩ | ⟨g,cap',cur,h',_⟩
    ·omega
    ·exact⟨g,by injection h'⟩
   have hst:=hv.own.stored k (.string m)
   rw[repsZ_set1 xs k (.string m) (by omega)] at hst
   have hcl:=hv.own.cellAt k (by omega)
   have hex:∃ y,(repsZ k [.string m]++xs.drop k)[k]?=some y:=⟨_,List.getElem?_eq_getElem (by simp[repsZ_len];omega)⟩
   obtain⟨y,hy⟩:=hex
   rw[hy] at hcl
   have hfz:=hv.own.frozenAt k
   have htg:=hv.tg
   have Hst:Hid _:=hst
   clear hst hv hy
   go_wp2
   have hst:=Hst.out
   refine⟨⟨k+1,by omega,by go_num,⟨hst.1,htg⟩,ch2.trans (tag':=tag) (S':=[t]) (Chg.setCell wr (by rw[htg g rfl];simp) _) (fun _ _ h=>h)⟩,by simp[intOf];omega⟩
  ·have g1:¬ ((k:Int)<n):=by omega
   obtain rfl:n=k:=by omega
   rw[List.drop_of_length_le (by omega),List.append_nil] at hv
   have tA:∃ tagA:Nat→Nat,(∀ i,i<wr.heap.size→tagA i=tag i)∧tagA wr.heap.size=6∧∀ i,wr.heap.size<i→tagA i=t:=
    ⟨fun i=>if i<wr.heap.size then tag i else if i=wr.heap.size then 6 else t,fun i hi=>by simp[hi],by simp,fun i hi=>by show (if i<_ then _ else _)=t;rw[if_neg (by omega),if_neg (by omega)]⟩
   obtain⟨tagA,hA1,hA2,hA3⟩:=tA
   have hvA:RowT w0.heap.size wr tagA t 9 1 (.slice o n cap) n (repsZ n [.string m]):=hv.retag (fun i hi e=>by rw[hA1 i hi];exact e)
   have hsz0:w0.heap.size≤wr.heap.size:=Nat.le_trans Hc1.out.fr.size (Nat.le_trans f2.size ch2.size)
   have B0:=BkAt.new wr m (.slice o n cap) (.slice none 0 0) (.slice none 0 0) (.slice none 0 0) 89
   have HB0:Hid _:=B0
   have HvA:Hid _:=hvA
   clear B0 hvA hv
   go_wp2_with (at_builtin;refine wpList_append_famZ ti rfl _ _ rfl w0.heap.size tagA t _ n [.string m] rfl (by intro u hu;simp at hu;subst hu;rfl) 1 ⟨wr.heap.size+1,0,none⟩ 1 rfl rfl ?a1 (by decide) ?a2 ?a3 ?a4 ?a5 ?_)
   case a1=>exact HvA.out.chg (S:=[]) (Chg.of_fr (((Fr.refl [] wr).alloc _).alloc _)) (by simp)
   case a2=>exact fun i u h=>by rw[repsZ_one] at h;exact h
   case a3=>omega
   case a4=>omega
   intro o1 cap1 w5 hv5 F1 keep5 ch5
   have B5:=(HB0.out.chg (tag:=tagA) (S:=[]) (Chg.of_fr ((Fr.refl [] _).alloc (Obj.cells #[Value.string m] 9))) (by simp)).chg ch5 (by rw[hA2];simp;omega)
   have hs5:=ch5.size
   simp only[World.size_alloc] at hs5
   have q2:=B5.c2
   have y2:=B5.z 2 (by decide)
   have ch6:Chg tagA [6] w5 (w5.setCell ⟨wr.heap.size,2,none⟩ (.slice o1 (n+1) cap1)):=Chg.setCell w5 (by rw[hA2];simp) _
   have B6:=B5.set2 (.slice o1 (n+1) cap1)
   have HB6:Hid _:=B6
   have Hv6:Hid _:=hv5.chg ch6 (by simp;omega)
   have HF6:Hid _:=F1.chg ch6 (by simp;omega)
   clear B5 B6 hv5 F1 keep5
   go_wp2_with (at_builtin;refine wpList_append_famZ ti rfl _ _ rfl w0.heap.size tagA t _ n [.string m] rfl (by intro u hu;simp at hu;subst hu;rfl) 2 ⟨w5.heap.size,0,none⟩ 2 rfl rfl ?b1 (by decide) ?b2 ?b3 ?b4 ?b5 ?_)
   case b1=>exact Hv6.out.chg (S:=[]) (Chg.of_fr ((Fr.refl [] _).alloc _)) (by simp)
   case b2=>have h:=repsZ_new (w5.setCell ⟨wr.heap.size,2,none⟩ (.slice o1 (n+1) cap1)) [.string m] 2 #[.string m,.string m] 9 rfl;simpa using h
   case b3=>omega
   case b4=>simp;omega
   case b5=>exact hA3 _ (by simp;omega)
   intro o2 cap2 w8 hv8 F2 keep8 ch8
   have F18:=keep8 1 _ (by decide) (HF6.out.chg (S:=[]) (Chg.of_fr ((Fr.refl [] _).alloc _)) (by simp))
   have B8:=(HB6.out.chg (tag:=tagA) (S:=[]) (Chg.of_fr ((Fr.refl [] _).alloc (Obj.cells #[Value.string m,Value.string m] 9))) (by simp)).chg ch8 (by rw[hA2];simp;omega)
   have hs8:=ch8.size
   simp only[World.size_alloc] at hs8
   have hs6:(w5.setCell ⟨wr.heap.size,2,none⟩ (.slice o1 (n+1) cap1)).heap.size=w5.heap.size:=by simp
   have q3:=B8.c3
   have y3:=B8.z 3 (by decide)
   have ch9:Chg tagA [6] w8 (w8.setCell ⟨wr.heap.size,3,none⟩ (.slice o2 (n+2) cap2)):=Chg.setCell w8 (by rw[hA2];simp) _
   have HB9:Hid _:=B8.set3 (.slice o2 (n+2) cap2)
   have Hv9:Hid _:=hv8.chg ch9 (by simp;omega)
   have HF9:Hid _:=F2.chg ch9 (by simp;omega)
   have HG9:Hid _:=F18.chg ch9 (by simp;omega)
   clear B8 hv8 F2 F18 keep8
   go_wp2_with (at_builtin;refine wpList_append_famZ ti rfl _ _ rfl w0.heap.size tagA t _ n [.string m] rfl (by intro u hu;simp at hu;subst hu;rfl) 3 ⟨w8.heap.size,0,none⟩ 3 rfl rfl ?d1 (by decide) ?d2 ?d3 ?d4 ?d5 ?_)
   case d1=>exact Hv9.out.chg (S:=[]) (Chg.of_fr ((Fr.refl [] _).alloc _)) (by simp)
   case d2=>have h:=repsZ_new (w8.setCell ⟨wr.heap.size,3,none⟩ (.slice o2 (n+2) cap2)) [.string m] 3 #[.string m,.string m,.string m] 9 rfl;simpa using h
   case d3=>omega
   case d4=>simp;omega
   case d5=>exact hA3 _ (by simp;omega)
   intro o3 cap3 w11 hv11 F3 keep11 ch11
   have F1_11:=keep11 1 _ (by decide) (HG9.out.chg (S:=[]) (Chg.of_fr ((Fr.refl [] _).alloc _)) (by simp))
   have F2_11:=keep11 2 _ (by decide) (HF9.out.chg (S:=[]) (Chg.of_fr ((Fr.refl [] _).alloc _)) (by simp))
   have B11:=(HB9.out.chg (tag:=tagA) (S:=[]) (Chg.of_fr ((Fr.refl [] _).alloc (Obj.cells #[Value.string m,Value.string m,Value.string m] 9))) (by simp)).chg ch11 (by rw[hA2];simp;omega)
   have q4:=B11.c4
   have y4:=B11.z 4 (by decide)
   have ch12:Chg tagA [6] w11 (w11.setCell ⟨wr.heap.size,4,none⟩ (.slice o3 (n+3) cap3)):=Chg.setCell w11 (by rw[hA2];simp) _
   have B12:=B11.set4 (.slice o3 (n+3) cap3)
   have v12:=hv11.chg ch12 (by simp;omega)
   have F1:=F1_11.chg ch12 (by simp;omega)
   have F2:=F2_11.chg ch12 (by simp;omega)
   have F3':=F3.chg ch12 (by simp;omega)
   have tr:∀ i,i<wr.heap.size→tagA i ∉ [t,6]→tagA i ∉ [t,6]:=fun _ _ h=>h
   have chA:Chg tagA [t,6] wr (w11.setCell ⟨wr.heap.size,4,none⟩ (.slice o3 (n+3) cap3)):=by
    have e1:Chg tagA [t,6] wr w5:=(Chg.of_fr (((Fr.refl [] wr).alloc _).alloc _)).trans (ch5.mono (S':=[t,6]) (by simp)) (fun _ _ h=>h)
    have e2:=e1.trans (ch6.mono (S':=[t,6]) (by simp)) (fun _ _ h=>h)
    have e3:=e2.trans (Chg.of_fr (tag:=tagA) (S:=[t,6]) ((Fr.refl [] _).alloc (Obj.cells #[Value.string m,Value.string m] 9))) (fun _ _ h=>h)
    have e4:=e3.trans (ch8.mono (S':=[t,6]) (by simp)) (fun _ _ h=>h)
    have e5:=e4.trans (ch9.mono (S':=[t,6]) (by simp)) (fun _ _ h=>h)
    have e6:=e5.trans (Chg.of_fr (tag:=tagA) (S:=[t,6]) ((Fr.refl [] _).alloc (Obj.cells #[Value.string m,Value.string m,Value.string m] 9))) (fun _ _ h=>h)
    have e7:=e6.trans (ch11.mono (S':=[t,6]) (by simp)) (fun _ _ h=>h)
    exact e7.trans (ch12.mono (S':=[t,6]) (by simp)) (fun _ _ h=>h)
   clear hv11 F3 keep11 F1_11 F2_11 B11 ch5 ch6 ch8 ch9 ch11 ch12 HB0 HvA HB6 Hv6 HF6 HB9 Hv9 HF9 HG9 hs5 hs8 hs6 tr
   have HF:Hid (_∧_∧_∧_∧_∧_):=⟨B12,v12,F1,F2,F3',chA⟩
   clear B12 v12 F1 F2 F3' chA q2 y2 q3 y3
   go_wp2
   generalize w11.setCell ⟨wr.heap.size,4,none⟩ (.slice o3 (n+3) cap3)=W12 at *
   clear q4 y4
   obtain⟨B12,v12,F1,F2,F3,chA⟩:=HF.out
   clear HF
   have hW1:=ch1.size
   have hW2:=f2.size
   have hWr:=ch2.size
   have hWA:=chA.size
   have chW:Chg tag [0,6,t] W W12:=by
    have e1:Chg tag [0,6,t] W W2:=(ch1.mono (S':=[0,6,t]) (by simp)).trans (Chg.of_fr (tag:=tag) (S:=[0,6,t]) f2) (fun _ _ h=>h)
    have e2:Chg tag [0,6,t] W wr:=e1.trans (ch2.mono (S':=[0,6,t]) (by simp)) (fun _ _ h=>h)
    exact e2.trans chA (fun i hi h=>by rw[hA1 i (by omega)];simp at h ⊢;omega)
   obtain⟨tagB,hB⟩:∃ tagB:Nat→Nat,∀ i,tagB i=if tagA i=t then 8 else tagA i:=⟨fun i=>if tagA i=t then 8 else tagA i,fun _=>rfl⟩
   have sQ:Stq tag tagB t W W12:=⟨chW,fun i hi hne=>by rw[hB,hA1 i (by omega),if_neg hne]⟩
   have core12:CorI w0 W12 b tagB (upd c 6 (.int .i64 ((K:Int)+1))):=by
    have e1:=(Hc1.out.chg (S:=[]) (Chg.of_fr f2) (by simp) (by simp)).chg ch2 (by simp;omega) (by simp;omega)
    have e2:=(e1.retag (tag':=tagA) (fun i hi _=>hA1 i hi)).chg chA (by simp;omega) (by simp;omega)
    exact e2.retag (fun i hi h=>by rw[hB,if_neg (by omega)])
   have I:=HI.out
   have r7:RowT w0.heap.size W12 tagB 3 89 5 (c 7) (N 7) (X 7):=sQ.row (I.rows 7 (by unfold isR;omega)) (by decide) (by decide) (by show (3:Nat)≠t;omega)
   have tg8:∀ u,Tg tagA u t→Tg tagB u 8:=fun u h g hg=>by rw[hB,if_pos (h g hg)]
   have bkx:BkOk W12 tagB MkT ⟨[.string m],(.slice o n cap),(.slice o1 (n+1) cap1),(.slice o2 (n+2) cap2),(.slice o3 (n+3) cap3)⟩:=
    ⟨⟨m,rfl⟩,v12.allZ (by omega),F1.row.allZ (by omega),F2.row.allZ (by omega),F3.row.allZ (by omega),tg8 _ v12.tg,tg8 _ F1.row.tg,tg8 _ F2.row.tg,tg8 _ F3.row.tg⟩
   have HI:Hid _:=I
   clear I v12 F1 F2 F3 tg8 chA hA1 hA2 hA3
   have d7:=core12.cell 7 (by decide)
   obtain⟨v7,e7⟩:∃ v,c 7=v:=⟨_,rfl⟩
   have e7':upd c 6 (.int .i64 ((K:Int)+1)) 7=v7:=e7
   rw[e7'] at d7
   rw[e7] at r7
   have hsz12:=core12.fr.size
   obtain⟨i0,hi,hz0,hz1,hz2⟩:=info_parts infoP89
   obtain⟨vv,w13,hr2,hown',hgrow,hnil,hwh⟩:=run_append_own_at (P:=Tryz.prog) (W12.drew.alloc (Obj.cells #[Value.string m,Value.slice o n cap,Value.slice o1 (n+1) cap1,Value.slice o2 (n+2) cap2,Value.slice o3 (n+3) cap3] 89)) w0.heap.size 53 53 89 i0 _ 5 112 Tryz.underlying53 hi hz0 hz1 hz2 rfl (by decide) v7 (N 7) (X 7) ((show W12.drew.ownsRow _ _ _ _ _ _ from r7.own).alloc _) ⟨W12.heap.size,0,none⟩ 1 1 (Bk.cells ⟨[.string m],(.slice o n cap),(.slice o1 (n+1) cap1),(.slice o2 (n+2) cap2),(.slice o3 (n+3) cap3)⟩) rfl
    (by
     intro j u hj
     have hnw:∀ i,(W12.drew.alloc (Obj.cells #[Value.string m,Value.slice o n cap,Value.slice o1 (n+1) cap1,Value.slice o2 (n+2) cap2,Value.slice o3 (n+3) cap3] 89)).cell? ⟨W12.heap.size,i,none⟩=(Bk.cells ⟨[.string m],(.slice o n cap),(.slice o1 (n+1) cap1),(.slice o2 (n+2) cap2),(.slice o3 (n+3) cap3)⟩)[i]?:=fun i=>by
      have hm:=World.alloc_heap_new W12.drew (Obj.cells #[Value.string m,Value.slice o n cap,Value.slice o1 (n+1) cap1,Value.slice o2 (n+2) cap2,Value.slice o3 (n+3) cap3] 89)
      have hm':(W12.drew.alloc (Obj.cells #[Value.string m,Value.slice o n cap,Value.slice o1 (n+1) cap1,Value.slice o2 (n+2) cap2,Value.slice o3 (n+3) cap3] 89)).heap[W12.heap.size]?=some _:=hm
      unfold World.cell?;rw[hm'];simp[Bk.cells]
     rcases j with _ | j
     ·simpa [Addr.add,hnw] using hj
     ·simpa [Addr.add,hnw] using hj)
    (by intro u hu;simp[Bk.cells] at hu;rcases hu with rfl | rfl | rfl | rfl | rfl <;> rfl) (by unfold maxLen;omega) (by omega) (by simp;omega)
   obtain⟨q1,q2,rfl⟩:=own_form hown'
   have fa:Fr [] W12 (W12.drew.alloc (Obj.cells #[Value.string m,Value.slice o n cap,Value.slice o1 (n+1) cap1,Value.slice o2 (n+2) cap2,Value.slice o3 (n+3) cap3] 89)):=((Fr.refl [] W12).drew).alloc _
   obtain⟨s3,core3,row3,cl,fz,_⟩:=row_step 7 3 core12 (by rw[e7'];exact r7) fa hown' (by rw[e7'];exact hgrow) (by rw[e7'];exact hwh) (by decide) (by decide) (by decide)
   have cl7:=cl 7 (by decide)
   have fz7:=fz 7 (by decide)
   rw[e7'] at cl7
   have IF:ScP w0 (w13.setCell ⟨b,7,none⟩ (.slice q1 (N 7+1) q2)) b (newTag tagB (W12.drew.alloc (Obj.cells #[Value.string m,Value.slice o n cap,Value.slice o1 (n+1) cap1,Value.slice o2 (n+2) cap2,Value.slice o3 (n+3) cap3] 89)).heap.size 3) (upd (upd c 6 (.int .i64 ((K:Int)+1))) 7 (.slice q1 (N 7+1) q2)) ms bs (up N 7 (N 7+1)) (up X 7 (X 7++(Bk.cells ⟨[.string m],(.slice o n cap),(.slice o1 (n+1) cap1),(.slice o2 (n+2) cap2),(.slice o3 (n+3) cap3)⟩))) (bk++[⟨[.string m],(.slice o n cap),(.slice o1 (n+1) cap1),(.slice o2 (n+2) cap2),(.slice o3 (n+3) cap3)⟩]) fk:=by
    have hh:=HI.out.book (v':=.slice q1 (N 7+1) q2) ht sQ 7 (.inl rfl) s3 (by rw[HK.out];exact core3) row3 (by rw[if_pos rfl];exact bkx)
    rw[HK.out] at hh
    exact hh
   have cfin:Chg tag [0,3,6,t] W (w13.setCell ⟨b,7,none⟩ (.slice q1 (N 7+1) q2)):=(sQ.chg.mono (S':=[0,3,6,t]) (by simp)).trans s3.chg (fun i hi h=>by
    simp at h
    rw[sQ.ret i hi (by omega)]
    simp;omega)
   have rfin:∀ k,k<W.heap.size→tag k≠t→newTag tagB (W12.drew.alloc (Obj.cells #[Value.string m,Value.slice o n cap,Value.slice o1 (n+1) cap1,Value.slice o2 (n+2) cap2,Value.slice o3 (n+3) cap3] 89)).heap.size 3 k=tag k:=fun k hk hne=>by
    rw[s3.ret k (by omega),sQ.ret k hk hne]
   have Hr2:Hid _:=hr2
   have c0:=B12.c0
   have c1:=B12.c1
   have c2:=B12.c2
   have c3:=B12.c3
   have c4:=B12.c4
   have HIF:Hid _:=IF
   have Hcf:Hid _:=cfin
   have Hrf:Hid _:=rfin
   have hbl:=B12.lt
   have b0:=((Fr.refl [] W12).alloc (Obj.cells #[Value.string m,Value.slice o n cap,Value.slice o1 (n+1) cap1,Value.slice o2 (n+2) cap2,Value.slice o3 (n+3) cap3] 89)).cell (p:=⟨b,7,none⟩) core12.lt (by simp)
   rw[d7] at b0
   clear hr2 IF cfin rfin sQ s3 core3 row3 cl fz hown' hgrow hnil hwh bkx r7 chW ch1 ch2 HI Hc1 B12 core12 e7 e7' hB fa
   refine wp_region_heldD (fun _=>True) hm ?_
   have hS:(fun _:World=>True) W12.drew:=trivial
   refine wpAnyH_take (i:=0) (v:=?_) rfl (by kernel_rfl) (by kernel_rfl) (by kernel_rfl) (fun _ _ _ h=>h) (.inl ⟨rfl,fun w1 hS1=>?_⟩) hS ?_
   rotate_left
   ·have q9:=hS1
    go_simp
    rfl
   simp only[Act.put,List.setIfInBounds_toArray,List.set_cons_zero,List.set_cons_succ]
   refine wpAnyH_take (i:=1) (v:=?_) rfl (by kernel_rfl) (by kernel_rfl) (by kernel_rfl) (fun _ _ _ h=>h) (.inl ⟨rfl,fun w1 hS1=>?_⟩) hS ?_
   rotate_left
   ·have q9:=hS1
    go_simp
    rfl
   simp only[Act.put,List.setIfInBounds_toArray,List.set_cons_zero,List.set_cons_succ]
   refine wpAnyH_take (i:=2) (v:=?_) rfl (by kernel_rfl) (by kernel_rfl) (by kernel_rfl) (fun _ _ _ h=>h) (.inl ⟨rfl,fun w1 hS1=>?_⟩) hS ?_
   rotate_left
   ·have q9:=hS1
    go_simp
    rfl
   simp only[Act.put,List.setIfInBounds_toArray,List.set_cons_zero,List.set_cons_succ]
   refine wpAnyH_take (i:=3) (v:=?_) rfl (by kernel_rfl) (by kernel_rfl) (by kernel_rfl) (fun _ _ _ h=>h) (.inl ⟨rfl,fun w1 hS1=>?_⟩) hS ?_
   rotate_left
   ·have q9:=hS1
    go_simp
    rfl
   simp only[Act.put,List.setIfInBounds_toArray,List.set_cons_zero,List.set_cons_succ]
   refine wpAnyH_ready (rs:=[4,5]) (by kernel_rfl) (by simp) ?_
   refine AllReadyH.cons rfl (fun K hK=>?_) ?_
   ·go_simp
    refine hK _ _ trivial ?_
    clear hK K
    intro _
    refine wpAnyH_ready (rs:=[5]) (by kernel_rfl) (by simp) ?_
    refine AllReadyH.cons rfl (fun K hK=>?_) AllReadyH.nil
    go_simp
    refine hK _ _ trivial ?_
    clear hK K
    intro _
    refine wpAnyH_ready (rs:=[6]) (by kernel_rfl) (by simp) ?_
    refine AllReadyH.cons rfl (fun K hK=>?_) AllReadyH.nil
    go_simp
    refine hK _ _ trivial ?_
    clear hK K
    intro _
    refine wpAnyH_ready (rs:=[7]) (by kernel_rfl) (by simp) ?_
    refine AllReadyH.cons rfl (fun K hK=>?_) AllReadyH.nil
    refine wanted_of (by rfl) ?_
    refine wp_append_run _ _ 53 rfl _ _ rfl rfl Hr2.out ?_
    refine hK _ _ trivial ?_
    clear hK K
    intro _
    simp only[Act.put,List.setIfInBounds_toArray,List.set_cons_zero,List.set_cons_succ]
    refine wpAnyH_ready (rs:=[8]) (by kernel_rfl) (by simp) ?_
    refine AllReadyH.cons rfl (fun K hK=>?_) AllReadyH.nil
    go_simp
    refine hK _ _ trivial ?_
    clear hK K
    intro _
    refine wpAnyH_ready (rs:=[9]) (by kernel_rfl) (by simp) ?_
    refine AllReadyH.cons rfl (fun K hK=>?_) AllReadyH.nil
    go_simp
    refine hK _ _ trivial ?_
    clear hK K
    intro _
    refine wpAnyH_ready (rs:=[10]) (by kernel_rfl) (by simp) ?_
    refine AllReadyH.cons rfl (fun K hK=>?_) AllReadyH.nil
    go_simp
    refine hK _ _ trivial ?_
    clear hK K
    intro _
    refine wpAnyH_done (by kernel_rfl) ?_ _
    go_wp2
    go_end0
    exact⟨rfl,_,⟨_,_,HIF.out⟩,Hcf.out,Hrf.out⟩
   ·refine AllReadyH.cons rfl (fun K hK=>?_) AllReadyH.nil
    go_simp
    refine hK _ _ trivial ?_
    clear hK K
    intro _
    refine wpAnyH_ready (rs:=[4,6]) (by kernel_rfl) (by simp) ?_
    refine AllReadyH.cons rfl (fun K hK=>?_) ?_
    ·go_simp
     refine hK _ _ trivial ?_
     clear hK K
     intro _
     refine wpAnyH_ready (rs:=[6]) (by kernel_rfl) (by simp) ?_
     refine AllReadyH.cons rfl (fun K hK=>?_) AllReadyH.nil
     go_simp
     refine hK _ _ trivial ?_
     clear hK K
     intro _
     refine wpAnyH_ready (rs:=[7]) (by kernel_rfl) (by simp) ?_
     refine AllReadyH.cons rfl (fun K hK=>?_) AllReadyH.nil
     refine wanted_of (by rfl) ?_
     refine wp_append_run _ _ 53 rfl _ _ rfl rfl Hr2.out ?_
     refine hK _ _ trivial ?_
     clear hK K
     intro _
     simp only[Act.put,List.setIfInBounds_toArray,List.set_cons_zero,List.set_cons_succ]
     refine wpAnyH_ready (rs:=[8]) (by kernel_rfl) (by simp) ?_
     refine AllReadyH.cons rfl (fun K hK=>?_) AllReadyH.nil
     go_simp
     refine hK _ _ trivial ?_
     clear hK K
     intro _
     refine wpAnyH_ready (rs:=[9]) (by kernel_rfl) (by simp) ?_
     refine AllReadyH.cons rfl (fun K hK=>?_) AllReadyH.nil
     go_simp
     refine hK _ _ trivial ?_
     clear hK K
     intro _
     refine wpAnyH_ready (rs:=[10]) (by kernel_rfl) (by simp) ?_
     refine AllReadyH.cons rfl (fun K hK=>?_) AllReadyH.nil
     go_simp
     refine hK _ _ trivial ?_
     clear hK K
     intro _
     refine wpAnyH_done (by kernel_rfl) ?_ _
     go_wp2
     go_end0
     exact⟨rfl,_,⟨_,_,HIF.out⟩,Hcf.out,Hrf.out⟩
    ·refine AllReadyH.cons rfl (fun K hK=>?_) AllReadyH.nil
     go_simp
     refine hK _ _ trivial ?_
     clear hK K
     intro _
     refine wpAnyH_ready (rs:=[4]) (by kernel_rfl) (by simp) ?_
     refine AllReadyH.cons rfl (fun K hK=>?_) AllReadyH.nil
     go_simp
     refine hK _ _ trivial ?_
     clear hK K
     intro _
     refine wpAnyH_ready (rs:=[7]) (by kernel_rfl) (by simp) ?_
     refine AllReadyH.cons rfl (fun K hK=>?_) AllReadyH.nil
     refine wanted_of (by rfl) ?_
     refine wp_append_run _ _ 53 rfl _ _ rfl rfl Hr2.out ?_
     refine hK _ _ trivial ?_
     clear hK K
     intro _
     simp only[Act.put,List.setIfInBounds_toArray,List.set_cons_zero,List.set_cons_succ]
     refine wpAnyH_ready (rs:=[8]) (by kernel_rfl) (by simp) ?_
     refine AllReadyH.cons rfl (fun K hK=>?_) AllReadyH.nil
     go_simp
     refine hK _ _ trivial ?_
     clear hK K
     intro _
     refine wpAnyH_ready (rs:=[9]) (by kernel_rfl) (by simp) ?_
     refine AllReadyH.cons rfl (fun K hK=>?_) AllReadyH.nil
     go_simp
     refine hK _ _ trivial ?_
     clear hK K
     intro _
     refine wpAnyH_ready (rs:=[10]) (by kernel_rfl) (by simp) ?_
     refine AllReadyH.cons rfl (fun K hK=>?_) AllReadyH.nil
     go_simp
     refine hK _ _ trivial ?_
     clear hK K
     intro _
     refine wpAnyH_done (by kernel_rfl) ?_ _
     go_wp2
     go_end0
     exact⟨rfl,_,⟨_,_,HIF.out⟩,Hcf.out,Hrf.out⟩
end Go.Proofs.YtclkgoigmgkffaaGreatDoor
