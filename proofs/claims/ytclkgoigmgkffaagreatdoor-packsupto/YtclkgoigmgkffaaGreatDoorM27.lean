/-
  Texts La.
-/
import Derived.Maps.AppendAt
import Derived.Laws.OwnMore
import Derived.Test.YtclkgoigmgkffaaGreatDoorM26
set_option linter.unusedSimpArgs false
set_option linter.unusedVariables false
set_option maxRecDepth 100000
set_option maxHeartbeats 40000000
namespace Go.Proofs.YtclkgoigmgkffaaGreatDoor
open Go.RowKit
open Wire Flow Mach
structure Chg (tag:Nat→Nat) (S:List Nat) (W W':World):Prop where
 os:W'.os=W.os
 tape:W'.tape=W.tape
 output:W'.output=W.output
 size:W.heap.size≤W'.heap.size
 block:∀ k,k<W.heap.size→tag k ∉ S→W'.heap[k]?=W.heap[k]?
theorem Chg.of_fr {tag:Nat→Nat}{S:List Nat}{W W':World} (h:Fr [] W W'):Chg tag S W W':=⟨h.os,h.tape,h.output,h.size,fun k hk _=>h.block k hk (by simp)⟩
theorem Chg.refl (tag:Nat→Nat) (S:List Nat) (W:World):Chg tag S W W:=Chg.of_fr (Fr.refl [] W)
theorem Chg.trans {tag tag':Nat→Nat}{S S':List Nat}{a b c:World} (h:Chg tag S a b) (k:Chg tag' S' b c) (ht:∀ i,i<a.heap.size→tag i ∉ S→tag' i ∉ S'):Chg tag S a c:=
 ⟨k.os.trans h.os,k.tape.trans h.tape,k.output.trans h.output,Nat.le_trans h.size k.size,fun i hi hn=>(k.block i (Nat.lt_of_lt_of_le hi h.size) (ht i hi hn)).trans (h.block i hi hn)⟩
theorem Chg.mono {tag:Nat→Nat}{S S':List Nat}{a b:World} (h:Chg tag S a b) (hs:∀ x,x ∈ S→x ∈ S'):Chg tag S' a b:=
 ⟨h.os,h.tape,h.output,h.size,fun i hi hn=>h.block i hi (fun hx=>hn (hs _ hx))⟩
theorem Chg.setCell {tag:Nat→Nat}{S:List Nat} (W:World) {p:Addr} (hp:tag p.block ∈ S) (u:Value):Chg tag S W (W.setCell p u):=
 ⟨rfl,rfl,rfl,by simp[World.setCell],fun k hk hn=>Below.heap_setCell _ _ _ _ (by rintro rfl;exact hn hp)⟩
theorem Chg.grown {tag:Nat→Nat}{S:List Nat}{W W':World}{row:Option Nat} (h:W.grownBy W' row) (hr:∀ k,row=some k→tag k ∈ S):Chg tag S W W':=
 ⟨h.os,h.tape,h.output,h.size,fun k hk hn=>h.block k hk (fun e=>hn (hr k e.symm))⟩
theorem Chg.cell {tag:Nat→Nat}{S:List Nat}{W W':World} (h:Chg tag S W W') {p:Addr} (hp:p.block<W.heap.size) (hn:tag p.block ∉ S):W'.cell? p=W.cell? p:=World.cell?_of_block (w:=W) (h.block p.block hp hn)
theorem Chg.frozen {tag:Nat→Nat}{S:List Nat}{W W':World} (h:Chg tag S W W') {p:Addr} (hp:p.block<W.heap.size) (hn:tag p.block ∉ S):W'.frozen? p=W.frozen? p:=World.frozen?_of_block (w:=W) (h.block p.block hp hn)
def Tg (tag:Nat→Nat) (v:Value) (t:Nat):Prop:=∀ g,v.ownBlock=some g→tag g=t
theorem Tg.nil (tag:Nat→Nat) (t:Nat):Tg tag (.slice none 0 0) t:=fun g h=>by cases h
structure RowT (B:Nat) (W:World) (tag:Nat→Nat) (t:Nat) (e:TypeId) (size:Nat) (v:Value) (n:Nat) (xs:List Value):Prop where
 own:W.ownsRow B e size v n xs
 tg:Tg tag v t
theorem RowT.nil (B:Nat) (W:World) (tag:Nat→Nat) (t:Nat) (e:TypeId) (size:Nat):RowT B W tag t e size (.slice none 0 0) 0 []:=⟨World.ownsRow_nil _ _ _ _,Tg.nil _ _⟩
theorem RowT.chg {B:Nat}{W W':World}{tag:Nat→Nat}{t:Nat}{e:TypeId}{size:Nat}{v:Value}{n:Nat}{xs:List Value}{S:List Nat} (h:RowT B W tag t e size v n xs) (hc:Chg tag S W W') (ht:t ∉ S):RowT B W' tag t e size v n xs:=
 ⟨own_of_block h.own fun g hg=>hc.block g (h.own.lt g hg).2 (by rw[h.tg g hg];exact ht),h.tg⟩
theorem RowT.retag {B:Nat}{W:World}{tag tag':Nat→Nat}{t:Nat}{e:TypeId}{size:Nat}{v:Value}{n:Nat}{xs:List Value} (h:RowT B W tag t e size v n xs) (ht:∀ k,k<W.heap.size→tag k=t→tag' k=t):RowT B W tag' t e size v n xs:=
 ⟨h.own,fun g hg=>ht g (h.own.lt g hg).2 (h.tg g hg)⟩
structure CorI (w0 W:World) (b:Nat) (tag:Nat→Nat) (c:Nat→Value):Prop where
 fr:Fr [] w0 W
 low:∀ k,k<w0.heap.size→tag k=7
 hb:w0.heap.size≤b
 tb:tag b=0
 cell:∀ i,i<15→W.cell? ⟨b,i,none⟩=some (c i)
 fz:∀ i,i<15→W.frozen? ⟨b,i,none⟩=false
theorem CorI.lt {w0 W:World}{b:Nat}{tag:Nat→Nat}{c:Nat→Value} (h:CorI w0 W b tag c):b<W.heap.size:=lt_of_cell (a:=⟨b,0,none⟩) (h.cell 0 (by decide))
theorem fr_chg {w0 W W':World}{tag:Nat→Nat}{S:List Nat} (h:Fr [] w0 W) (low:∀ k,k<w0.heap.size→tag k=7) (hc:Chg tag S W W') (h7:7 ∉ S):Fr [] w0 W':=
 ⟨hc.os.trans h.os,hc.tape.trans h.tape,hc.output.trans h.output,Nat.le_trans h.size hc.size,fun k hk hn=>(hc.block k (Nat.lt_of_lt_of_le hk h.size) (by rw[low k hk];exact h7)).trans (h.block k hk hn)⟩
theorem CorI.chg {w0 W W':World}{b:Nat}{tag:Nat→Nat}{c:Nat→Value}{S:List Nat} (h:CorI w0 W b tag c) (hc:Chg tag S W W') (h0:0 ∉ S) (h7:7 ∉ S):CorI w0 W' b tag c:=
 ⟨fr_chg h.fr h.low hc h7,h.low,h.hb,h.tb,fun i hi=>(hc.cell (p:=⟨b,i,none⟩) h.lt (by rw[h.tb];exact h0)).trans (h.cell i hi),fun i hi=>(hc.frozen (p:=⟨b,i,none⟩) h.lt (by rw[h.tb];exact h0)).trans (h.fz i hi)⟩
def upd (c:Nat→Value) (i:Nat) (v:Value):Nat→Value:=fun j=>if j=i then v else c j
theorem CorI.set {w0 W:World}{b:Nat}{tag:Nat→Nat}{c:Nat→Value} (h:CorI w0 W b tag c) (i:Nat) (hi:i<15) (v:Value):CorI w0 (W.setCell ⟨b,i,none⟩ v) b tag (upd c i v):=by
 refine⟨fr_chg (S:=[0]) h.fr h.low (Chg.setCell W (by rw[h.tb];simp) v) (by simp),h.low,h.hb,h.tb,fun j hj=>?_,fun j hj=>?_⟩
 ·by_cases e:j=i
  ·subst e
   rw[World.cell?_setCell_same' _ _ _ (by rw[h.cell j hj];rfl)]
   simp[upd]
  ·rw[setCell_off (fun e'=>e e'.symm),h.cell j hj]
   simp[upd,e]
 ·rw[World.frozen?_setCell];exact h.fz j hj
theorem CorI.retag {w0 W:World}{b:Nat}{tag tag':Nat→Nat}{c:Nat→Value} (h:CorI w0 W b tag c) (ht:∀ k,k<W.heap.size→tag k=0∨tag k=7→tag' k=tag k):CorI w0 W b tag' c:=
 ⟨h.fr,fun k hk=>by rw[ht k (Nat.lt_of_lt_of_le hk h.fr.size) (by rw[h.low k hk];decide)];exact h.low k hk,h.hb,by rw[ht b h.lt (by rw[h.tb];decide)];exact h.tb,h.cell,h.fz⟩
def newTag (tag:Nat→Nat) (n t:Nat):Nat→Nat:=fun k=>if k<n then tag k else t
theorem newTag_old {tag:Nat→Nat}{n t k:Nat} (h:k<n):newTag tag n t k=tag k:=by simp[newTag,h]
theorem newTag_new {tag:Nat→Nat}{n t k:Nat} (h:n≤k):newTag tag n t k=t:=by simp[newTag];omega
def LsAt (W:World) (v:Value) (n z:Nat) (xs:List Value):Prop:=
 xs.length=n*z∧((n=0∧v=.slice none 0 0)∨∃ g cap,v=.slice (some ⟨g,0,none⟩) n cap∧n≤cap∧g<W.heap.size∧∀ (j:Nat) (x:Value),xs[j]?=some x→W.cell? ⟨g,j,none⟩=some x)
theorem LsAt.of_own {W:World}{B:Nat}{e:TypeId}{z:Nat}{v:Value}{n:Nat}{xs:List Value} (h:W.ownsRow B e z v n xs):LsAt W v n z xs:=by
 refine⟨h.1,?_⟩
 rcases h.2 with ⟨hv,h0⟩ | ⟨g,cap,cur,hv,hb,hg,hn,_⟩
 ·exact .inl ⟨h0,hv⟩
 ·refine .inr ⟨g,cap,hv,hn,(Array.getElem?_eq_some_iff.1 hg).1,fun j x hx=>?_⟩
  have:=h.cells (g:=g) (by rw[hv];rfl) j x hx
  rcases j with _ | j
  ·simpa [Addr.add] using this
  ·simpa [Addr.add] using this
theorem LsAt.nil (W:World) (z:Nat):LsAt W (.slice none 0 0) 0 z []:=⟨by simp,.inl ⟨rfl,rfl⟩⟩
theorem LsAt.blk {W W':World}{v:Value}{n z:Nat}{xs:List Value} (h:LsAt W v n z xs) (hs:W.heap.size≤W'.heap.size) (hb:∀ g,v.ownBlock=some g→g<W.heap.size→W'.heap[g]?=W.heap[g]?):LsAt W' v n z xs:=by
 refine⟨h.1,?_⟩
 rcases h.2 with h' | ⟨g,cap,rfl,hn,hg,hx⟩
 ·exact .inl h'
 ·exact .inr ⟨g,cap,rfl,hn,Nat.lt_of_lt_of_le hg hs,fun j x hj=>(World.cell?_of_block (w:=W) (a:=⟨g,j,none⟩) (hb g rfl hg)).trans (hx j x hj)⟩
theorem LsAt.fr {W W':World}{v:Value}{n z:Nat}{xs:List Value} (h:LsAt W v n z xs) (hf:Fr [] W W'):LsAt W' v n z xs:=h.blk hf.size fun g _ hg=>hf.block g hg (by simp)
theorem LsAt.chg {W W':World}{tag:Nat→Nat}{v:Value}{n z:Nat}{xs:List Value}{S:List Nat}{t:Nat} (h:LsAt W v n z xs) (hv:Tg tag v t) (hc:Chg tag S W W') (ht:t ∉ S):LsAt W' v n z xs:=
 h.blk hc.size fun g hg hl=>hc.block g hl (by rw[hv g hg];exact ht)
theorem LsAt.form {W:World}{v:Value}{n z:Nat}{xs:List Value} (h:LsAt W v n z xs):∃ o cap,v=.slice o n cap:=by
 rcases h.2 with ⟨rfl,hv⟩ | ⟨g,cap,hv,_⟩
 ·exact⟨_,_,hv⟩
 ·exact⟨_,_,hv⟩
theorem LsAt.lt {W:World}{v:Value}{n z:Nat}{xs:List Value} (h:LsAt W v n z xs):∀ g,v.ownBlock=some g→g<W.heap.size:=by
 intro g hg
 rcases h.2 with ⟨rfl,rfl⟩ | ⟨g',cap,rfl,_,hl,_⟩
 ·cases hg
 ·obtain rfl:g'=g:=by simpa [Value.ownBlock] using hg
  exact hl
theorem Tg.re {W:World}{tag tag':Nat→Nat}{v:Value}{t:Nat} (h:Tg tag v t) (hl:∀ g,v.ownBlock=some g→g<W.heap.size) (ht:∀ k,k<W.heap.size→tag k=t→tag' k=t):Tg tag' v t:=fun g hg=>ht g (hl g hg) (h g hg)
def repsZ (n:Nat) (m:List Value):List Value:=(List.replicate n m).flatten
theorem repsZ_len (n:Nat) (m:List Value):(repsZ n m).length=n*m.length:=by
 induction n with
 | zero=>simp[repsZ]
 | succ n ih=>unfold repsZ at ih ⊢;rw[List.replicate_succ,List.flatten_cons,List.length_append,ih,Nat.succ_mul];omega
theorem repsZ_app (n k:Nat) (m:List Value):repsZ n m++repsZ k m=repsZ (n+k) m:=by
 unfold repsZ
 rw[← List.flatten_append,List.replicate_append_replicate]
theorem repsZ_one (m:List Value):repsZ 1 m=m:=by simp[repsZ]
theorem repsZ_take (n k:Nat) (m:List Value) (h:k≤n):(repsZ n m).take (k*m.length)=repsZ k m:=by
 obtain⟨d,rfl⟩:∃ d,n=k+d:=⟨n-k,by omega⟩
 rw[← repsZ_app,List.take_append_of_le_length (by rw[repsZ_len];exact Nat.le_refl _),List.take_of_length_le (by rw[repsZ_len];exact Nat.le_refl _)]
def AllZ (W:World) (v:Value) (m:List Value):Prop:=∃ n,n≤2000∧LsAt W v n m.length (repsZ n m)
structure Bk where
 m:List Value
 l:Value
 g1:Value
 g2:Value
 g3:Value
def Bk.cells (x:Bk):List Value:=x.m++[x.l,x.g1,x.g2,x.g3]
structure BkOk (W:World) (tag:Nat→Nat) (P:List Value→Prop) (x:Bk):Prop where
 isM:P x.m
 l:AllZ W x.l x.m
 g1:AllZ W x.g1 x.m
 g2:AllZ W x.g2 x.m
 g3:AllZ W x.g3 x.m
 tl:Tg tag x.l 8
 t1:Tg tag x.g1 8
 t2:Tg tag x.g2 8
 t3:Tg tag x.g3 8
theorem AllZ.chg {W W':World}{tag:Nat→Nat}{v:Value}{m:List Value}{S:List Nat}{t:Nat} (h:AllZ W v m) (hv:Tg tag v t) (hc:Chg tag S W W') (ht:t ∉ S):AllZ W' v m:=by
 obtain⟨n,h1,h2⟩:=h
 exact⟨n,h1,h2.chg hv hc ht⟩
theorem AllZ.lt {W:World}{v:Value}{m:List Value} (h:AllZ W v m):∀ g,v.ownBlock=some g→g<W.heap.size:=by
 obtain⟨n,h1,h2⟩:=h
 exact h2.lt
theorem BkOk.chg {W W':World}{tag:Nat→Nat}{P:List Value→Prop}{x:Bk}{S:List Nat} (h:BkOk W tag P x) (hc:Chg tag S W W') (ht:8 ∉ S):BkOk W' tag P x:=
 ⟨h.isM,h.l.chg h.tl hc ht,h.g1.chg h.t1 hc ht,h.g2.chg h.t2 hc ht,h.g3.chg h.t3 hc ht,h.tl,h.t1,h.t2,h.t3⟩
theorem BkOk.retag {W:World}{tag tag':Nat→Nat}{P:List Value→Prop}{x:Bk} (h:BkOk W tag P x) (ht:∀ k,k<W.heap.size→tag k=8→tag' k=8):BkOk W tag' P x:=
 ⟨h.isM,h.l,h.g1,h.g2,h.g3,h.tl.re h.l.lt ht,h.t1.re h.g1.lt ht,h.t2.re h.g2.lt ht,h.t3.re h.g3.lt ht⟩
def isR (i:Nat):Prop:=i=3∨i=4∨i=7∨i=8∨i=11∨i=12∨i=13∨i=14
def rtag (i:Nat):Nat:=if i=3 then 1 else if i=4 then 2 else if i=7 then 3 else if i=8 then 9 else if i=11 then 4 else if i=12 then 5 else if i=13 then 10 else 11
def relt (i:Nat):TypeId:=if i=3 then 9 else if i=4 then 3 else if i=7 then 89 else if i=8 then 92 else if i=11 then 27 else if i=12 then 27 else 28
def rwid (i:Nat):Nat:=if i=7 then 5 else if i=8 then 7 else 1
theorem rtag_ne (i:Nat):rtag i≠0∧rtag i≠6∧rtag i≠7∧rtag i≠8∧rtag i<12:=by
 unfold rtag
 repeat' split
 all_goals decide
theorem rtag_inj {i j:Nat} (hi:isR i) (hj:isR j) (h:rtag i=rtag j):i=j:=by
 unfold isR at hi hj
 rcases hi with rfl | rfl | rfl | rfl | rfl | rfl | rfl | rfl <;> rcases hj with rfl | rfl | rfl | rfl | rfl | rfl | rfl | rfl <;> first | rfl | (exfalso;revert h;decide)
theorem isR.lt {i:Nat} (h:isR i):i<15:=by unfold isR at h;omega
def MkT (m:List Value):Prop:=∃ s:ByteArray,m=[.string s]
def MkF (m:List Value):Prop:=∃ (p l:Int) (s:ByteArray),m=[.int .i64 p,.int .i64 l,.string s]
structure ScP (w0 W:World) (b:Nat) (tag:Nat→Nat) (c:Nat→Value) (ms:Value) (bs:ByteArray) (N:Nat→Nat) (X:Nat→List Value) (bk fk:List Bk):Prop where
 core:CorI w0 W b tag c
 n0:c 0=ms
 n1:c 1=.string bs
 n2:c 2=.string ⟨#[]⟩
 n6:c 6=.int .i64 ((bk.length+fk.length:Nat):Int)
 rows:∀ i,isR i→RowT w0.heap.size W tag (rtag i) (relt i) (rwid i) (c i) (N i) (X i)
 k7:N 7=bk.length∧X 7=bk.flatMap Bk.cells
 k8:N 8=fk.length∧X 8=fk.flatMap Bk.cells
 books:∀ x,x ∈ bk→BkOk W tag MkT x
 funcs:∀ x,x ∈ fk→BkOk W tag MkF x
 sz:bs.size≤9223372036854775807
theorem ScP.chg {w0 W W':World}{b:Nat}{tag:Nat→Nat}{c:Nat→Value}{ms:Value}{bs:ByteArray}{N:Nat→Nat}{X:Nat→List Value}{bk fk:List Bk}{S:List Nat} (h:ScP w0 W b tag c ms bs N X bk fk) (hc:Chg tag S W W') (hS:∀ x,x ∈ S→12≤x∨x=6):ScP w0 W' b tag c ms bs N X bk fk:=by
 have hn:∀ x,x<12→x≠6→x ∉ S:=fun x h1 h2 hm=>by rcases hS x hm with h | h <;> omega
 exact⟨h.core.chg hc (hn 0 (by omega) (by omega)) (hn 7 (by omega) (by omega)),h.n0,h.n1,h.n2,h.n6,fun i hi=>(h.rows i hi).chg hc (hn _ (rtag_ne i).2.2.2.2 (rtag_ne i).2.1),h.k7,h.k8,
  fun x hx=>(h.books x hx).chg hc (hn 8 (by omega) (by omega)),fun x hx=>(h.funcs x hx).chg hc (hn 8 (by omega) (by omega)),h.sz⟩
theorem ScP.frm {w0 W W':World}{b:Nat}{tag:Nat→Nat}{c:Nat→Value}{ms:Value}{bs:ByteArray}{N:Nat→Nat}{X:Nat→List Value}{bk fk:List Bk} (h:ScP w0 W b tag c ms bs N X bk fk) (hf:Fr [] W W'):ScP w0 W' b tag c ms bs N X bk fk:=
 h.chg (S:=[]) (Chg.of_fr hf) (by simp)
theorem ScP.retag {w0 W:World}{b:Nat}{tag tag':Nat→Nat}{c:Nat→Value}{ms:Value}{bs:ByteArray}{N:Nat→Nat}{X:Nat→List Value}{bk fk:List Bk} (h:ScP w0 W b tag c ms bs N X bk fk) (ht:∀ k,k<W.heap.size→tag k<12→tag k≠6→tag' k=tag k):ScP w0 W b tag' c ms bs N X bk fk:=by
 have hr:∀ t,t<12→t≠6→∀ k,k<W.heap.size→tag k=t→tag' k=t:=fun t h1 h3 k hk h2=>by rw[ht k hk (by omega) (by omega)];exact h2
 exact⟨h.core.retag (fun k hk h1=>ht k hk (by omega) (by omega)),h.n0,h.n1,h.n2,h.n6,fun i hi=>(h.rows i hi).retag (hr _ (rtag_ne i).2.2.2.2 (rtag_ne i).2.1),h.k7,h.k8,
  fun x hx=>(h.books x hx).retag (hr 8 (by omega) (by omega)),fun x hx=>(h.funcs x hx).retag (hr 8 (by omega) (by omega)),h.sz⟩
structure WtOk (B:Nat) (W:World) (tag:Nat→Nat) (t:Nat) (e:TypeId) (z:Nat) (v u:Value) (n:Nat) (xs:List Value):Prop where
 own:RowT B W tag t e z v n xs
 were:LsAt W u n z xs
 tu:Tg tag u 8
 len:n≤1000
theorem WtOk.step {B:Nat}{W W':World}{tag tag':Nat→Nat}{t:Nat}{e:TypeId}{z:Nat}{v u:Value}{n:Nat}{xs:List Value}{S:List Nat} (h:WtOk B W tag t e z v u n xs) (hc:Chg tag S W W') (ht:t ∉ S) (h8:8 ∉ S) (hr:∀ k,k<W.heap.size→tag k=t∨tag k=8→tag' k=tag k):WtOk B W' tag' t e z v u n xs:=
 ⟨⟨(h.own.chg hc ht).own,h.own.tg.re (fun g hg=>(h.own.own.lt g hg).2) (fun k hk e=>by rw[hr k hk (.inl e)];exact e)⟩,h.were.chg h.tu hc h8,h.tu.re h.were.lt (fun k hk e=>by rw[hr k hk (.inr e)];exact e),h.len⟩
structure Wts (B:Nat) (W:World) (tag:Nat→Nat) (q:Nat) (e:TypeId) (z:Nat) (Q:Nat→List Value→Prop) (wl el:List Value) (d:Nat):Prop where
 len:wl.length=el.length
 at_:∀ i v u,d≤i→wl[i]?=some v→el[i]?=some u→∃ n xs,WtOk B W tag (q+2*i) e z v u n xs∧Q n xs
theorem Wts.step {B:Nat}{W W':World}{tag tag':Nat→Nat}{q:Nat}{e:TypeId}{z:Nat}{Q:Nat→List Value→Prop}{wl el:List Value}{d d':Nat}{S:List Nat} (h:Wts B W tag q e z Q wl el d) (hd:d≤d') (hc:Chg tag S W W') (h8:8 ∉ S) (hS:∀ i,d'≤i→q+2*i ∉ S) (hr:∀ k,k<W.heap.size→tag k=8∨(∃ i,d'≤i∧tag k=q+2*i)→tag' k=tag k):Wts B W' tag' q e z Q wl el d':=
 ⟨h.len,fun i v u hi h1 h2=>by
  obtain⟨n,xs,hL,hQ⟩:=h.at_ i v u (by omega) h1 h2
  exact⟨n,xs,hL.step hc (hS i hi) h8 (fun k hk e=>hr k hk (by rcases e with e | e;exact .inr ⟨i,hi,e⟩;exact .inl e)),hQ⟩⟩
end Go.Proofs.YtclkgoigmgkffaaGreatDoor
