/-
  Texts Ba Va Vb Vc Ve Vf Ma.
-/
import Derived.RangeFuncWrites
import Derived.WalkSmall
import Derived.Deep.Draws
import Derived.Shelf.Spec.TrailingZeros
import Derived.PlainAid
import Derived.Test.YtclkgoigmgkffaaGreatDoorRows
import Derived.WalkKit
import Derived.WalkSpells
import Derived.WalkLawsBesides
import Derived.BigQuiet
import Derived.Deep.QuietTactic
set_option linter.unusedSimpArgs false
set_option linter.unusedVariables false
set_option maxRecDepth 100000
set_option maxHeartbeats 40000000
namespace Go.Proofs.YtclkgoigmgkffaaGreatDoor
open Go.RowKit
def Tab (w:World):Prop:=TabAt 6 Lib.deBruijn64tab w
structure Fr (S:List Nat) (w w':World):Prop where
 os:w'.os=w.os
 tape:w'.tape=w.tape
 output:w'.output=w.output
 size:w.heap.size≤w'.heap.size
 block:∀ k,k<w.heap.size→k ∉ S→w'.heap[k]?=w.heap[k]?
theorem Fr.refl (S:List Nat) (w:World):Fr S w w:=⟨rfl,rfl,rfl,Nat.le_refl _,fun _ _ _=>rfl⟩
theorem Fr.trans {S:List Nat}{a b c:World} (h:Fr S a b) (k:Fr S b c):Fr S a c:=
 ⟨k.os.trans h.os,k.tape.trans h.tape,k.output.trans h.output,Nat.le_trans h.size k.size,fun i hi hn=>(k.block i (Nat.lt_of_lt_of_le hi h.size) hn).trans (h.block i hi hn)⟩
theorem Fr.mono {S S':List Nat}{a b:World} (h:Fr S a b) (hs:∀ x,x ∈ S→x ∈ S'):Fr S' a b:=
 ⟨h.os,h.tape,h.output,h.size,fun i hi hn=>h.block i hi (fun hx=>hn (hs i hx))⟩
theorem Fr.trans' {S S':List Nat}{a b c:World} (h:Fr S a b) (k:Fr S' b c) (hs:∀ x,x ∈ S'→x ∈ S∨a.heap.size≤x):Fr S a c:=
 ⟨k.os.trans h.os,k.tape.trans h.tape,k.output.trans h.output,Nat.le_trans h.size k.size,fun i hi hn=>
  (k.block i (Nat.lt_of_lt_of_le hi h.size) (fun hx=>(hs i hx).elim hn (fun h'=>by omega))).trans (h.block i hi hn)⟩
theorem Fr.drew {S:List Nat}{a w:World} (h:Fr S a w):Fr S a w.drew:=⟨h.os,h.tape,h.output,h.size,h.block⟩
theorem Fr.drewN {S:List Nat}{a w:World} (h:Fr S a w) (n:Nat):Fr S a (w.drewN n):=⟨h.os,h.tape,h.output,h.size,h.block⟩
theorem Fr.alloc {S:List Nat}{a w:World} (h:Fr S a w) (o:Obj):Fr S a (w.alloc o):=
 h.trans ⟨rfl,rfl,rfl,by simp,fun k hk _=>Below.heap_alloc _ _ _ hk⟩
theorem Fr.setCell {S:List Nat}{a w:World} (h:Fr S a w) {p:Addr} (hp:p.block ∈ S∨a.heap.size≤p.block) (u:Value):Fr S a (w.setCell p u):=
 ⟨h.os,h.tape,h.output,by simpa [World.setCell] using h.size,fun k hk hn=>(Below.heap_setCell _ _ _ _ (by rintro rfl;exact hp.elim hn (fun h'=>by omega))).trans (h.block k hk hn)⟩
theorem Fr.cell {S:List Nat}{w w':World} (h:Fr S w w') {p:Addr} (hp:p.block<w.heap.size) (hn:p.block ∉ S):w'.cell? p=w.cell? p:=World.cell?_of_block (w:=w) (h.block p.block hp hn)
theorem Fr.frozen {S:List Nat}{w w':World} (h:Fr S w w') {p:Addr} (hp:p.block<w.heap.size) (hn:p.block ∉ S):w'.frozen? p=w.frozen? p:=World.frozen?_of_block (w:=w) (h.block p.block hp hn)
theorem Fr.of_below {w w':World} (h:Below w.heap.size w w'):Fr [] w w':=⟨h.os,h.tape,h.output,h.size,fun k hk _=>h.block k hk⟩
theorem Fr.below {S:List Nat}{w w':World} (h:Fr S w w') {B:Nat} (hB:B≤w.heap.size) (hs:∀ x,x ∈ S→B≤x):Below B w w':=
 ⟨h.os,h.tape,h.output,h.size,fun k hk=>h.block k (by omega) (fun hx=>by have:=hs k hx;omega)⟩
theorem setCell_off {w:World}{b i j:Nat}{v:Value} (h:i≠j):(w.setCell ⟨b,i,none⟩ v).cell? ⟨b,j,none⟩=w.cell? ⟨b,j,none⟩:=World.cell?_setCell_other _ _ _ _ (by simp[h])
theorem setCell_far {w:World}{b c i j:Nat}{v:Value} (h:b≠c):(w.setCell ⟨b,i,none⟩ v).cell? ⟨c,j,none⟩=w.cell? ⟨c,j,none⟩:=World.cell?_setCell_other _ _ _ _ (by simp[h])
theorem lt_of_cell {w:World}{a:Addr}{v:Value} (h:w.cell? a=some v):a.block<w.heap.size:=by
 apply Nat.lt_of_not_le
 intro hle
 unfold World.cell? at h
 rw[Array.getElem?_eq_none hle] at h
 simp at h
theorem cell_new (W:World) (v:Value) (t:TypeId):(W.alloc (.cells #[v] t)).cell? ⟨W.heap.size,0,none⟩=some v:=by
 have h:=World.alloc_heap_new W (.cells #[v] t)
 unfold World.cell?;rw[h];rfl
theorem block_kept {W W':World}{row:Option Nat}{a:Addr}{v:Value} (h:W.cell? a=some v) (hg:W.grownBy W' row)
  (hr:∀ r,row=some r→∃ o:Obj,W.heap[r]?=some o∧o.isCells=false):W'.heap[a.block]?=W.heap[a.block]?:=by
 refine hg.block a.block (lt_of_cell h) ?_
 intro e
 obtain⟨o,ho,hc⟩:=hr a.block e.symm
 unfold World.cell? at h
 rw[ho] at h
 cases o <;> simp_all [Obj.isCells]
theorem Tab.lt {w:World} (h:Tab w):6<w.heap.size:=lt_of_cell (a:=⟨6,0,none⟩) (h 0 (by decide))
theorem Tab.of_block {w w':World} (h:Tab w) (hb:w'.heap[6]?=w.heap[6]?):Tab w':=fun j hj=>(World.cell?_of_block (w:=w) (a:=⟨6,j,none⟩) hb).trans (h j hj)
theorem Tab.fr {S:List Nat}{w w':World} (h:Tab w) (hf:Fr S w w') (h0:6 ∉ S):Tab w':=h.of_block (hf.block 6 h.lt h0)
structure PatAt (w:World) (pb:Nat) (wh:Nat→Value) (tk:Nat→Nat) (fo:Nat→Nat→Nat):Prop where
 hw:∀ i,i<12→w.cell? ⟨pb,i,none⟩=some (wh i)
 ht:∀ b,b<256→w.cell? ⟨pb,12+b,none⟩=some (.int .u64 (tk b))
 hf:∀ s a,s<4→a<50→w.cell? ⟨pb,268+s*50+a,none⟩=some (.int .u64 (fo s a))
 fz:∀ i,i<468→w.frozen? ⟨pb,i,none⟩=false
theorem PatAt.lt {w:World}{pb:Nat}{wh:Nat→Value}{tk:Nat→Nat}{fo:Nat→Nat→Nat} (h:PatAt w pb wh tk fo):pb<w.heap.size:=lt_of_cell (a:=⟨pb,12,none⟩) (h.ht 0 (by decide))
theorem PatAt.of_block {w w':World}{pb:Nat}{wh:Nat→Value}{tk:Nat→Nat}{fo:Nat→Nat→Nat} (h:PatAt w pb wh tk fo) (hb:w'.heap[pb]?=w.heap[pb]?):PatAt w' pb wh tk fo:=
 ⟨fun i hi=>(World.cell?_of_block (w:=w) (a:=⟨pb,i,none⟩) hb).trans (h.hw i hi),fun b hb'=>(World.cell?_of_block (w:=w) (a:=⟨pb,12+b,none⟩) hb).trans (h.ht b hb'),
   fun s a hs ha=>(World.cell?_of_block (w:=w) (a:=⟨pb,268+s*50+a,none⟩) hb).trans (h.hf s a hs ha),fun i hi=>(World.frozen?_of_block (w:=w) (a:=⟨pb,i,none⟩) hb).trans (h.fz i hi)⟩
theorem PatAt.fr {S:List Nat}{w w':World}{pb:Nat}{wh:Nat→Value}{tk:Nat→Nat}{fo:Nat→Nat→Nat} (h:PatAt w pb wh tk fo) (hf:Fr S w w') (h0:pb ∉ S):PatAt w' pb wh tk fo:=h.of_block (hf.block pb h.lt h0)
theorem PatAt.congr {w:World}{pb:Nat}{wh:Nat→Value}{tk tk':Nat→Nat}{fo fo':Nat→Nat→Nat} (h:PatAt w pb wh tk fo) (ht:∀ b,b<256→tk b=tk' b) (hf:∀ s a,s<4→a<50→fo s a=fo' s a):PatAt w pb wh tk' fo':=
 ⟨h.hw,fun b hb=>by rw[← ht b hb];exact h.ht b hb,fun s a hs ha=>by rw[← hf s a hs ha];exact h.hf s a hs ha,h.fz⟩
theorem PatAt.setFollow {w:World}{pb:Nat}{wh:Nat→Value}{tk:Nat→Nat}{fo:Nat→Nat→Nat} (h:PatAt w pb wh tk fo) (s a:Nat) (hs:s<4) (ha:a<50) (v:Nat) :
  PatAt (w.setCell ⟨pb,268+s*50+a,none⟩ (.int .u64 v)) pb wh tk (fun s' a'=>if s'=s∧a'=a then v else fo s' a'):=by
 refine⟨fun i hi=>?_,fun b hb=>?_,fun s' a' hs' ha'=>?_,fun i hi=>?_⟩
 ·exact (setCell_off (by omega)).trans (h.hw i hi)
 ·exact (setCell_off (by omega)).trans (h.ht b hb)
 ·by_cases e:s'=s∧a'=a
  ·obtain⟨rfl,rfl⟩:=e
   rw[if_pos ⟨rfl,rfl⟩]
   exact World.cell?_setCell_same' _ _ _ (by rw[h.hf s' a' hs ha];rfl)
  ·rw[if_neg e];exact (setCell_off (by omega)).trans (h.hf s' a' hs' ha')
 ·rw[World.frozen?_setCell];exact h.fz i hi
namespace Wire
def digsF:Nat→Nat→List UInt8
 | 0,_=>[]
 | f+1,n=>if n<128 then [UInt8.ofNat n] else UInt8.ofNat (128+n % 128) :: digsF f (n / 128)
def digs (n:Nat):List UInt8:=digsF 10 n
theorem digsF_fuel (f g n:Nat) (hf:n<128 ^ f) (hg:n<128 ^ g) (h0:0<f) (h1:0<g):digsF f n=digsF g n:=by
 induction f generalizing g n with
 | zero=>omega
 | succ f ih=>
  cases g with
  | zero=>omega
  | succ g=>
   simp only[digsF]
   by_cases h:n<128
   ·simp only[if_pos h]
   ·simp only[if_neg h]
    congr 1
    have a:n / 128<128 ^ f:=by rw[Nat.pow_succ] at hf;omega
    have b:n / 128<128 ^ g:=by rw[Nat.pow_succ] at hg;omega
    refine ih g _ a b ?_ ?_
    ·cases f with
     | zero=>simp at a;omega
     | succ f=>omega
    ·cases g with
     | zero=>simp at b;omega
     | succ g=>omega
theorem digs_lt {n:Nat} (h:n<128):digs n=[UInt8.ofNat n]:=by simp only[digs,digsF,if_pos h]
theorem digs_ge {n:Nat} (h:128≤n) (hb:n<128 ^ 9):digs n=UInt8.ofNat (128+n % 128) :: digs (n / 128):=by
 unfold digs
 rw[digsF,if_neg (by omega)]
 congr 1
 have e:(128:Nat) ^ 9=9223372036854775808:=by decide
 exact digsF_fuel 9 10 _ (by omega) (by
  have:(128:Nat) ^ 10=1180591620717411303424:=by decide
  omega) (by omega) (by omega)
def numF:Nat→Bool→List UInt8→Option (Nat × List UInt8)
 | 0,_,_=>none
 | _+1,_,[]=>none
 | f+1,first,c :: r=>
  if c.toNat<128 then (if c.toNat=0∧first=false then none else some (c.toNat,r))
  else (numF f false r).map fun p=>(c.toNat-128+128*p.1,p.2)
def num (l:List UInt8):Option (Nat × List UInt8):=numF 5 true l
theorem numF_digsF (f:Nat) (first:Bool) (n:Nat) (r:List UInt8) (h0:0<f) (h:n<128 ^ f) (hz:first=false→n≠0):numF f first (digsF f n++r)=some (n,r):=by
 induction f generalizing first n with
 | zero=>omega
 | succ f ih=>
  rw[digsF]
  by_cases hn:n<128
  ·rw[if_pos hn]
   have e:(UInt8.ofNat n).toNat=n:=by simp[UInt8.toNat_ofNat];omega
   simp only[List.cons_append,List.nil_append,numF,e,if_pos hn]
   rw[if_neg]
   rintro ⟨a,b⟩
   exact hz b a
  ·rw[if_neg hn]
   have e:(UInt8.ofNat (128+n % 128)).toNat=128+n % 128:=by simp[UInt8.toNat_ofNat];omega
   have a:n / 128<128 ^ f:=by rw[Nat.pow_succ] at h;omega
   have a0:0<f:=by
    cases f with
    | zero=>simp at a;omega
    | succ f=>omega
   simp only[List.cons_append,numF,e]
   rw[if_neg (by omega),ih false (n / 128) a0 a (by omega)]
   simp only[Option.map_some]
   congr 2
   omega
theorem numF_some (f:Nat) (first:Bool) (l:List UInt8) (n:Nat) (r:List UInt8) (h:numF f first l=some (n,r)) :
  l=digsF f n++r∧n<128 ^ f∧(first=false→n≠0)∧0<f:=by
 induction f generalizing first l n r with
 | zero=>simp[numF] at h
 | succ f ih=>
  cases l with
  | nil=>simp[numF] at h
  | cons c t=>
   rw[numF] at h
   by_cases hc:c.toNat<128
   ·rw[if_pos hc] at h
    by_cases hz:c.toNat=0∧first=false
    ·rw[if_pos hz] at h;simp at h
    ·rw[if_neg hz] at h
     simp only[Option.some.injEq,Prod.mk.injEq] at h
     obtain⟨rfl,rfl⟩:=h
     refine⟨?_,?_,?_,by omega⟩
     ·rw[digsF,if_pos hc]
      simp
     ·have:0<128 ^ f:=Nat.pow_pos (by omega)
      rw[Nat.pow_succ];omega
     ·intro hf h0;exact hz ⟨h0,hf⟩
   ·rw[if_neg hc] at h
    cases hr:numF f false t with
    | none=>rw[hr] at h;simp at h
    | some p=>
     obtain⟨m,s⟩:=p
     rw[hr] at h
     simp only[Option.map_some,Option.some.injEq,Prod.mk.injEq] at h
     obtain⟨rfl,rfl⟩:=h
     obtain⟨a,b,d,e⟩:=ih false t m s hr
     have hm:=d rfl
     have hc2:c.toNat<256:=c.toNat_lt
     refine⟨?_,?_,?_,by omega⟩
     ·rw[digsF,if_neg (by omega)]
      have e1:(c.toNat-128+128*m) % 128=c.toNat-128:=by omega
      have e2:(c.toNat-128+128*m) / 128=m:=by omega
      rw[e1,e2,show 128+(c.toNat-128)=c.toNat by omega,a]
      simp
     ·rw[Nat.pow_succ];omega
     ·intro _;omega
theorem pow5:(128:Nat) ^ 5=34359738368:=by decide
theorem pow9:(128:Nat) ^ 9=9223372036854775808:=by decide
theorem pow10:(128:Nat) ^ 10=1180591620717411303424:=by decide
theorem num_digs {n:Nat} (h:n<34359738368) (r:List UInt8):num (digs n++r)=some (n,r):=by
 have h5:=pow5
 have h10:=pow10
 unfold num digs
 rw[digsF_fuel 10 5 n (by omega) (by omega) (by omega) (by omega)]
 exact numF_digsF 5 true n r (by omega) (by omega) (by simp)
theorem num_some {l:List UInt8}{n:Nat}{r:List UInt8} (h:num l=some (n,r)):l=digs n++r∧n<34359738368:=by
 have h5:=pow5
 have h10:=pow10
 obtain⟨a,b,-,-⟩:=numF_some 5 true l n r h
 refine⟨?_,by omega⟩
 unfold digs
 rw[digsF_fuel 10 5 n (by omega) (by omega) (by omega) (by omega)]
 exact a
def sumStep (s:Nat) (c:UInt8):Nat:=(257*s+c.toNat+1) % 1000003
def sumFrom (s:Nat) (l:List UInt8):Nat:=l.foldl sumStep s
def sumN (l:List UInt8):Nat:=sumFrom 1 l
def sum3 (l:List UInt8):List UInt8:=[UInt8.ofNat (sumN l % 256),UInt8.ofNat (sumN l / 256 % 256),UInt8.ofNat (sumN l / 65536)]
theorem sumStep_lt (s:Nat) (c:UInt8):sumStep s c<1000003:=Nat.mod_lt _ (by omega)
theorem sumFrom_lt (s:Nat) (h:s<1000003) (l:List UInt8):sumFrom s l<1000003:=by
 induction l generalizing s with
 | nil=>exact h
 | cons c t ih=>exact ih _ (sumStep_lt s c)
theorem sumN_lt (l:List UInt8):sumN l<1000003:=sumFrom_lt 1 (by omega) l
theorem sum3_inj {a b:List UInt8} (h:sum3 a=sum3 b):sumN a=sumN b:=by
 have ha:=sumN_lt a
 have hb:=sumN_lt b
 unfold sum3 at h
 generalize sumN a=x at *
 generalize sumN b=y at *
 simp only[List.cons.injEq,and_true] at h
 obtain⟨h1,h2,h3⟩:=h
 have e1:=congrArg UInt8.toNat h1
 have e2:=congrArg UInt8.toNat h2
 have e3:=congrArg UInt8.toNat h3
 simp only[UInt8.toNat_ofNat',Nat.reducePow] at e1 e2 e3
 omega
theorem sum3_length (l:List UInt8):(sum3 l).length=3:=rfl
end Wire
namespace Wire
structure Fn where
 params:Int
 locs:Int
 code:ByteArray
structure Mo where
 texts:List ByteArray
 pats:List ByteArray
 globs:Int
 arrs:Int
 fns:List Fn
def bl (s:ByteArray):List UInt8:=s.data.toList
theorem bl_length (s:ByteArray):(bl s).length=s.size:=by
 show s.data.toList.length=s.data.size
 exact Array.length_toList
theorem bl_mk (l:List UInt8):bl ⟨l.toArray⟩=l:=by simp[bl]
theorem mk_bl (s:ByteArray):(⟨(bl s).toArray⟩:ByteArray)=s:=by simp[bl]
theorem mk_size (l:List UInt8):(⟨l.toArray⟩:ByteArray).size=l.length:=by simp[ByteArray.size]
theorem bl_inj {s t:ByteArray} (h:bl s=bl t):s=t:=by rw[← mk_bl s,← mk_bl t,h]
def textB (s:ByteArray):List UInt8:=digs s.size++bl s
def textsB (l:List ByteArray):List UInt8:=l.flatMap textB
def listing (l:List ByteArray):List UInt8:=digs l.length++textsB l
def fnB (f:Fn):List UInt8:=digs f.params.toNat++(digs f.locs.toNat++textB f.code)
def fnsB (l:List Fn):List UInt8:=l.flatMap fnB
def fnsL (l:List Fn):List UInt8:=digs l.length++fnsB l
def sect (k:Nat) (c:List UInt8):List UInt8:=UInt8.ofNat k :: (digs c.length++c)
def body (m:Mo):List UInt8:=
 71 :: 76 :: 1 :: (sect 1 (listing m.texts)++(sect 2 (listing m.pats)++(sect 3 (digs m.globs.toNat)++(sect 4 (digs m.arrs.toNat)++sect 5 (fnsL m.fns)))))
def written (m:Mo):List UInt8:=body m++sum3 (body m)
def lawful (f:Fn) (i:Nat):Bool:=
 decide (0≤f.params) && decide (f.params≤8) && decide (f.params≤f.locs) && decide (f.locs≤16) && decide (f.code.size≤20000) && (decide (2<i) || decide (f.params=0))
def lawfulAll:List Fn→Nat→Bool
 | [],_=>true
 | f :: r,i=>lawful f i && lawfulAll r (i+1)
def within (ip:ByteArray→Bool) (m:Mo):Bool:=
 decide (m.texts.length≤1000) && decide (m.pats.length≤1000) && decide (3≤m.fns.length) && decide (m.fns.length≤1000) &&
 decide (0≤m.globs) && decide (m.globs≤1000) && decide (0≤m.arrs) && decide (m.arrs≤1000) &&
 m.texts.all (fun s=>decide (s.size≤100)) && m.pats.all (fun s=>decide (s.size≤50) && ip s) && lawfulAll m.fns 0
def bnd {α β:Type} (x:(Nat × Nat) ⊕ α) (f:α→(Nat × Nat) ⊕ β):(Nat × Nat) ⊕ β:=
 match x with
 | .inl e=>.inl e
 | .inr a=>f a
def numberR (least most base:Nat) (c:List UInt8):(Nat × Nat) ⊕ (Nat × List UInt8):=
 match num c with
 | none=>.inl (6,base-c.length)
 | some (n,r)=>if n<least∨most<n then .inl (4,base-c.length) else .inr (n,r)
def bytesR (most base:Nat) (c:List UInt8):(Nat × Nat) ⊕ (ByteArray × List UInt8):=
 bnd (numberR 0 most base c) fun p=>if p.2.length<p.1 then .inl (7,base-c.length) else .inr (⟨(p.2.take p.1).toArray⟩,p.2.drop p.1)
def textsR (ip:ByteArray→Bool) (most base:Nat):Nat→List UInt8→(Nat × Nat) ⊕ (List ByteArray × List UInt8)
 | 0,c=>.inr ([],c)
 | k+1,c=>bnd (bytesR most base c) fun p=>
   if ip p.1=true then bnd (textsR ip most base k p.2) fun q=>.inr (p.1 :: q.1,q.2)
   else .inl (2,base-p.2.length-p.1.size)
def fnR (i base:Nat) (c:List UInt8):(Nat × Nat) ⊕ (Fn × List UInt8):=
 bnd (numberR 0 (if i<3 then 0 else 8) base c) fun p=>
 bnd (numberR p.1 16 base p.2) fun q=>
 bnd (bytesR 20000 base q.2) fun s=>.inr (⟨(p.1:Int),(q.1:Int),s.1⟩,s.2)
def fnsR (base:Nat):Nat→Nat→List UInt8→(Nat × Nat) ⊕ (List Fn × List UInt8)
 | 0,_,c=>.inr ([],c)
 | k+1,i,c=>bnd (fnR i base c) fun p=>bnd (fnsR base k (i+1) p.2) fun q=>.inr (p.1 :: q.1,q.2)
def openR (k base:Nat) (l:List UInt8):(Nat × Nat) ⊕ (List UInt8 × List UInt8):=
 match l with
 | []=>.inl (7,base)
 | c :: t=>if c.toNat≠k then .inl (7,base-l.length) else
  match num t with
  | none=>.inl (6,base-t.length)
  | some (n,u)=>if u.length<n then .inl (7,base-t.length) else .inr (u.take n,u.drop n)
def shutR {α:Type} (base:Nat) (p:α × List UInt8):(Nat × Nat) ⊕ α:=
 if p.2=[] then .inr p.1 else .inl (7,base-p.2.length)
def sectR {α:Type} (k base:Nat) (f:Nat→List UInt8→(Nat × Nat) ⊕ (α × List UInt8)) (l:List UInt8):(Nat × Nat) ⊕ (α × List UInt8):=
 bnd (openR k base l) fun p=>bnd (f (base-p.2.length) p.1) fun q=>bnd (shutR (base-p.2.length) q) fun a=>.inr (a,p.2)
def headR (l:List UInt8):(Nat × Nat) ⊕ List UInt8:=
 match l with
 | []=>.inl (5,0)
 | a :: t=>if a≠71 then .inl (5,0) else
  match t with
  | []=>.inl (5,1)
  | b :: u=>if b≠76 then .inl (5,1) else
   match u with
   | []=>.inl (5,2)
   | c :: v=>if c≠1 then .inl (5,2) else .inr v
def listR (ip:ByteArray→Bool) (most base:Nat) (c:List UInt8):(Nat × Nat) ⊕ (List ByteArray × List UInt8):=
 bnd (numberR 0 1000 base c) fun p=>textsR ip most base p.1 p.2
def fnListR (base:Nat) (c:List UInt8):(Nat × Nat) ⊕ (List Fn × List UInt8):=
 bnd (numberR 3 1000 base c) fun p=>fnsR base p.1 0 p.2
def unpackR (ip:ByteArray→Bool) (l:List UInt8):(Nat × Nat) ⊕ Mo:=
 bnd (headR l) fun l0=>
 bnd (sectR 1 l.length (listR (fun _=>true) 100) l0) fun a=>
 bnd (sectR 2 l.length (listR ip 50) a.2) fun b=>
 bnd (sectR 3 l.length (numberR 0 1000) b.2) fun c=>
 bnd (sectR 4 l.length (numberR 0 1000) c.2) fun d=>
 bnd (sectR 5 l.length fnListR d.2) fun e=>
 if e.2=sum3 (l.take (l.length-e.2.length)) then .inr ⟨a.1,b.1,(c.1:Int),(d.1:Int),e.1⟩ else .inl (8,l.length-e.2.length)
def unpack (ip:ByteArray→Bool) (l:List UInt8):(Nat × Nat) ⊕ Mo:=
 if 40000<l.length then .inl (1,0) else unpackR ip l
theorem bnd_inr {α β:Type}{x:(Nat × Nat) ⊕ α}{f:α→(Nat × Nat) ⊕ β}{b:β} (h:bnd x f=.inr b):∃ a,x=.inr a∧f a=.inr b:=by
 cases x with
 | inl e=>simp[bnd] at h
 | inr a=>exact⟨a,rfl,h⟩
theorem numberR_inr {least most base:Nat}{c:List UInt8}{n:Nat}{r:List UInt8} (h:numberR least most base c=.inr (n,r)) :
  c=digs n++r∧least≤n∧n≤most:=by
 unfold numberR at h
 split at h
 ·cases h
 ·rename_i n' r' hn
  split at h
  ·cases h
  ·simp only[Sum.inr.injEq,Prod.mk.injEq] at h
   obtain⟨rfl,rfl⟩:=h
   exact⟨(num_some hn).1,by omega,by omega⟩
theorem bytesR_inr {most base:Nat}{c:List UInt8}{s:ByteArray}{r:List UInt8} (h:bytesR most base c=.inr (s,r)) :
  c=textB s++r∧s.size≤most:=by
 obtain⟨⟨n,u⟩,h1,h2⟩:=bnd_inr h
 obtain⟨e,-,hm⟩:=numberR_inr h1
 simp only at h2
 split at h2
 ·cases h2
 ·rename_i hl
  simp only[Sum.inr.injEq,Prod.mk.injEq] at h2
  obtain⟨rfl,rfl⟩:=h2
  have hs:(⟨(u.take n).toArray⟩:ByteArray).size=n:=by rw[mk_size,List.length_take];omega
  refine⟨?_,by omega⟩
  unfold textB
  rw[hs,bl_mk,List.append_assoc,List.take_append_drop]
  exact e
theorem textsR_inr {ip:ByteArray→Bool}{most base:Nat} (k:Nat) {c:List UInt8}{l:List ByteArray}{r:List UInt8} (h:textsR ip most base k c=.inr (l,r)) :
  c=textsB l++r∧l.length=k∧∀ s ∈ l,s.size≤most∧ip s=true:=by
 induction k generalizing c l r with
 | zero=>
  simp only[textsR,Sum.inr.injEq,Prod.mk.injEq] at h
  obtain⟨rfl,rfl⟩:=h
  exact⟨rfl,rfl,by simp⟩
 | succ k ih=>
  rw[textsR] at h
  obtain⟨⟨s,u⟩,h1,h2⟩:=bnd_inr h
  obtain⟨e,hm⟩:=bytesR_inr h1
  simp only at h2
  split at h2
  ·rename_i hi
   obtain⟨⟨q,v⟩,h3,h4⟩:=bnd_inr h2
   simp only[Sum.inr.injEq,Prod.mk.injEq] at h4
   obtain⟨rfl,rfl⟩:=h4
   obtain⟨e2,hl,hall⟩:=ih h3
   refine⟨?_,by simp[hl],?_⟩
   ·rw[e,e2]
    simp[textsB]
   ·intro x hx
    cases List.mem_cons.1 hx with
    | inl hx=>subst hx;exact⟨hm,hi⟩
    | inr hx=>exact hall x hx
  ·cases h2
theorem fnR_inr {i base:Nat}{c:List UInt8}{f:Fn}{r:List UInt8} (h:fnR i base c=.inr (f,r)):c=fnB f++r∧lawful f i=true:=by
 obtain⟨⟨p,c1⟩,h1,h2⟩:=bnd_inr h
 obtain⟨⟨q,c2⟩,h3,h4⟩:=bnd_inr h2
 obtain⟨⟨s,c3⟩,h5,h6⟩:=bnd_inr h4
 simp only[Sum.inr.injEq,Prod.mk.injEq] at h6
 obtain⟨rfl,rfl⟩:=h6
 obtain⟨e1,-,b1⟩:=numberR_inr h1
 obtain⟨e2,a2,b2⟩:=numberR_inr h3
 obtain⟨e3,b3⟩:=bytesR_inr h5
 simp only at e2 a2 e3
 refine⟨?_,?_⟩
 ·rw[e1,e2,e3]
  simp[fnB]
 ·unfold lawful
  simp only[Bool.and_eq_true,Bool.or_eq_true,decide_eq_true_eq]
  by_cases hi:i<3
  ·rw[if_pos hi] at b1
   exact⟨⟨⟨⟨⟨by omega,by omega⟩,by omega⟩,by omega⟩,by omega⟩,Or.inr (by omega)⟩
  ·rw[if_neg hi] at b1
   exact⟨⟨⟨⟨⟨by omega,by omega⟩,by omega⟩,by omega⟩,by omega⟩,Or.inl (by omega)⟩
theorem fnsR_inr {base:Nat} (k i:Nat) {c:List UInt8}{l:List Fn}{r:List UInt8} (h:fnsR base k i c=.inr (l,r)) :
  c=fnsB l++r∧l.length=k∧lawfulAll l i=true:=by
 induction k generalizing i c l r with
 | zero=>
  simp only[fnsR,Sum.inr.injEq,Prod.mk.injEq] at h
  obtain⟨rfl,rfl⟩:=h
  exact⟨rfl,rfl,rfl⟩
 | succ k ih=>
  rw[fnsR] at h
  obtain⟨⟨s,u⟩,h1,h2⟩:=bnd_inr h
  obtain⟨e,hm⟩:=fnR_inr h1
  obtain⟨⟨q,v⟩,h3,h4⟩:=bnd_inr h2
  simp only[Sum.inr.injEq,Prod.mk.injEq] at h4
  obtain⟨rfl,rfl⟩:=h4
  obtain⟨e2,hl,hall⟩:=ih _ h3
  simp only at e2
  refine⟨?_,by simp[hl],?_⟩
  ·rw[e,e2]
   simp[fnsB]
  ·simp[lawfulAll,hm,hall]
theorem sectR_inr {α:Type}{k base:Nat}{f:Nat→List UInt8→(Nat × Nat) ⊕ (α × List UInt8)}{l:List UInt8}{a:α}{r:List UInt8} (hk:k<256) (h:sectR k base f l=.inr (a,r)) :
  ∃ c,l=sect k c++r∧f (base-r.length) c=.inr (a,[]):=by
 obtain⟨⟨c,u⟩,h1,h2⟩:=bnd_inr h
 obtain⟨⟨q,v⟩,h3,h4⟩:=bnd_inr h2
 obtain⟨x,h5,h6⟩:=bnd_inr h4
 simp only[Sum.inr.injEq,Prod.mk.injEq] at h6
 obtain⟨rfl,rfl⟩:=h6
 unfold shutR at h5
 split at h5
 ·rename_i hv
  simp only[Sum.inr.injEq] at h5 hv
  subst h5 hv
  refine⟨c,?_,h3⟩
  unfold openR at h1
  split at h1
  ·cases h1
  ·rename_i c0 t
   split at h1
   ·cases h1
   ·rename_i hc0
    split at h1
    ·cases h1
    ·rename_i n w hn
     split at h1
     ·cases h1
     ·rename_i hw
      simp only[Sum.inr.injEq,Prod.mk.injEq] at h1
      obtain⟨rfl,rfl⟩:=h1
      have hc:c0.toNat=k:=by simpa using hc0
      have:UInt8.ofNat k=c0:=by rw[← hc];simp
      unfold sect
      rw[this,List.cons_append,List.append_assoc,List.take_append_drop]
      have e:=(num_some hn).1
      have hl:(w.take n).length=n:=by rw[List.length_take];omega
      rw[hl,← e]
 ·cases h5
theorem headR_inr {l r:List UInt8} (h:headR l=.inr r):l=71 :: 76 :: 1 :: r:=by
 unfold headR at h
 split at h
 ·cases h
 ·split at h
  ·cases h
  ·split at h
   ·cases h
   ·split at h
    ·cases h
    ·split at h
     ·cases h
     ·split at h
      ·cases h
      ·simp only[Sum.inr.injEq] at h
       simp_all
theorem unpackR_inr {ip:ByteArray→Bool}{l:List UInt8}{m:Mo} (h:unpackR ip l=.inr m):within ip m=true∧l=written m:=by
 obtain⟨l0,h0,h⟩:=bnd_inr h
 obtain⟨⟨a,r1⟩,h1,h⟩:=bnd_inr h
 obtain⟨⟨b,r2⟩,h2,h⟩:=bnd_inr h
 obtain⟨⟨c,r3⟩,h3,h⟩:=bnd_inr h
 obtain⟨⟨d,r4⟩,h4,h⟩:=bnd_inr h
 obtain⟨⟨e,r5⟩,h5,h⟩:=bnd_inr h
 split at h
 ·rename_i hs
  simp only[Sum.inr.injEq] at h
  subst h
  have g0:=headR_inr h0
  obtain⟨c1,g1,k1⟩:=sectR_inr (by omega) h1
  obtain⟨c2,g2,k2⟩:=sectR_inr (by omega) h2
  obtain⟨c3,g3,k3⟩:=sectR_inr (by omega) h3
  obtain⟨c4,g4,k4⟩:=sectR_inr (by omega) h4
  obtain⟨c5,g5,k5⟩:=sectR_inr (by omega) h5
  obtain⟨⟨n1,s1⟩,i1,j1⟩:=bnd_inr k1
  obtain⟨⟨n2,s2⟩,i2,j2⟩:=bnd_inr k2
  obtain⟨⟨n5,s5⟩,i5,j5⟩:=bnd_inr k5
  obtain⟨p1,-,q1⟩:=numberR_inr i1
  obtain⟨p2,-,q2⟩:=numberR_inr i2
  obtain⟨p3,-,q3⟩:=numberR_inr k3
  obtain⟨p4,-,q4⟩:=numberR_inr k4
  obtain⟨p5,o5,q5⟩:=numberR_inr i5
  obtain⟨t1,u1,v1⟩:=textsR_inr _ j1
  obtain⟨t2,u2,v2⟩:=textsR_inr _ j2
  obtain⟨t5,u5,v5⟩:=fnsR_inr _ _ j5
  simp only[List.append_nil] at t1 t2 t5 p3 p4 g2 g3 g4 g5
  have hb:l=body ⟨a,b,(c:Int),(d:Int),e⟩++r5:=by
   rw[g0,g1,g2,g3,g4,g5,p1,p2,p3,p4,p5,t1,t2,t5]
   subst u1 u2 u5
   simp[body,listing,fnsL]
  refine⟨?_,?_⟩
  ·unfold within
   simp only[Bool.and_eq_true,decide_eq_true_eq,List.all_eq_true]
   refine⟨⟨⟨⟨⟨⟨⟨⟨⟨⟨by omega,by omega⟩,by omega⟩,by omega⟩,by omega⟩,by omega⟩,by omega⟩,by omega⟩,?_⟩,?_⟩,v5⟩
   ·intro s hs;exact (v1 s hs).1
   ·intro s hs;exact v2 s hs
  ·have hl:l.length=(body ⟨a,b,(c:Int),(d:Int),e⟩).length+r5.length:=by rw[hb];simp
   rw[show l.length-r5.length=(body ⟨a,b,(c:Int),(d:Int),e⟩).length by omega] at hs
   have ht:l.take (body ⟨a,b,(c:Int),(d:Int),e⟩).length=body ⟨a,b,(c:Int),(d:Int),e⟩:=by rw[hb];simp
   rw[ht] at hs
   simp only at hs
   rw[hb,hs]
   rfl
 ·cases h
end Wire
namespace Wire
theorem lawful_iff {f:Fn}{i:Nat}:lawful f i=true↔0≤f.params∧f.params≤8∧f.params≤f.locs∧f.locs≤16∧f.code.size≤20000∧(2<i∨f.params=0):=by
 unfold lawful
 simp only[Bool.and_eq_true,Bool.or_eq_true,decide_eq_true_eq,and_assoc]
theorem within_iff {ip:ByteArray→Bool}{m:Mo}:within ip m=true↔m.texts.length≤1000∧m.pats.length≤1000∧3≤m.fns.length∧m.fns.length≤1000∧0≤m.globs∧m.globs≤1000∧0≤m.arrs∧m.arrs≤1000 ∧
  (∀ s ∈ m.texts,s.size≤100)∧(∀ s ∈ m.pats,s.size≤50∧ip s=true)∧lawfulAll m.fns 0=true:=by
 unfold within
 simp only[Bool.and_eq_true,decide_eq_true_eq,List.all_eq_true,and_assoc]
theorem sect_length (k:Nat) (c:List UInt8):(sect k c).length=1+(digs c.length).length+c.length:=by simp[sect];omega
theorem body_length (m:Mo):(body m).length=3+(sect 1 (listing m.texts)).length+(sect 2 (listing m.pats)).length+(sect 3 (digs m.globs.toNat)).length+(sect 4 (digs m.arrs.toNat)).length+(sect 5 (fnsL m.fns)).length:=by
 simp[body];omega
theorem written_length (m:Mo):(written m).length=(body m).length+3:=by simp[written,sum3_length]
theorem unpack_inr {ip:ByteArray→Bool}{l:List UInt8}{m:Mo} (h:unpack ip l=.inr m):within ip m=true∧l=written m∧l.length≤40000:=by
 unfold unpack at h
 split at h
 ·cases h
 ·obtain⟨a,b⟩:=unpackR_inr h
  exact⟨a,b,by omega⟩
end Wire
namespace Wire
def accN (c:List UInt8):Nat→Nat
 | 0=>0
 | i+1=>accN c i+(c.getD i 0).toNat % 128*128 ^ i
theorem accN_lt (c:List UInt8) (i:Nat):accN c i<128 ^ i:=by
 induction i with
 | zero=>simp[accN]
 | succ i ih=>
  have h:(c.getD i 0).toNat % 128≤127:=by omega
  have h2:=Nat.mul_le_mul_right (128 ^ i) h
  simp only[accN,Nat.pow_succ]
  omega
theorem drop_at {c:List UInt8}{i:Nat} (h:i<c.length):c.drop i=c.getD i 0 :: c.drop (i+1):=by
 rw[List.drop_eq_getElem_cons h]
 simp[List.getD_eq_getElem?_getD,h]
theorem num_walk (c:List UInt8) (i:Nat) (hi:i≤5) (hl:i≤c.length) (h:∀ j,j<i→128≤(c.getD j 0).toNat) :
  num c=(numF (5-i) (decide (i=0)) (c.drop i)).map fun p=>(accN c i+128 ^ i*p.1,p.2):=by
 induction i with
 | zero=>
  simp only[num,accN,List.drop_zero,Nat.sub_zero,decide_true,Nat.pow_zero,Nat.one_mul,Nat.zero_add]
  cases numF 5 true c <;> rfl
 | succ i ih=>
  rw[ih (by omega) (by omega) (fun j hj=>h j (by omega)),drop_at (by omega)]
  have h0:=h i (by omega)
  have hb:=(c.getD i 0).toNat_lt
  rw[show 5-i=(5-(i+1))+1 by omega]
  simp only[numF]
  rw[if_neg (by omega),Option.map_map]
  have e:(decide (i+1=0))=false:=by simp
  rw[e]
  congr 1
  funext p
  simp only[Function.comp,accN,Prod.mk.injEq,and_true]
  have e2:(c.getD i 0).toNat-128=(c.getD i 0).toNat % 128:=by omega
  rw[e2,Nat.mul_add,Nat.pow_succ,Nat.mul_assoc,Nat.mul_comm (128 ^ i) ((c.getD i 0).toNat % 128)]
  omega
theorem num_stop {c:List UInt8}{i:Nat} (hi:i<5) (hl:i<c.length) (h:∀ j,j<i→128≤(c.getD j 0).toNat) (h0:(c.getD i 0).toNat<128) :
  num c=if 0<i∧(c.getD i 0).toNat=0 then none else some (accN c (i+1),c.drop (i+1)):=by
 rw[num_walk c i (by omega) (by omega) h,drop_at hl,show 5-i=(5-(i+1))+1 by omega]
 simp only[numF]
 rw[if_pos h0]
 have hm:(c.getD i 0).toNat % 128=(c.getD i 0).toNat:=by omega
 by_cases hz:0<i∧(c.getD i 0).toNat=0
 ·rw[if_pos hz,if_pos ⟨hz.2,by have:=hz.1;simp;omega⟩]
  rfl
 ·rw[if_neg hz,if_neg (by rintro ⟨a,b⟩;exact hz ⟨by simp at b;omega,a⟩)]
  simp only[Option.map_some,accN,hm,Nat.mul_comm]
theorem num_end {c:List UInt8}{i:Nat} (hi:i≤5) (hl:i≤c.length) (h:∀ j,j<i→128≤(c.getD j 0).toNat) (h0:i=5∨i=c.length):num c=none:=by
 rw[num_walk c i hi hl h]
 rcases h0 with rfl | rfl
 ·simp[numF]
 ·rw[List.drop_length]
  cases 5-c.length <;> simp[numF]
theorem or_shift (a x i:Nat) (h:a<128 ^ i):a ||| (x <<< (7*i))=a+x*128 ^ i:=by
 have e:(128:Nat) ^ i=2 ^ (7*i):=by rw[Nat.pow_mul]
 rw[Nat.shiftLeft_eq,e,Nat.mul_comm x,Nat.or_comm,← Nat.two_pow_add_eq_or_of_lt (by omega),Nat.add_comm]
theorem accN_or (c:List UInt8) (i:Nat):accN c i ||| (((c.getD i 0).toNat &&& 127) <<< (7*i))=accN c (i+1):=by
 rw[or_shift _ _ _ (accN_lt c i),show (127:Nat)=2 ^ 7-1 by rfl,Nat.and_two_pow_sub_one_eq_mod]
 rfl
theorem sumFrom_take (s:Nat) (l:List UInt8) (i:Nat) (h:i<l.length):sumFrom s (l.take (i+1))=sumStep (sumFrom s (l.take i)) l[i]:=by
 rw[List.take_succ_eq_append_getElem h]
 unfold sumFrom
 rw[List.foldl_append]
 rfl
abbrev Sta:=(Nat × Nat) ⊕ (Nat × Nat)
abbrev Rd (α:Type):=Nat→List UInt8→(Nat × Nat) ⊕ (α × List UInt8)
def seg (l:List UInt8) (a e:Nat):List UInt8:=(l.take e).drop a
theorem seg_length {l:List UInt8}{a e:Nat} (he:e≤l.length):(seg l a e).length=e-a:=by
 simp[seg];omega
theorem seg_suffix {l p r:List UInt8}{a e:Nat} (h:seg l a e=p++r) (ha:a≤e) (he:e≤l.length):seg l (e-r.length) e=r∧e-r.length=a+p.length∧r.length≤e:=by
 have h1:=congrArg List.length h
 rw[seg_length he,List.length_append] at h1
 have h2:e-r.length=a+p.length:=by omega
 refine⟨?_,h2,by omega⟩
 rw[h2]
 have h3:(seg l a e).drop p.length=r:=by rw[h];simp
 rw[← h3]
 simp[seg,List.drop_drop]
def outR {α:Type} (op:Rd α) (l:List UInt8) (d:α):Sta→α
 | .inl _=>d
 | .inr (a,e)=>match op e (seg l a e) with
  | .inl _=>d
  | .inr (x,_)=>x
def nextR {α:Type} (op:Rd α) (l:List UInt8):Sta→Sta
 | .inl f=>.inl f
 | .inr (a,e)=>match op e (seg l a e) with
  | .inl f=>.inl f
  | .inr (_,r)=>.inr (e-r.length,e)
def okSta (l:List UInt8):Sta→Prop
 | .inl f=>0<f.1∧f.1≤100∧f.2≤l.length
 | .inr (a,e)=>a≤e∧e≤l.length
theorem nextR_bad {α:Type} (op:Rd α) (l:List UInt8) (f:Nat × Nat):nextR op l (.inl f)=.inl f:=rfl
theorem outR_bad {α:Type} (op:Rd α) (l:List UInt8) (d:α) (f:Nat × Nat):outR op l d (.inl f)=d:=rfl
theorem nextR_inl {α:Type}{op:Rd α}{l:List UInt8}{a e:Nat}{f:Nat × Nat} (h:op e (seg l a e)=.inl f):nextR op l (.inr (a,e))=.inl f:=by simp only[nextR,h]
theorem outR_inl {α:Type}{op:Rd α}{l:List UInt8}{d:α}{a e:Nat}{f:Nat × Nat} (h:op e (seg l a e)=.inl f):outR op l d (.inr (a,e))=d:=by simp only[outR,h]
theorem nextR_inr {α:Type}{op:Rd α}{l:List UInt8}{a e:Nat}{x:α}{r:List UInt8} (h:op e (seg l a e)=.inr (x,r)):nextR op l (.inr (a,e))=.inr (e-r.length,e):=by simp only[nextR,h]
theorem outR_inr {α:Type}{op:Rd α}{l:List UInt8}{d:α}{a e:Nat}{x:α}{r:List UInt8} (h:op e (seg l a e)=.inr (x,r)):outR op l d (.inr (a,e))=x:=by simp only[outR,h]
end Wire
namespace Wire
structure Tidy {α:Type} (op:Rd α):Prop where
 bad:∀ {base:Nat}{c:List UInt8}{f:Nat × Nat},op base c=.inl f→0<f.1∧f.1≤100∧f.2≤base
 good:∀ {base:Nat}{c:List UInt8}{x:α}{r:List UInt8},op base c=.inr (x,r)→∃ p,c=p++r
theorem Tidy.next {α:Type}{op:Rd α} (h:Tidy op) {l:List UInt8}{s:Sta} (hs:okSta l s):okSta l (nextR op l s):=by
 rcases s with f | ⟨a,e⟩
 ·exact hs
 ·obtain⟨h1,h2⟩:=hs
  rcases hop:op e (seg l a e) with f | ⟨x,r⟩
  ·rw[nextR_inl hop]
   have:=h.bad hop
   exact⟨this.1,this.2.1,by omega⟩
  ·rw[nextR_inr hop]
   obtain⟨p,hp⟩:=h.good hop
   have:=seg_suffix hp h1 h2
   exact⟨by omega,h2⟩
theorem Tidy.seg {α:Type}{op:Rd α} (h:Tidy op) {l:List UInt8}{a e:Nat}{x:α}{r:List UInt8} (h1:a≤e) (h2:e≤l.length) (hop:op e (Wire.seg l a e)=.inr (x,r)) :
  Wire.seg l (e-r.length) e=r∧a≤e-r.length∧r.length≤e:=by
 obtain⟨p,hp⟩:=h.good hop
 have:=seg_suffix hp h1 h2
 exact⟨this.1,by omega,this.2.2⟩
theorem bnd_inl {α β:Type}{x:(Nat × Nat) ⊕ α}{f:α→(Nat × Nat) ⊕ β}{b:Nat × Nat} (h:bnd x f=.inl b):x=.inl b∨∃ a,x=.inr a∧f a=.inl b:=by
 cases x with
 | inl e=>simp only[bnd,Sum.inl.injEq] at h;exact .inl (by rw[h])
 | inr a=>exact .inr ⟨a,rfl,h⟩
theorem numberR_tidy (least most:Nat):Tidy (numberR least most):=by
 refine⟨fun {base c f} h=>?_,fun {base c x r} h=>⟨_,(numberR_inr h).1⟩⟩
 unfold numberR at h
 split at h
 ·simp only[Sum.inl.injEq] at h;subst h;exact⟨by simp,by simp,by simp⟩
 ·split at h
  ·simp only[Sum.inl.injEq] at h;subst h;exact⟨by simp,by simp,by simp⟩
  ·cases h
theorem bytesR_tidy (most:Nat):Tidy (bytesR most):=by
 refine⟨fun {base c f} h=>?_,fun {base c x r} h=>⟨_,(bytesR_inr h).1⟩⟩
 rcases bnd_inl h with h | ⟨⟨n,u⟩,h1,h2⟩
 ·exact (numberR_tidy _ _).bad h
 ·simp only at h2
  split at h2
  ·simp only[Sum.inl.injEq] at h2;subst h2;exact⟨by simp,by simp,by simp⟩
  ·cases h2
theorem textsR_tidy (ip:ByteArray→Bool) (most k:Nat):Tidy (fun base c=>textsR ip most base k c):=by
 refine⟨fun {base c f} h=>?_,fun {base c x r} h=>⟨_,(textsR_inr k h).1⟩⟩
 induction k generalizing c with
 | zero=>cases h
 | succ k ih=>
  simp only[textsR] at h
  rcases bnd_inl h with h | ⟨⟨s,u⟩,h1,h2⟩
  ·exact (bytesR_tidy _).bad h
  ·simp only at h2
   split at h2
   ·rcases bnd_inl h2 with h3 | ⟨q,h3,h4⟩
    ·exact ih h3
    ·cases h4
   ·simp only[Sum.inl.injEq] at h2;subst h2;exact⟨by simp,by simp,by simp only;omega⟩
theorem fnR_tidy (i:Nat):Tidy (fnR i):=by
 refine⟨fun {base c f} h=>?_,fun {base c x r} h=>⟨_,(fnR_inr h).1⟩⟩
 rcases bnd_inl h with h | ⟨p,h1,h⟩
 ·exact (numberR_tidy _ _).bad h
 ·rcases bnd_inl h with h | ⟨q,h2,h⟩
  ·exact (numberR_tidy _ _).bad h
  ·rcases bnd_inl h with h | ⟨s,h3,h⟩
   ·exact (bytesR_tidy _).bad h
   ·cases h
theorem fnsR_tidy (k i:Nat):Tidy (fun base c=>fnsR base k i c):=by
 refine⟨fun {base c f} h=>?_,fun {base c x r} h=>⟨_,(fnsR_inr k i h).1⟩⟩
 induction k generalizing c i with
 | zero=>cases h
 | succ k ih=>
  simp only[fnsR] at h
  rcases bnd_inl h with h | ⟨⟨s,u⟩,h1,h2⟩
  ·exact (fnR_tidy _).bad h
  ·rcases bnd_inl h2 with h3 | ⟨q,h3,h4⟩
   ·exact ih _ h3
   ·cases h4
theorem listR_tidy (ip:ByteArray→Bool) (most:Nat):Tidy (listR ip most):=by
 refine⟨fun {base c f} h=>?_,fun {base c x r} h=>?_⟩
 ·rcases bnd_inl h with h | ⟨p,h1,h⟩
  ·exact (numberR_tidy _ _).bad h
  ·exact (textsR_tidy ip most p.1).bad h
 ·obtain⟨p,h1,h2⟩:=bnd_inr h
  obtain⟨e1,-⟩:=numberR_inr (n:=p.1) (r:=p.2) h1
  obtain⟨q,e2⟩:=(textsR_tidy ip most p.1).good h2
  exact⟨digs p.1++q,by rw[e1,e2,List.append_assoc]⟩
theorem fnListR_tidy:Tidy fnListR:=by
 refine⟨fun {base c f} h=>?_,fun {base c x r} h=>?_⟩
 ·rcases bnd_inl h with h | ⟨p,h1,h⟩
  ·exact (numberR_tidy _ _).bad h
  ·exact (fnsR_tidy p.1 0).bad h
 ·obtain⟨p,h1,h2⟩:=bnd_inr h
  obtain⟨e1,-⟩:=numberR_inr (n:=p.1) (r:=p.2) h1
  obtain⟨q,e2⟩:=(fnsR_tidy p.1 0).good h2
  exact⟨digs p.1++q,by rw[e1,e2,List.append_assoc]⟩
theorem sectR_tidy {α:Type} (k:Nat) (hk:k<256) {f:Rd α} (hf:Tidy f):Tidy (fun base l=>sectR k base f l):=by
 refine⟨fun {base l g} h=>?_,fun {base c x r} h=>?_⟩
 ·rcases bnd_inl h with h | ⟨p,h1,h⟩
  ·unfold openR at h
   split at h
   ·simp only[Sum.inl.injEq] at h;subst h;exact⟨by simp,by simp,by simp⟩
   ·split at h
    ·simp only[Sum.inl.injEq] at h;subst h;exact⟨by simp,by simp,by simp⟩
    ·split at h
     ·simp only[Sum.inl.injEq] at h;subst h;exact⟨by simp,by simp,by simp⟩
     ·split at h
      ·simp only[Sum.inl.injEq] at h;subst h;exact⟨by simp,by simp,by simp⟩
      ·cases h
  ·rcases bnd_inl h with h | ⟨q,h2,h⟩
   ·have:=hf.bad h
    exact⟨this.1,this.2.1,by omega⟩
   ·rcases bnd_inl h with h | ⟨a,h3,h⟩
    ·unfold shutR at h
     split at h
     ·cases h
     ·simp only[Sum.inl.injEq] at h;subst h;exact⟨by simp,by simp,by simp only;omega⟩
    ·cases h
 ·obtain⟨c',e,-⟩:=sectR_inr hk h
  exact⟨_,e⟩
end Wire
open Go.RowKit
open Wire
def numV (l:List UInt8):Nat:=match num l with
 | none=>0
 | some p=>p.1
def numK (l:List UInt8):Nat:=match num l with
 | none=>0
 | some p=>l.length-p.2.length
theorem getD_bl (c:ByteArray) (i:Nat) (h:i<c.size):(bl c).getD i 0=c[i]:=by
 have:i<(bl c).length:=by rw[bl_length];exact h
 rw[List.getD_eq_getElem?_getD,List.getElem?_eq_getElem this]
 simp only[bl,Option.getD_some,Array.getElem_toList]
 rfl
theorem wraps_u64 (n:Int) (h₀:0≤n) (h₁:n<18446744073709551616):IntKind.u64.wrap n=n:=by rw[IntKind.wrap_u64];omega
theorem pow7 (k:Nat) (hk:k<5):(2:Nat) ^ (7*k)≤268435456:=by
 have:(2:Nat) ^ (7*k)≤2 ^ 28:=Nat.pow_le_pow_right (by omega) (by omega)
 omega
theorem or_fact (A x k B:Nat) (hx:x<256) (hk:k<5) (hA:A<128 ^ k) (hB:A ||| ((x &&& 127) <<< (7*k))=B) :
  bits .or .u64 (A:Int) (IntKind.u64.wrap (IntKind.u64.wrap (bits .and .u8 (x:Int) 127)*2 ^ (7*k)))=(B:Int):=by
 have h1:bits .and .u8 (x:Int) 127=((x &&& 127:Nat):Int):=(bits_nat .u8 8 (by decide) (fun n a b=>wraps_u8 n a b) x 127 (by omega) (by omega)).1
 have h2:x &&& 127≤127:=Nat.and_le_right
 have h3:=pow7 k hk
 have h4:(x &&& 127)*2 ^ (7*k)≤127*268435456:=Nat.mul_le_mul h2 h3
 have h5:(((x &&& 127:Nat):Int)*2 ^ (7*k))=(((x &&& 127)*2 ^ (7*k):Nat):Int):=by push_cast;rfl
 have h6:(128:Nat) ^ k≤128 ^ 5:=Nat.pow_le_pow_right (by omega) (by omega)
 rw[h1,wraps_u64 (((x &&& 127:Nat):Int)) (by omega) (by omega),h5,wraps_u64 _ (by omega) (by omega),bits_or_u64_nat _ _ (by omega) (by omega),← hB,Nat.shiftLeft_eq]
theorem accN_small (c:List UInt8) (k:Nat) (h:k≤5):accN c k<34359738368:=by
 have h6:(128:Nat) ^ k≤128 ^ 5:=Nat.pow_le_pow_right (by omega) (by omega)
 have:=accN_lt c k
 have:=pow5
 omega
theorem numRead_any (c:ByteArray) (hs:c.size≤40000) (w:World) :
  Calls Tryz.prog 178 #[.string c] w fun e w'=>e=.returned (.tuple #[.int .i64 (numV (bl c)),.int .i64 (numK (bl c))])∧w'=w:=by
 have hL:=bl_length c
 obtain⟨V,hV⟩:∃ V,numV (bl c)=V:=⟨_,rfl⟩
 obtain⟨K,hK⟩:∃ K,numK (bl c)=K:=⟨_,rfl⟩
 rw[hV,hK]
 have HV:Hid _:=hV
 have HK:Hid _:=hK
 clear hV hK
 go_enter Tryz.func178,Tryz.ntmps178
 go_wp2
 all_goals
  go_loop [4,5,10] (fun a i j=>∃ k:Nat,k≤5∧k≤c.size∧a=.int .u64 (accN (bl c) k)∧j=.int .i64 k∧∀ m,m<k→128≤((bl c).getD m 0).toNat) (fun _ _ i=>5-(intOf i).toNat)
  case atStart=>exact⟨0,by omega,by omega,rfl,rfl,by omega⟩
  case round=>
   obtain⟨k,hk5,hk,rfl,rfl,hall⟩:=hrel
   have ha:=accN_lt (bl c) k
   have ho:=accN_or (bl c) k
   by_cases hlt:k<5∧k<c.size
   ·have g1:(k:Int)<c.size:=by omega
    have g2:(k:Int)<5:=by omega
    have gk:=getD_bl c k hlt.2
    have hsm:=accN_small (bl c) (k+1) (by omega)
    have hst:=fun h0=>num_stop (c:=bl c) (i:=k) hlt.1 (by omega) hall h0
    have hdl:((bl c).drop (k+1)).length=c.size-(k+1):=by rw[List.length_drop,hL]
    have hxl:=c[k].toNat_lt
    rw[gk] at ho hst
    obtain⟨A,hA⟩:∃ A,accN (bl c) k=A:=⟨_,rfl⟩
    obtain⟨B,hB⟩:∃ B,accN (bl c) (k+1)=B:=⟨_,rfl⟩
    obtain⟨x,hx⟩:∃ x,c[k].toNat=x:=⟨_,rfl⟩
    rw[hA] at ha ho
    rw[hB] at ho hsm hst
    rw[hx] at ho hst hxl
    simp only[hA]
    have hor:=or_fact A x k B (by omega) hlt.1 ha ho
    have HB:Hid _:=hB
    have Hst:Hid _:=hst
    have Hall:Hid _:=hall
    have Hgk:Hid _:=gk
    clear hA ho hB hst hall ha gk
    by_cases hx1:128≤x
    ·have g3:(128:Int)≤x:=by omega
     go_wp2
     go_round
     case rel=>
      refine⟨k+1,by omega,by omega,by rw[HB.out],by go_num,fun m hm=>?_⟩
      by_cases e:m=k
      ·subst e;rw[Hgk.out,hx];exact hx1
      ·exact Hall.out m (by omega)
     case measure=>simp[intOf];omega
    ·have g3:¬ (128:Int)≤x:=by omega
     have hst:=Hst.out (by omega)
     clear Hst
     by_cases hz:0<k∧x=0
     ·rw[if_pos hz] at hst
      have g4:(0:Int)<k:=by omega
      have g5:(x:Int)=0:=by omega
      have g6:((x:Int)==0)=true:=by simp;omega
      obtain rfl:V=0:=by rw[← HV.out];simp only[numV,hst]
      obtain rfl:K=0:=by rw[← HK.out];simp only[numK,hst]
      obtain rfl:x=0:=hz.2
      clear hst hz
      go_wp2
      go_ret2
      exact⟨rfl,rfl⟩
     ·rw[if_neg hz] at hst
      obtain rfl:V=B:=by rw[← HV.out];simp only[numV,hst]
      obtain rfl:K=k+1:=by rw[← HK.out];simp only[numK,hst,hdl,hL];omega
      clear hst HB
      by_cases hk0:k=0
      ·have g4:¬ ((0:Int)<k):=by omega
       clear hk0
       go_wp2
       go_ret2
       exact⟨rfl,rfl⟩
      ·have g4:(0:Int)<k:=by omega
       have g6:((x:Int)==0)=false:=by simp;omega
       have g5:¬ ((x:Int)=0):=by omega
       go_wp2
       go_ret2
       exact⟨rfl,rfl⟩
   ·have hst:=num_end (c:=bl c) (i:=k) hk5 (by omega) hall (by omega)
    obtain rfl:V=0:=by rw[← HV.out];simp only[numV,hst]
    obtain rfl:K=0:=by rw[← HK.out];simp only[numK,hst]
    clear hst ha ho
    by_cases hks:(k:Int)<5
    ·have g1:¬ ((k:Int)<c.size):=by omega
     first
     | (exfalso;omega)
     | (go_wp2
        go_ret2
        exact⟨rfl,rfl⟩)
    ·first
     | (exfalso;omega)
     | (have g1:¬ ((k:Int)<c.size):=by omega
        go_wp2
        go_ret2
        exact⟨rfl,rfl⟩)
     | (go_wp2
        go_ret2
        exact⟨rfl,rfl⟩)
end Go.Proofs.YtclkgoigmgkffaaGreatDoor
