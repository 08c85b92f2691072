import Derived.RangeFuncWrites
import Derived.WalkSmall
import Derived.Shelf.Spec.TrailingZeros
import Derived.Test.YtlokkgajpjafmaaGreatDoorMA
set_option linter.unusedSimpArgs false
set_option linter.unusedVariables false
set_option maxRecDepth 100000
set_option maxHeartbeats 40000000
namespace Go.Proofs.YtlokkgajpjafmaaGreatDoor
open Go.RowKit
def Tab (w:WL):Prop:=TabAt 1 Lib.deBruijn64tab w
structure Fr (S:LN) (w w':WL):Prop where
 os:w'.os=w.os
 tape:w'.tape=w.tape
 output:w'.output=w.output
 size:w.heap.size≤w'.heap.size
 block:∀ k,k<w.heap.size→k ∉ S→w'.heap[k]?=w.heap[k]?
theorem Fr.refl (S:LN)(w:WL):Fr S w w:=⟨rfl,rfl,rfl,Nat.le_refl _,fun _ _ _=>rfl⟩
theorem Fr.trans {S:LN}{a b c:WL} (h:Fr S a b) (k:Fr S b c):Fr S a c:=
 ⟨k.os.trans h.os,k.tape.trans h.tape,k.output.trans h.output,Nat.le_trans h.size k.size,fun i hi hn=>(k.block i (Nll hi h.size) hn).trans (h.block i hi hn)⟩
theorem Fr.mono {S S':LN}{a b:WL} (h:Fr S a b) (hs:∀ x,x ∈ S→x ∈ S'):Fr S' a b:=
 ⟨h.os,h.tape,h.output,h.size,fun i hi hn=>h.block i hi (fun hx=>hn (hs i hx))⟩
theorem Fr.trans' {S S':LN}{a b c:WL} (h:Fr S a b) (k:Fr S' b c) (hs:∀ x,x ∈ S'→x ∈ S∨a.heap.size≤x):Fr S a c:=
 ⟨k.os.trans h.os,k.tape.trans h.tape,k.output.trans h.output,Nat.le_trans h.size k.size,fun i hi hn=>
  (k.block i (Nll hi h.size) (fun hx=>(hs i hx).elim hn (fun h'=>by omega))).trans (h.block i hi hn)⟩
theorem Fr.drew {S:LN}{a w:WL} (h:Fr S a w):Fr S a w.drew:=⟨h.os,h.tape,h.output,h.size,h.block⟩
theorem Fr.drewN {S:LN}{a w:WL} (h:Fr S a w) (n:Nat):Fr S a (w.drewN n):=⟨h.os,h.tape,h.output,h.size,h.block⟩
theorem Fr.alloc {S:LN}{a w:WL} (h:Fr S a w) (o:Obj):Fr S a (w.alloc o):=
 h.trans ⟨rfl,rfl,rfl,by simp,fun k hk _=>Below.heap_alloc _ _ _ hk⟩
theorem Fr.setCell {S:LN}{a w:WL} (h:Fr S a w) {p:Addr} (hp:p.block ∈ S∨a.heap.size≤p.block) (u:Value):Fr S a (w.setCell p u):=
 ⟨h.os,h.tape,h.output,by simpa [World.setCell] using h.size,fun k hk hn=>(Below.heap_setCell _ _ _ _ (by rintro rfl;exact hp.elim hn (fun h'=>by omega))).trans (h.block k hk hn)⟩
theorem Fr.cell {S:LN}{w w':WL} (h:Fr S w w') {p:Addr} (hp:p.block<w.heap.size) (hn:p.block ∉ S):w'.cell? p=w.cell? p:=World.cell?_of_block (w:=w) (h.block p.block hp hn)
theorem Fr.frozen {S:LN}{w w':WL} (h:Fr S w w') {p:Addr} (hp:p.block<w.heap.size) (hn:p.block ∉ S):w'.frozen? p=w.frozen? p:=World.frozen?_of_block (w:=w) (h.block p.block hp hn)
theorem Fr.of_below {w w':WL}(h:Below w.heap.size w w'):Fr [] w w':=⟨h.os,h.tape,h.output,h.size,fun k hk _=>h.block k hk⟩
theorem Fr.below {S:LN}{w w':WL} (h:Fr S w w') {B:Nat} (hB:B≤w.heap.size) (hs:∀ x,x ∈ S→B≤x):Below B w w':=
 ⟨h.os,h.tape,h.output,h.size,fun k hk=>h.block k (by omega) (fun hx=>by have:=hs k hx;omega)⟩
theorem aA {w:WL}{b i j:Nat}{v:Value} (h:i≠j):(w.setCell ⟨b,i,none⟩ v).cell? (Ad b j)=w.cell? (Ad b j):=World.cell?_setCell_other _ _ _ _ (by simp[h])
theorem aX {w:WL}{b c i j:Nat}{v:Value} (h:b≠c):(w.setCell ⟨b,i,none⟩ v).cell? (Ad c j)=w.cell? (Ad c j):=World.cell?_setCell_other _ _ _ _ (by simp[h])
theorem aB {w:WL}{a:Addr}{v:Value} (h:w.cell? a=some v):a.block<w.heap.size:=by
 apply Nat.lt_of_not_le;intro hle;unfold World.cell? at h;rw[Array.getElem?_eq_none hle] at h;simp at h
theorem fX (W:WL)(v:Value)(t:TypeId):(W.alloc (.cells #[v] t)).cell? (Ad W.heap.size 0)=some v:=by
 have h:=wan W (.cells #[v] t);unfold World.cell?;rw[h];rfl
theorem aFl (W:WL)(v:Value)(t:TypeId):(W.alloc (.cells #[v] t)).frozen? (Ad W.heap.size 0)=false:=by
 have h:=wan W (.cells #[v] t);unfold World.frozen?;rw[h];rfl
theorem fE {W W':WL}{row:Option Nat}{a:Addr}{v:Value} (h:W.cell? a=some v) (hg:W.grownBy W' row)
  (hr:∀ r,row=some r→∃ o:Obj,W.heap[r]?=some o∧o.isCells=false):W'.heap[a.block]?=W.heap[a.block]?:=by
 refine hg.block a.block (aB h) ?_;intro e;obtain⟨o,ho,hc⟩:=hr a.block e.symm;unfold World.cell? at h;rw[ho] at h;cases o <;> simp_all [Obj.isCells]
theorem Tab.lt {w:WL}(h:Tab w):1<w.heap.size:=aB (a:=Ad 1 0) (h 0 (by decide))
theorem Tab.of_block {w w':WL}(h:Tab w)(hb:w'.heap[1]?=w.heap[1]?):Tab w':=fun j hj=>(World.cell?_of_block (w:=w) (a:=Ad 1 j) hb).trans (h j hj)
theorem Tab.fr {S:LN}{w w':WL} (h:Tab w) (hf:Fr S w w') (h0:1 ∉ S):Tab w':=h.of_block (hf.block 1 h.lt h0)
structure bL (w:WL) (pb:Nat) (wh:Nat→Value) (tk:NN) (fo:Nat→NN):Prop where
 hw:∀ i,i<12→w.cell? ⟨pb,i,none⟩=some (wh i)
 ht:∀ b,b<256→w.cell? ⟨pb,12+b,none⟩=some (.int .u64 (tk b))
 hf:∀ s a,s<4→a<50→w.cell? ⟨pb,268+s*50+a,none⟩=some (.int .u64 (fo s a))
 fz:∀ i,i<468→w.frozen? ⟨pb,i,none⟩=false
theorem bL.lt {w:WL}{pb:Nat}{wh:Nat→Value}{tk:NN}{fo:Nat→NN} (h:bL w pb wh tk fo):pb<w.heap.size:=aB (a:=Ad pb 12) (h.ht 0 (by decide))
theorem bL.of_block {w w':WL}{pb:Nat}{wh:Nat→Value}{tk:NN}{fo:Nat→NN} (h:bL w pb wh tk fo) (hb:w'.heap[pb]?=w.heap[pb]?):bL w' pb wh tk fo:=
 ⟨fun i hi=>(World.cell?_of_block (w:=w) (a:=Ad pb i) hb).trans (h.hw i hi),fun b hb'=>(World.cell?_of_block (w:=w) (a:=Ad pb (12+b)) hb).trans (h.ht b hb'),
   fun s a hs ha=>(World.cell?_of_block (w:=w) (a:=Ad pb (268+s*50+a)) hb).trans (h.hf s a hs ha),fun i hi=>(World.frozen?_of_block (w:=w) (a:=Ad pb i) hb).trans (h.fz i hi)⟩
theorem bL.fr {S:LN}{w w':WL}{pb:Nat}{wh:Nat→Value}{tk:NN}{fo:Nat→NN} (h:bL w pb wh tk fo) (hf:Fr S w w') (h0:pb ∉ S):bL w' pb wh tk fo:=h.of_block (hf.block pb h.lt h0)
theorem bL.congr {w:WL}{pb:Nat}{wh:Nat→Value}{tk tk':NN}{fo fo':Nat→NN} (h:bL w pb wh tk fo) (ht:∀ b,b<256→tk b=tk' b) (hf:∀ s a,s<4→a<50→fo s a=fo' s a):bL w pb wh tk' fo':=
 ⟨h.hw,fun b hb=>by rw[← ht b hb];exact h.ht b hb,fun s a hs ha=>by rw[← hf s a hs ha];exact h.hf s a hs ha,h.fz⟩
theorem bL.setFollow {w:WL}{pb:Nat}{wh:Nat→Value}{tk:NN}{fo:Nat→NN} (h:bL w pb wh tk fo) (s a:Nat) (hs:s<4) (ha:a<50) (v:Nat) :
  bL (w.setCell ⟨pb,268+s*50+a,none⟩ (.int .u64 v)) pb wh tk (fun s' a'=>if s'=s∧a'=a then v else fo s' a'):=by
 refine⟨fun i hi=>?_,fun b hb=>?_,fun s' a' hs' ha'=>?_,fun i hi=>?_⟩
 ·exact (aA (by omega)).trans (h.hw i hi)
 ·exact (aA (by omega)).trans (h.ht b hb)
 ·by_cases e:s'=s∧a'=a
  ·obtain⟨rfl,rfl⟩:=e;rw[if_pos ⟨rfl,rfl⟩];exact World.cell?_setCell_same' _ _ _ (by rw[h.hf s' a' hs ha];rfl)
  rw[if_neg e];exact (aA (by omega)).trans (h.hf s' a' hs' ha')
 rw[wfz];exact h.fz i hi
theorem frA {w W:WL}{o:Obj}(h:w.alloc o=W):Fr [] w W:=by rw[← h];exact (Fr.refl [] w).alloc _
theorem kA {w W:WL}{o:Obj}(h:w.alloc o=W):W.heap[w.heap.size]?=some o:=by rw[← h];exact World.alloc_heap_new w o
end Go.Proofs.YtlokkgajpjafmaaGreatDoor
