import Derived.RangeFuncWrites
import Derived.WalkSmall
import Derived.Shelf.Spec.TrailingZeros
import Derived.Test.YtmolfmgchbjnbaaGreatDoorMA
set_option linter.unusedSimpArgs false
set_option linter.unusedVariables false
set_option linter.unusedSectionVars false
set_option maxRecDepth 100000
set_option maxHeartbeats 40000000
namespace Go.Proofs.YtmolfmgchbjnbaaGreatDoor
open Go.RowKit
def Tab (_:WL):Prop:=True
structure Fr (S:LN) (w w':WL):Prop where
 os:w'.os=w.os
 tape:w'.tape=w.tape
 output:w'.output=w.output
 size:w.heap.size≤w'.heap.size
 block:∀ k,k<w.heap.size→k ∉ S→w'.heap[k]?=w.heap[k]?
theorem Fr.refl (S:LN)(w:WL):Fr S w w:=⟨rfl,rfl,rfl,Nat.le_refl _,fun _ _ _=>rfl⟩
theorem Fr.trans {S:LN}{a b c:WL} (h:Fr S a b) (k:Fr S b c):Fr S a c:=
 ⟨k.os.trans h.os,k.tape.trans h.tape,k.output.trans h.output,Nat.le_trans h.size k.size,fun i hi hn=>(k.block i (Nll hi h.size) hn).trans (h.block i hi hn)⟩
theorem Fr.mono {S S':LN}{a b:WL} (h:Fr S a b) (hs:∀ x,x ∈ S→x ∈ S'):Fr S' a b:=
 ⟨h.os,h.tape,h.output,h.size,fun i hi hn=>h.block i hi (fun hx=>hn (hs i hx))⟩
theorem Fr.trans' {S S':LN}{a b c:WL} (h:Fr S a b) (k:Fr S' b c) (hs:∀ x,x ∈ S'→x ∈ S∨a.heap.size≤x):Fr S a c:=
 ⟨k.os.trans h.os,k.tape.trans h.tape,k.output.trans h.output,Nat.le_trans h.size k.size,fun i hi hn=>
  (k.block i (Nll hi h.size) (fun hx=>(hs i hx).elim hn (fun h'=>by omega))).trans (h.block i hi hn)⟩
theorem Fr.drew {S:LN}{a w:WL} (h:Fr S a w):Fr S a w.drew:=⟨h.os,h.tape,h.output,h.size,h.block⟩
theorem Fr.drewN {S:LN}{a w:WL} (h:Fr S a w) (n:Nat):Fr S a (w.drewN n):=⟨h.os,h.tape,h.output,h.size,h.block⟩
theorem Fr.alloc {S:LN}{a w:WL} (h:Fr S a w) (o:Obj):Fr S a (w.alloc o):=
 h.trans ⟨rfl,rfl,rfl,by simp,fun k hk _=>Below.heap_alloc _ _ _ hk⟩
theorem Fr.setCell {S:LN}{a w:WL} (h:Fr S a w) {p:Addr} (hp:p.block ∈ S∨a.heap.size≤p.block) (u:Value):Fr S a (w.setCell p u):=
 ⟨h.os,h.tape,h.output,by simpa [World.setCell] using h.size,fun k hk hn=>(Below.heap_setCell _ _ _ _ (by rintro rfl;exact hp.elim hn (fun h'=>by omega))).trans (h.block k hk hn)⟩
theorem Fr.cell {S:LN}{w w':WL} (h:Fr S w w') {p:Addr} (hp:p.block<w.heap.size) (hn:p.block ∉ S):w'.cell? p=w.cell? p:=World.cell?_of_block (w:=w) (h.block p.block hp hn)
theorem Fr.frozen {S:LN}{w w':WL} (h:Fr S w w') {p:Addr} (hp:p.block<w.heap.size) (hn:p.block ∉ S):w'.frozen? p=w.frozen? p:=World.frozen?_of_block (w:=w) (h.block p.block hp hn)
theorem Fr.of_below {w w':WL}(h:Below w.heap.size w w'):Fr [] w w':=⟨h.os,h.tape,h.output,h.size,fun k hk _=>h.block k hk⟩
theorem Fr.below {S:LN}{w w':WL} (h:Fr S w w') {B:Nat} (hB:B≤w.heap.size) (hs:∀ x,x ∈ S→B≤x):Below B w w':=
 ⟨h.os,h.tape,h.output,h.size,fun k hk=>h.block k (by omega) (fun hx=>by have:=hs k hx;omega)⟩
theorem setCell_off {w:WL}{b i j:Nat}{v:Value} (h:i≠j):(w.setCell ⟨b,i,none⟩ v).cell? (Ad b j)=w.cell? (Ad b j):=World.cell?_setCell_other _ _ _ _ (by simp[h])
theorem setCell_far {w:WL}{b c i j:Nat}{v:Value} (h:b≠c):(w.setCell ⟨b,i,none⟩ v).cell? (Ad c j)=w.cell? (Ad c j):=World.cell?_setCell_other _ _ _ _ (by simp[h])
theorem lt_of_cell {w:WL}{a:Addr}{v:Value} (h:w.cell? a=some v):a.block<w.heap.size:=by
 apply Nat.lt_of_not_le;intro hle;unfold World.cell? at h;rw[Array.getElem?_eq_none hle] at h;simp at h
theorem block_kept {W W':WL}{row:Option Nat}{a:Addr}{v:Value} (h:W.cell? a=some v) (hg:W.grownBy W' row)
  (hr:∀ r,row=some r→∃ o:Obj,W.heap[r]?=some o∧o.isCells=false):W'.heap[a.block]?=W.heap[a.block]?:=by
 refine hg.block a.block (lt_of_cell h) ?_;intro e;obtain⟨o,ho,hc⟩:=hr a.block e.symm;unfold World.cell? at h;rw[ho] at h;cases o <;> simp_all [Obj.isCells]
theorem Tab.of_block {w w':WL}(_:Tab w)(_:w'.heap[1]?=w.heap[1]?):Tab w':=trivial
theorem Tab.fr {S:LN}{w w':WL} (_:Tab w) (_:Fr S w w') (_:1 ∉ S):Tab w':=trivial
theorem frA {w W:WL}{o:Obj}(h:w.alloc o=W):Fr [] w W:=by rw[← h];exact (Fr.refl [] w).alloc _
theorem kA {w W:WL}{o:Obj}(h:w.alloc o=W):W.heap[w.heap.size]?=some o:=by rw[← h];exact World.alloc_heap_new w o
end Go.Proofs.YtmolfmgchbjnbaaGreatDoor
