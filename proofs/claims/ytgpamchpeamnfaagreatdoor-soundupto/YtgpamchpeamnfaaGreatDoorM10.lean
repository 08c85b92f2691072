/-
  Texts Wg Wp Wq.
-/
import Derived.Test.YtgpamchpeamnfaaGreatDoorMA
import Derived.Test.YtgpamchpeamnfaaGreatDoorM08
import Derived.Test.YtgpamchpeamnfaaGreatDoorM09
set_option linter.unusedSimpArgs false
set_option linter.unusedVariables false
set_option maxRecDepth 100000
set_option maxHeartbeats 40000000
open _root_.Go.Proofs.Tryz
namespace Go.Proofs.YtgpamchpeamnfaaGreatDoor
open Go.RowKit
def Piece.ok (q:Piece):Prop:=∀ s,(q s).ok
def pV (a b:Piece):Nat→List Value
 | 0=>[.bool (a 0).e,.int .u64 (a 0).f,.int .u64 (a 0).l,.bool (a 1).e,.int .u64 (a 1).f,.int .u64 (a 1).l,.bool (a 2).e,.int .u64 (a 2).f,.int .u64 (a 2).l,.bool (a 3).e,.int .u64 (a 3).f,.int .u64 (a 3).l]
 | 1=>[.bool ((a 0).e || (b 0).e),.int .u64 ((a 0).f ||| (b 0).f:Nat),.int .u64 ((a 0).l ||| (b 0).l:Nat),.bool (a 1).e,.int .u64 (a 1).f,.int .u64 (a 1).l,.bool (a 2).e,.int .u64 (a 2).f,.int .u64 (a 2).l,.bool (a 3).e,.int .u64 (a 3).f,.int .u64 (a 3).l]
 | 2=>[.bool ((a 0).e || (b 0).e),.int .u64 ((a 0).f ||| (b 0).f:Nat),.int .u64 ((a 0).l ||| (b 0).l:Nat),.bool ((a 1).e || (b 1).e),.int .u64 ((a 1).f ||| (b 1).f:Nat),.int .u64 ((a 1).l ||| (b 1).l:Nat),.bool (a 2).e,.int .u64 (a 2).f,.int .u64 (a 2).l,.bool (a 3).e,.int .u64 (a 3).f,.int .u64 (a 3).l]
 | 3=>[.bool ((a 0).e || (b 0).e),.int .u64 ((a 0).f ||| (b 0).f:Nat),.int .u64 ((a 0).l ||| (b 0).l:Nat),.bool ((a 1).e || (b 1).e),.int .u64 ((a 1).f ||| (b 1).f:Nat),.int .u64 ((a 1).l ||| (b 1).l:Nat),.bool ((a 2).e || (b 2).e),.int .u64 ((a 2).f ||| (b 2).f:Nat),.int .u64 ((a 2).l ||| (b 2).l:Nat),.bool (a 3).e,.int .u64 (a 3).f,.int .u64 (a 3).l]
 | _=>[.bool ((a 0).e || (b 0).e),.int .u64 ((a 0).f ||| (b 0).f:Nat),.int .u64 ((a 0).l ||| (b 0).l:Nat),.bool ((a 1).e || (b 1).e),.int .u64 ((a 1).f ||| (b 1).f:Nat),.int .u64 ((a 1).l ||| (b 1).l:Nat),.bool ((a 2).e || (b 2).e),.int .u64 ((a 2).f ||| (b 2).f:Nat),.int .u64 ((a 2).l ||| (b 2).l:Nat),.bool ((a 3).e || (b 3).e),.int .u64 ((a 3).f ||| (b 3).f:Nat),.int .u64 ((a 3).l ||| (b 3).l:Nat)]
structure s7 (w:World) (a b:Piece) (o:List Value) (W:World):Prop where
 fr:Fr [] w W
 sz:w.heap.size+1+1+1≤W.heap.size
 ro:kJ W w.heap.size o
 rb:kJ W (w.heap.size+1) [.bool (b 0).e,.int .u64 (b 0).f,.int .u64 (b 0).l,.bool (b 1).e,.int .u64 (b 1).f,.int .u64 (b 1).l,.bool (b 2).e,.int .u64 (b 2).f,.int .u64 (b 2).l,.bool (b 3).e,.int .u64 (b 3).f,.int .u64 (b 3).l]
 rr:kJ W (w.heap.size+1+1) [.bool false,.int .u64 0,.int .u64 0,.bool false,.int .u64 0,.int .u64 0,.bool false,.int .u64 0,.int .u64 0,.bool false,.int .u64 0,.int .u64 0]
 zo:∀ i,W.frozen? ⟨w.heap.size,i,none⟩=false
 zr:∀ i,W.frozen? ⟨w.heap.size+1+1,i,none⟩=false
theorem s7.drew {w:World}{a b:Piece}{o:List Value}{W:World} (h:s7 w a b o W):s7 w a b o W.drew:=⟨h.fr.drew,h.sz,h.ro,h.rb,h.rr,h.zo,h.zr⟩
theorem s7.set {w:World}{a b:Piece}{o:List Value}{W:World} (h:s7 w a b o W) (k:Nat) (hk:k<o.length) (v:Value) :
  s7 w a b (o.set k v) (W.setCell ⟨w.heap.size,k,none⟩ v):=
 ⟨h.fr.setCell (p:=⟨w.heap.size,k,none⟩) (.inr (by simp)) _,by simpa [World.setCell] using h.sz,h.ro.set k hk v,fun i=>(aQ (by omega)).trans (h.rb i),fun i=>(aQ (by omega)).trans (h.rr i),
  fun i=>(wfz _ _ _ _).trans (h.zo i),fun i=>(wfz _ _ _ _).trans (h.zr i)⟩
theorem mN (a b:Piece)(ha:a.ok)(hb:b.ok)(w:World):Calls prog 167 #[pv a,pv b] w fun e w'=>e=.returned (pv (aK a b))∧Fr [] w w':=by
 have hm:prog.follows Departure.mixedOrders=true:=by kernel_rfl
 have o0:=bits_or_u64_nat (a 0).f (b 0).f (ha 0).1 (hb 0).1
 have o1:=bits_or_u64_nat (a 0).l (b 0).l (ha 0).2 (hb 0).2
 have o2:=bits_or_u64_nat (a 1).f (b 1).f (ha 1).1 (hb 1).1
 have o3:=bits_or_u64_nat (a 1).l (b 1).l (ha 1).2 (hb 1).2
 have o4:=bits_or_u64_nat (a 2).f (b 2).f (ha 2).1 (hb 2).1
 have o5:=bits_or_u64_nat (a 2).l (b 2).l (ha 2).2 (hb 2).2
 have o6:=bits_or_u64_nat (a 3).f (b 3).f (ha 3).1 (hb 3).1
 have o7:=bits_or_u64_nat (a 3).l (b 3).l (ha 3).2 (hb 3).2
 obtain⟨W0,hW0⟩:=eX (((w.alloc (Obj.cells #[.bool (a 0).e,.int .u64 (a 0).f,.int .u64 (a 0).l,.bool (a 1).e,.int .u64 (a 1).f,.int .u64 (a 1).l,.bool (a 2).e,.int .u64 (a 2).f,.int .u64 (a 2).l,.bool (a 3).e,.int .u64 (a 3).f,.int .u64 (a 3).l] 217)).alloc (Obj.cells #[.bool (b 0).e,.int .u64 (b 0).f,.int .u64 (b 0).l,.bool (b 1).e,.int .u64 (b 1).f,.int .u64 (b 1).l,.bool (b 2).e,.int .u64 (b 2).f,.int .u64 (b 2).l,.bool (b 3).e,.int .u64 (b 3).f,.int .u64 (b 3).l] 217)).alloc (Obj.cells #[.bool false,.int .u64 0,.int .u64 0,.bool false,.int .u64 0,.int .u64 0,.bool false,.int .u64 0,.int .u64 0,.bool false,.int .u64 0,.int .u64 0] 217))
 have J0:s7 w a b (pV a b 0) W0:=by
  rw[← hW0]
  refine⟨(((Fr.refl [] _).alloc _).alloc _).alloc _,by simp,?_,?_,?_,?_,?_⟩
  ·exact ((eQ w [.bool (a 0).e,.int .u64 (a 0).f,.int .u64 (a 0).l,.bool (a 1).e,.int .u64 (a 1).f,.int .u64 (a 1).l,.bool (a 2).e,.int .u64 (a 2).f,.int .u64 (a 2).l,.bool (a 3).e,.int .u64 (a 3).f,.int .u64 (a 3).l] 217).fr (((Fr.refl [] _).alloc _).alloc _) (by simp) (by simp))
  ·have:=(eQ (w.alloc (Obj.cells #[.bool (a 0).e,.int .u64 (a 0).f,.int .u64 (a 0).l,.bool (a 1).e,.int .u64 (a 1).f,.int .u64 (a 1).l,.bool (a 2).e,.int .u64 (a 2).f,.int .u64 (a 2).l,.bool (a 3).e,.int .u64 (a 3).f,.int .u64 (a 3).l] 217)) [.bool (b 0).e,.int .u64 (b 0).f,.int .u64 (b 0).l,.bool (b 1).e,.int .u64 (b 1).f,.int .u64 (b 1).l,.bool (b 2).e,.int .u64 (b 2).f,.int .u64 (b 2).l,.bool (b 3).e,.int .u64 (b 3).f,.int .u64 (b 3).l] 217).fr ((Fr.refl [] _).alloc (Obj.cells #[.bool false,.int .u64 0,.int .u64 0,.bool false,.int .u64 0,.int .u64 0,.bool false,.int .u64 0,.int .u64 0,.bool false,.int .u64 0,.int .u64 0] 217)) (by simp) (by simp)
   rwa [World.size_alloc] at this
  ·have:=(eQ ((w.alloc (Obj.cells #[.bool (a 0).e,.int .u64 (a 0).f,.int .u64 (a 0).l,.bool (a 1).e,.int .u64 (a 1).f,.int .u64 (a 1).l,.bool (a 2).e,.int .u64 (a 2).f,.int .u64 (a 2).l,.bool (a 3).e,.int .u64 (a 3).f,.int .u64 (a 3).l] 217)).alloc (Obj.cells #[.bool (b 0).e,.int .u64 (b 0).f,.int .u64 (b 0).l,.bool (b 1).e,.int .u64 (b 1).f,.int .u64 (b 1).l,.bool (b 2).e,.int .u64 (b 2).f,.int .u64 (b 2).l,.bool (b 3).e,.int .u64 (b 3).f,.int .u64 (b 3).l] 217)) [.bool false,.int .u64 0,.int .u64 0,.bool false,.int .u64 0,.int .u64 0,.bool false,.int .u64 0,.int .u64 0,.bool false,.int .u64 0,.int .u64 0] 217)
   rwa [World.size_alloc,World.size_alloc] at this
  ·intro i
   have:=dL w [.bool (a 0).e,.int .u64 (a 0).f,.int .u64 (a 0).l,.bool (a 1).e,.int .u64 (a 1).f,.int .u64 (a 1).l,.bool (a 2).e,.int .u64 (a 2).f,.int .u64 (a 2).l,.bool (a 3).e,.int .u64 (a 3).f,.int .u64 (a 3).l] 217 i
   exact (World.frozen?_alloc_past _ _ _ (by simp;omega)).trans ((World.frozen?_alloc_past _ _ _ (by simp)).trans this)
  ·intro i
   have:=dL ((w.alloc (Obj.cells #[.bool (a 0).e,.int .u64 (a 0).f,.int .u64 (a 0).l,.bool (a 1).e,.int .u64 (a 1).f,.int .u64 (a 1).l,.bool (a 2).e,.int .u64 (a 2).f,.int .u64 (a 2).l,.bool (a 3).e,.int .u64 (a 3).f,.int .u64 (a 3).l] 217)).alloc (Obj.cells #[.bool (b 0).e,.int .u64 (b 0).f,.int .u64 (b 0).l,.bool (b 1).e,.int .u64 (b 1).f,.int .u64 (b 1).l,.bool (b 2).e,.int .u64 (b 2).f,.int .u64 (b 2).l,.bool (b 3).e,.int .u64 (b 3).f,.int .u64 (b 3).l] 217)) [.bool false,.int .u64 0,.int .u64 0,.bool false,.int .u64 0,.int .u64 0,.bool false,.int .u64 0,.int .u64 0,.bool false,.int .u64 0,.int .u64 0] 217 i
   rwa [World.size_alloc,World.size_alloc] at this
 unfold pv
 go_enter func167,ntmps167
 go_wp2
 clear hW0
 go_loopw [5,6] (fun _ i wr=>∃ k:Nat,k≤4∧i=.int .i64 k∧s7 w a b (pV a b k) wr) (fun _ i _=>4-(intOf i).toNat)
 case atStart=>exact⟨0,by decide,rfl,J0⟩
 case round=>
  obtain⟨k,hk,rfl,J⟩:=hrel
  obtain rfl | rfl | rfl | rfl | rfl:k=0∨k=1∨k=2∨k=3∨k=4:=by omega
  ·have c0:wr.cell? ⟨w.heap.size,0,none⟩=some (.bool (a 0).e):=J.ro 0
   have c1:wr.cell? ⟨w.heap.size,1,none⟩=some (.int .u64 (a 0).f):=J.ro 1
   have c2:wr.cell? ⟨w.heap.size,2,none⟩=some (.int .u64 (a 0).l):=J.ro 2
   have c3:wr.cell? ⟨w.heap.size+1,0,none⟩=some (.bool (b 0).e):=J.rb 0
   have c4:wr.cell? ⟨w.heap.size+1,1,none⟩=some (.int .u64 (b 0).f):=J.rb 1
   have c5:wr.cell? ⟨w.heap.size+1,2,none⟩=some (.int .u64 (b 0).l):=J.rb 2
   have z0:=J.zo 0
   have z1:=J.zo 1
   have z2:=J.zo 2
   have hset:∀ x:Bool,x=((a 0).e || (b 0).e)→(((pV a b 0).set 0 (.bool x)).set 1 (.int .u64 ((a 0).f ||| (b 0).f:Nat))).set 2 (.int .u64 ((a 0).l ||| (b 0).l:Nat))=pV a b 1:=by
    rintro x rfl;rfl
   cases he:(a 0).e
   all_goals
    rw[he] at c0
    go_wp2
    refine aR 11 hm (by kernel_rfl) ?_
    simp only[List.take_succ_cons,List.take_zero,List.drop_succ_cons,List.drop_zero]
    repeat still_step
    refine wpStill_nil ?_
    go_wp2
    refine aR 11 hm (by kernel_rfl) ?_
    simp only[List.take_succ_cons,List.take_zero,List.drop_succ_cons,List.drop_zero]
    repeat still_step
    refine wpStill_nil ?_
    go_wp2
    refine⟨⟨1,by decide,rfl,?_⟩,by decide⟩
    have JJ:=fun (x:Bool) (hx:x=((a 0).e || (b 0).e))=>(hset x hx) ▸ (((J.set 0 (by simp[pV]) (.bool x)).set 1 (by simp[pV]) (.int .u64 ((a 0).f ||| (b 0).f:Nat))).set 2 (by simp[pV]) (.int .u64 ((a 0).l ||| (b 0).l:Nat))).drew.drew
    exact JJ _ (by rw[he];rfl)
  ·have c0:wr.cell? ⟨w.heap.size,3,none⟩=some (.bool (a 1).e):=J.ro 3
   have c1:wr.cell? ⟨w.heap.size,4,none⟩=some (.int .u64 (a 1).f):=J.ro 4
   have c2:wr.cell? ⟨w.heap.size,5,none⟩=some (.int .u64 (a 1).l):=J.ro 5
   have c3:wr.cell? ⟨w.heap.size+1,3,none⟩=some (.bool (b 1).e):=J.rb 3
   have c4:wr.cell? ⟨w.heap.size+1,4,none⟩=some (.int .u64 (b 1).f):=J.rb 4
   have c5:wr.cell? ⟨w.heap.size+1,5,none⟩=some (.int .u64 (b 1).l):=J.rb 5
   have z0:=J.zo 3
   have z1:=J.zo 4
   have z2:=J.zo 5
   have hset:∀ x:Bool,x=((a 1).e || (b 1).e)→(((pV a b 1).set 3 (.bool x)).set 4 (.int .u64 ((a 1).f ||| (b 1).f:Nat))).set 5 (.int .u64 ((a 1).l ||| (b 1).l:Nat))=pV a b 2:=by
    rintro x rfl;rfl
   cases he:(a 1).e
   all_goals
    rw[he] at c0
    go_wp2
    refine aR 11 hm (by kernel_rfl) ?_
    simp only[List.take_succ_cons,List.take_zero,List.drop_succ_cons,List.drop_zero]
    repeat still_step
    refine wpStill_nil ?_
    go_wp2
    refine aR 11 hm (by kernel_rfl) ?_
    simp only[List.take_succ_cons,List.take_zero,List.drop_succ_cons,List.drop_zero]
    repeat still_step
    refine wpStill_nil ?_
    go_wp2
    refine⟨⟨2,by decide,rfl,?_⟩,by decide⟩
    have JJ:=fun (x:Bool) (hx:x=((a 1).e || (b 1).e))=>(hset x hx) ▸ (((J.set 3 (by simp[pV]) (.bool x)).set 4 (by simp[pV]) (.int .u64 ((a 1).f ||| (b 1).f:Nat))).set 5 (by simp[pV]) (.int .u64 ((a 1).l ||| (b 1).l:Nat))).drew.drew
    exact JJ _ (by rw[he];rfl)
  ·have c0:wr.cell? ⟨w.heap.size,6,none⟩=some (.bool (a 2).e):=J.ro 6
   have c1:wr.cell? ⟨w.heap.size,7,none⟩=some (.int .u64 (a 2).f):=J.ro 7
   have c2:wr.cell? ⟨w.heap.size,8,none⟩=some (.int .u64 (a 2).l):=J.ro 8
   have c3:wr.cell? ⟨w.heap.size+1,6,none⟩=some (.bool (b 2).e):=J.rb 6
   have c4:wr.cell? ⟨w.heap.size+1,7,none⟩=some (.int .u64 (b 2).f):=J.rb 7
   have c5:wr.cell? ⟨w.heap.size+1,8,none⟩=some (.int .u64 (b 2).l):=J.rb 8
   have z0:=J.zo 6
   have z1:=J.zo 7
   have z2:=J.zo 8
   have hset:∀ x:Bool,x=((a 2).e || (b 2).e)→(((pV a b 2).set 6 (.bool x)).set 7 (.int .u64 ((a 2).f ||| (b 2).f:Nat))).set 8 (.int .u64 ((a 2).l ||| (b 2).l:Nat))=pV a b 3:=by
    rintro x rfl;rfl
   cases he:(a 2).e
   all_goals
    rw[he] at c0
    go_wp2
    refine aR 11 hm (by kernel_rfl) ?_
    simp only[List.take_succ_cons,List.take_zero,List.drop_succ_cons,List.drop_zero]
    repeat still_step
    refine wpStill_nil ?_
    go_wp2
    refine aR 11 hm (by kernel_rfl) ?_
    simp only[List.take_succ_cons,List.take_zero,List.drop_succ_cons,List.drop_zero]
    repeat still_step
    refine wpStill_nil ?_
    go_wp2
    refine⟨⟨3,by decide,rfl,?_⟩,by decide⟩
    have JJ:=fun (x:Bool) (hx:x=((a 2).e || (b 2).e))=>(hset x hx) ▸ (((J.set 6 (by simp[pV]) (.bool x)).set 7 (by simp[pV]) (.int .u64 ((a 2).f ||| (b 2).f:Nat))).set 8 (by simp[pV]) (.int .u64 ((a 2).l ||| (b 2).l:Nat))).drew.drew
    exact JJ _ (by rw[he];rfl)
  ·have c0:wr.cell? ⟨w.heap.size,9,none⟩=some (.bool (a 3).e):=J.ro 9
   have c1:wr.cell? ⟨w.heap.size,10,none⟩=some (.int .u64 (a 3).f):=J.ro 10
   have c2:wr.cell? ⟨w.heap.size,11,none⟩=some (.int .u64 (a 3).l):=J.ro 11
   have c3:wr.cell? ⟨w.heap.size+1,9,none⟩=some (.bool (b 3).e):=J.rb 9
   have c4:wr.cell? ⟨w.heap.size+1,10,none⟩=some (.int .u64 (b 3).f):=J.rb 10
   have c5:wr.cell? ⟨w.heap.size+1,11,none⟩=some (.int .u64 (b 3).l):=J.rb 11
   have z0:=J.zo 9
   have z1:=J.zo 10
   have z2:=J.zo 11
   have hset:∀ x:Bool,x=((a 3).e || (b 3).e)→(((pV a b 3).set 9 (.bool x)).set 10 (.int .u64 ((a 3).f ||| (b 3).f:Nat))).set 11 (.int .u64 ((a 3).l ||| (b 3).l:Nat))=pV a b 4:=by
    rintro x rfl;rfl
   cases he:(a 3).e
   all_goals
    rw[he] at c0
    go_wp2
    refine aR 11 hm (by kernel_rfl) ?_
    simp only[List.take_succ_cons,List.take_zero,List.drop_succ_cons,List.drop_zero]
    repeat still_step
    refine wpStill_nil ?_
    go_wp2
    refine aR 11 hm (by kernel_rfl) ?_
    simp only[List.take_succ_cons,List.take_zero,List.drop_succ_cons,List.drop_zero]
    repeat still_step
    refine wpStill_nil ?_
    go_wp2
    refine⟨⟨4,by decide,rfl,?_⟩,by decide⟩
    have JJ:=fun (x:Bool) (hx:x=((a 3).e || (b 3).e))=>(hset x hx) ▸ (((J.set 9 (by simp[pV]) (.bool x)).set 10 (by simp[pV]) (.int .u64 ((a 3).f ||| (b 3).f:Nat))).set 11 (by simp[pV]) (.int .u64 ((a 3).l ||| (b 3).l:Nat))).drew.drew
    exact JJ _ (by rw[he];rfl)
  ·have x0:wr.cell? ⟨w.heap.size,0,none⟩=some (.bool ((a 0).e || (b 0).e)):=J.ro 0
   have y0:wr.cell? ⟨w.heap.size+1+1,0,none⟩=some (.bool false):=J.rr 0
   have z0:=J.zr 0
   have x1:wr.cell? ⟨w.heap.size,1,none⟩=some (.int .u64 ((a 0).f ||| (b 0).f:Nat)):=J.ro 1
   have y1:wr.cell? ⟨w.heap.size+1+1,1,none⟩=some (.int .u64 0):=J.rr 1
   have z1:=J.zr 1
   have x2:wr.cell? ⟨w.heap.size,2,none⟩=some (.int .u64 ((a 0).l ||| (b 0).l:Nat)):=J.ro 2
   have y2:wr.cell? ⟨w.heap.size+1+1,2,none⟩=some (.int .u64 0):=J.rr 2
   have z2:=J.zr 2
   have x3:wr.cell? ⟨w.heap.size,3,none⟩=some (.bool ((a 1).e || (b 1).e)):=J.ro 3
   have y3:wr.cell? ⟨w.heap.size+1+1,3,none⟩=some (.bool false):=J.rr 3
   have z3:=J.zr 3
   have x4:wr.cell? ⟨w.heap.size,4,none⟩=some (.int .u64 ((a 1).f ||| (b 1).f:Nat)):=J.ro 4
   have y4:wr.cell? ⟨w.heap.size+1+1,4,none⟩=some (.int .u64 0):=J.rr 4
   have z4:=J.zr 4
   have x5:wr.cell? ⟨w.heap.size,5,none⟩=some (.int .u64 ((a 1).l ||| (b 1).l:Nat)):=J.ro 5
   have y5:wr.cell? ⟨w.heap.size+1+1,5,none⟩=some (.int .u64 0):=J.rr 5
   have z5:=J.zr 5
   have x6:wr.cell? ⟨w.heap.size,6,none⟩=some (.bool ((a 2).e || (b 2).e)):=J.ro 6
   have y6:wr.cell? ⟨w.heap.size+1+1,6,none⟩=some (.bool false):=J.rr 6
   have z6:=J.zr 6
   have x7:wr.cell? ⟨w.heap.size,7,none⟩=some (.int .u64 ((a 2).f ||| (b 2).f:Nat)):=J.ro 7
   have y7:wr.cell? ⟨w.heap.size+1+1,7,none⟩=some (.int .u64 0):=J.rr 7
   have z7:=J.zr 7
   have x8:wr.cell? ⟨w.heap.size,8,none⟩=some (.int .u64 ((a 2).l ||| (b 2).l:Nat)):=J.ro 8
   have y8:wr.cell? ⟨w.heap.size+1+1,8,none⟩=some (.int .u64 0):=J.rr 8
   have z8:=J.zr 8
   have x9:wr.cell? ⟨w.heap.size,9,none⟩=some (.bool ((a 3).e || (b 3).e)):=J.ro 9
   have y9:wr.cell? ⟨w.heap.size+1+1,9,none⟩=some (.bool false):=J.rr 9
   have z9:=J.zr 9
   have x10:wr.cell? ⟨w.heap.size,10,none⟩=some (.int .u64 ((a 3).f ||| (b 3).f:Nat)):=J.ro 10
   have y10:wr.cell? ⟨w.heap.size+1+1,10,none⟩=some (.int .u64 0):=J.rr 10
   have z10:=J.zr 10
   have x11:wr.cell? ⟨w.heap.size,11,none⟩=some (.int .u64 ((a 3).l ||| (b 3).l:Nat)):=J.ro 11
   have y11:wr.cell? ⟨w.heap.size+1+1,11,none⟩=some (.int .u64 0):=J.rr 11
   have z11:=J.zr 11
   go_wp2
   refine bodyPost_ret (v:=pv (aK a b)) (by simp[results,results167,go_sem,pv,aK,x0,x1,x2,x3,x4,x5,x6,x7,x8,x9,x10,x11,y0,y1,y2,y3,y4,y5,y6,y7,y8,y9,y10,y11]) rfl ⟨rfl,?_⟩
   have hfr:=fJ wr (w.heap.size+1+1) (.bool ((a 0).e || (b 0).e)) (.int .u64 ((a 0).f ||| (b 0).f:Nat)) (.int .u64 ((a 0).l ||| (b 0).l:Nat)) (.bool ((a 1).e || (b 1).e)) (.int .u64 ((a 1).f ||| (b 1).f:Nat)) (.int .u64 ((a 1).l ||| (b 1).l:Nat)) (.bool ((a 2).e || (b 2).e)) (.int .u64 ((a 2).f ||| (b 2).f:Nat)) (.int .u64 ((a 2).l ||| (b 2).l:Nat)) (.bool ((a 3).e || (b 3).e)) (.int .u64 ((a 3).f ||| (b 3).f:Nat)) (.int .u64 ((a 3).l ||| (b 3).l:Nat))
   exact J.fr.trans' hfr (by simp;omega)
def uW (w:World) (r pb:Nat) (t:ByteArray) (wh:Nat→Value) (x:Piece × St):Ending→World→Prop:=fun e w'=>e=.returned (pv x.1)∧M w' r pb t wh x.2∧Fr [r,pb] w w'
def D8 (n:Nat):Prop:=∀ (w:World) (r pb:Nat) (t:ByteArray) (wh:Nat→Value) (s:St),M w r pb t wh s→Inv t s→t.size≤50→6*(t.size-s.pos)+6≤n→Calls prog 150 #[.pointer (some ⟨r,0,none⟩)] w (uW w r pb t wh (jN t n s))
def aFc (n:Nat):Prop:=∀ (w:World) (r pb:Nat) (t:ByteArray) (wh:Nat→Value) (s:St),M w r pb t wh s→Inv t s→t.size≤50→6*(t.size-s.pos)+4≤n→Calls prog 165 #[.pointer (some ⟨r,0,none⟩)] w (uW w r pb t wh (nX t n s))
def X7 (n:Nat):Prop:=∀ (w:World) (r pb:Nat) (t:ByteArray) (wh:Nat→Value) (s:St),M w r pb t wh s→Inv t s→t.size≤50→aB t s≠-1→6*(t.size-s.pos)+2≤n→Calls prog 186 #[.pointer (some ⟨r,0,none⟩)] w (uW w r pb t wh (dK t n s))
def X8 (n:Nat):Prop:=∀ (w:World) (r pb:Nat) (t:ByteArray) (wh:Nat→Value) (s:St),M w r pb t wh s→Inv t s→t.size≤50→aB t s≠-1→6*(t.size-s.pos)+1≤n→Calls prog 198 #[.pointer (some ⟨r,0,none⟩)] w (uW w r pb t wh (lG t n s))
theorem Inv.tk64 {t:ByteArray}{s:St} (h:Inv t s) (hs:t.size≤50) (b:Nat):s.tk b<18446744073709551616:=
 Nll (h.tk b) (Nat.le_trans (Nat.pow_le_pow_right (n:=2) (by decide) (show s.atoms≤50 by have:=h.at_;have:=h.pos;omega)) (by decide))
theorem Inv.fo64 {t:ByteArray}{s:St} (h:Inv t s) (hs:t.size≤50) (x a:Nat):s.fo x a<18446744073709551616:=
 Nll (h.fo x a) (Nat.le_trans (Nat.pow_le_pow_right (n:=2) (by decide) (show s.atoms≤50 by have:=h.at_;have:=h.pos;omega)) (by decide))
theorem PB.ok {n:Nat}{q:Piece} (h:PB n q) (hn:n≤50):q.ok:=fun x=>
 ⟨Nll (h x).1 (Nat.le_trans (Nat.pow_le_pow_right (n:=2) (by decide) hn) (by decide)),Nll (h x).2 (Nat.le_trans (Nat.pow_le_pow_right (n:=2) (by decide) hn) (by decide))⟩
theorem PB.l50 {n:Nat}{q:Piece} (h:PB n q) (hn:n≤50) (x:Nat):(q x).l<1125899906842624:=
 Nll (h x).2 (Nat.le_trans (Nat.pow_le_pow_right (n:=2) (by decide) hn) (by decide))
theorem Res.drewN {b:Nat}{W:World} (h:Res b W) (n:Nat):Res b (W.drewN n):=⟨h.rr,h.zr⟩
section
variable {w : World} {r pb : Nat} {t : ByteArray} {wh : Nat → Value} {s : St}
theorem aMp (n:Nat)(hA:D8 n)(h:M w r pb t wh s)(hi:Inv t s)(hs:t.size≤50)(hc:aB t s=40)(hn:6*(t.size-s.pos)+1≤n+1) :
  Calls prog 198 #[.pointer (some ⟨r,0,none⟩)] w (uW w r pb t wh ((jN t n (aS s)).1,eF t (jN t n (aS s)).2 41)):=by
 have t6:=h.tab.lt
 have hp:aB t s≠-1:=by rw[hc];decide
 have hrl:=h.rlt
 have hpl:=h.pat.lt
 have hps:=hi.pos
 have hat:=hi.at_
 have hlt:=(cA hp).2
 have hadv:=hi.adv hp
 have e40:(aB t s==40)=true:=by simp[hc]
 have gv:=(eY t n).alt _ hadv
 have hpo:=gv.inv.pos
 have hal:=fun (W:World) (hW:M W r pb t wh (aS s))=>hA W r pb t wh (aS s) hW hadv hs (by simp[aS];omega)
 unfold uW at hal ⊢
 obtain⟨q,hq⟩:=eX ((jN t n (aS s)).1)
 obtain⟨s1,hs1⟩:∃ q,(jN t n (aS s)).2=q:=⟨_,rfl⟩
 simp only[hq,hs1] at hal hpo ⊢
 clear hq hs1 gv
 have hnd:=fun (W:World) (hW:M W r pb t wh s1)=>O2 41 hW hs (by omega)
 obtain⟨q',hq⟩:∃ q',q=q':=⟨_,rfl⟩
 obtain⟨sq,hsq⟩:∃ q,eF t s1 41=q:=⟨_,rfl⟩
 simp only[hsq] at hnd
 have Hq:Hid (q=q):=rfl
 have Hs:Hid (_=sq):=hsq
 have Hal:=(show Hid _ from hal)
 have Hnd:=(show Hid _ from hnd)
 clear hsq hal hnd hc hq q'
 go_enter func198,ntmps198
 go_wp2_with fail
 refine (dW (h.fr (((Fr.refl [] w).alloc (Obj.cells #[.bool false,.int .u64 0,.int .u64 0,.bool false,.int .u64 0,.int .u64 0,.bool false,.int .u64 0,.int .u64 0,.bool false,.int .u64 0,.int .u64 0] 217))) (by simp) (by simp) (by simp)) hs).mono ?_
 rintro e w1 ⟨rfl,n1,rfl⟩
 have m1:M ((w.alloc (Obj.cells #[.bool false,.int .u64 0,.int .u64 0,.bool false,.int .u64 0,.int .u64 0,.bool false,.int .u64 0,.int .u64 0,.bool false,.int .u64 0,.int .u64 0] 217)).drewN n1) r pb t wh s:=(h.fr (((Fr.refl [] w).alloc (Obj.cells #[.bool false,.int .u64 0,.int .u64 0,.bool false,.int .u64 0,.int .u64 0,.bool false,.int .u64 0,.int .u64 0,.bool false,.int .u64 0,.int .u64 0] 217))) (by simp) (by simp) (by simp)).heap rfl
 have R1:=(Res.new w).drewN n1
 have F1:Fr [r,pb] w ((w.alloc (Obj.cells #[.bool false,.int .u64 0,.int .u64 0,.bool false,.int .u64 0,.int .u64 0,.bool false,.int .u64 0,.int .u64 0,.bool false,.int .u64 0,.int .u64 0] 217)).drewN n1):=((Fr.refl _ w).alloc _).drewN n1
 generalize (w.alloc (Obj.cells #[.bool false,.int .u64 0,.int .u64 0,.bool false,.int .u64 0,.int .u64 0,.bool false,.int .u64 0,.int .u64 0,.bool false,.int .u64 0,.int .u64 0] 217)).drewN n1=W1 at *
 have c1:=m1.rd.c1
 have z1:=m1.rd.f1
 have p1:(s.pos:Int)≤50:=by omega
 go_wp2_with fail
 have m2:=m1.adv
 have f2:Fr [r] W1 (W1.setCell ⟨r,1,none⟩ (.int .i64 ((s.pos:Int)+1))):=(Fr.refl [r] W1).setCell (p:=⟨r,1,none⟩) (.inl (by simp)) _
 have R2:=R1.fr f2 (by simp;omega)
 have F2:=F1.trans (f2.mono (S':=[r,pb]) (by simp))
 clear c1 z1 m1 R1 F1 f2
 refine (Hal.out _ m2).mono ?_
 clear m2
 rintro e w3 ⟨rfl,m3,f3⟩
 have R3:=R2.fr f3 (by simp;omega)
 have F3:=F2.trans f3
 clear R2 F2 f3
 have f4:Fr [] w3 (w3.alloc (Obj.cells #[.bool (q 0).e,.int .u64 (q 0).f,.int .u64 (q 0).l,.bool (q 1).e,.int .u64 (q 1).f,.int .u64 (q 1).l,.bool (q 2).e,.int .u64 (q 2).f,.int .u64 (q 2).l,.bool (q 3).e,.int .u64 (q 3).f,.int .u64 (q 3).l] 217)):=(Fr.refl _ _).alloc _
 have m4:=m3.fr f4 (by simp) (by simp) (by simp)
 have R4:=R3.fr f4 (by simp)
 have F4:=F3.trans (f4.mono (S':=[r,pb]) (by simp))
 have O4:=eQ w3 [.bool (q 0).e,.int .u64 (q 0).f,.int .u64 (q 0).l,.bool (q 1).e,.int .u64 (q 1).f,.int .u64 (q 1).l,.bool (q 2).e,.int .u64 (q 2).f,.int .u64 (q 2).l,.bool (q 3).e,.int .u64 (q 3).f,.int .u64 (q 3).l] 217
 have s3:=F3.size
 have R3lt:=R3.lt
 have l4:w3.heap.size<(w3.alloc (Obj.cells #[.bool (q 0).e,.int .u64 (q 0).f,.int .u64 (q 0).l,.bool (q 1).e,.int .u64 (q 1).f,.int .u64 (q 1).l,.bool (q 2).e,.int .u64 (q 2).f,.int .u64 (q 2).l,.bool (q 3).e,.int .u64 (q 3).f,.int .u64 (q 3).l] 217)).heap.size:=by simp
 clear f4
 unfold pv
 go_wp2_with fail
 refine (Hnd.out _ m4).mono ?_
 rintro e w5 ⟨rfl,m5,f5⟩
 have R5:=R4.fr f5 (by simp;omega)
 have F5:=F4.trans (f5.mono (S':=[r,pb]) (by simp))
 have O5:=O4.fr f5 (by simp;omega) l4
 have x0:w5.cell? ⟨w3.heap.size,0,none⟩=some (.bool (q 0).e):=O5 0
 have x1:w5.cell? ⟨w3.heap.size,1,none⟩=some (.int .u64 (q 0).f):=O5 1
 have x2:w5.cell? ⟨w3.heap.size,2,none⟩=some (.int .u64 (q 0).l):=O5 2
 have x3:w5.cell? ⟨w3.heap.size,3,none⟩=some (.bool (q 1).e):=O5 3
 have x4:w5.cell? ⟨w3.heap.size,4,none⟩=some (.int .u64 (q 1).f):=O5 4
 have x5:w5.cell? ⟨w3.heap.size,5,none⟩=some (.int .u64 (q 1).l):=O5 5
 have x6:w5.cell? ⟨w3.heap.size,6,none⟩=some (.bool (q 2).e):=O5 6
 have x7:w5.cell? ⟨w3.heap.size,7,none⟩=some (.int .u64 (q 2).f):=O5 7
 have x8:w5.cell? ⟨w3.heap.size,8,none⟩=some (.int .u64 (q 2).l):=O5 8
 have x9:w5.cell? ⟨w3.heap.size,9,none⟩=some (.bool (q 3).e):=O5 9
 have x10:w5.cell? ⟨w3.heap.size,10,none⟩=some (.int .u64 (q 3).f):=O5 10
 have x11:w5.cell? ⟨w3.heap.size,11,none⟩=some (.int .u64 (q 3).l):=O5 11
 obtain⟨y0,y1,y2,y3,y4,y5,y6,y7,y8,y9,y10,y11⟩:=R5.al
 obtain⟨z0,z1,z2,z3,z4,z5,z6,z7,z8,z9,z10,z11⟩:=R5.az
 go_wp2
 have hfr:=fJ w5 w.heap.size (.bool (q 0).e) (.int .u64 (q 0).f) (.int .u64 (q 0).l) (.bool (q 1).e) (.int .u64 (q 1).f) (.int .u64 (q 1).l) (.bool (q 2).e) (.int .u64 (q 2).f) (.int .u64 (q 2).l) (.bool (q 3).e) (.int .u64 (q 3).f) (.int .u64 (q 3).l)
 refine bodyPost_ret (v:=pv q) (by simp[results,results198,go_sem,pv,y0,y1,y2,y3,y4,y5,y6,y7,y8,y9,y10,y11]) rfl ⟨rfl,?_,?_⟩
 ·rw[Hs.out];exact m5.fr hfr (by simp;omega) (by simp;omega) (by simp;omega)
 ·exact F5.trans' hfr (by simp)
end
theorem aGw (t:ByteArray)(s:St):0≤(cM t s).1∧(cM t s).1<256:=by
 have h:=aNo t (aU t s 92).2
 unfold cM
 split
 ·simp
 ·simp only;omega
section
variable {w : World} {r pb : Nat} {t : ByteArray} {wh : Nat → Value} {s : St}
theorem uV (h:M w r pb t wh s)(hi:Inv t s)(hs:t.size≤50)(X:Piece × St)(hX:(∃ n,aB t s=91∧6*(t.size-s.pos)+1≤n+1∧X=iL t n (aS s))∨(aB t s=46∧X=fT (aS s) 0 255)∨(aB t s=94∧X=(fZ 1,aS s))∨(aB t s=36∧X=(fZ 2,aS s))) :
  Calls prog 198 #[.pointer (some ⟨r,0,none⟩)] w (uW w r pb t wh X):=by
 have t6:=h.tab.lt
 have hp:aB t s≠-1:=by rcases hX with ⟨n,hc,-,-⟩ | ⟨hc,-⟩ | ⟨hc,-⟩ | ⟨hc,-⟩ <;> rw[hc] <;> decide
 have hrl:=h.rlt
 have hpl:=h.pat.lt
 have hps:=hi.pos
 have hat:=hi.at_
 have hlt:=(cA hp).2
 have hadv:=hi.adv hp
 obtain⟨q,sq⟩:=X
 unfold uW
 simp only
 rcases hX with ⟨n,hc,hn,hX⟩ | ⟨hc,hX⟩ | ⟨hc,hX⟩ | ⟨hc,hX⟩
 all_goals
  first | have e40:(aB t s==40)=true:=by simp[hc] | have e40:(aB t s==40)=false:=by simp[hc]
  first | have e91:(aB t s==91)=true:=by simp[hc] | have e91:(aB t s==91)=false:=by simp[hc]
  first | have e46:(aB t s==46)=true:=by simp[hc] | have e46:(aB t s==46)=false:=by simp[hc]
  first | have e94:(aB t s==94)=true:=by simp[hc] | have e94:(aB t s==94)=false:=by simp[hc]
  first | have e36:(aB t s==36)=true:=by simp[hc] | have e36:(aB t s==36)=false:=by simp[hc]
  first
   | (have hcl:=fun (W:World) (hW:M W r pb t wh (aS s))=>aSc n hW hadv hs (by simp[aS];omega) (by simp[aS];omega)
      simp only[← hX] at hcl)
   | (have:(q,sq)=fT (aS s) 0 255:=hX
      have hcl:=fun (W:World) (hW:M W r pb t wh (aS s))=>aFx 0 255 (by decide) (by decide) hW (by simp[aS];omega) (hadv.tk64 hs)
      simp only[← hX,Int.natCast_zero,show ((255:Nat):Int)=255 from rfl] at hcl)
   | (simp only[Prod.mk.injEq] at hX
      obtain⟨hq,rfl⟩:=hX
      first
       | (have:q=fZ 1:=hq
          have hcl:=fun (W:World) (hW:M W r pb t wh (aS s))=>(aEw W).mono fun e w' hh=>(AI hh.1 (AI (hW.fr hh.2 (by simp) (by simp) (by simp)) (hh.2.mono (S':=[r,pb]) (by simp))):e=_∧M w' r pb t wh (aS s)∧Fr [r,pb] W w'))
       | have hcl:=fun (W:World) (hW:M W r pb t wh (aS s))=>(aMs W).mono fun e w' hh=>(AI hh.1 (AI (hW.fr hh.2 (by simp) (by simp) (by simp)) (hh.2.mono (S':=[r,pb]) (by simp))):e=_∧M w' r pb t wh (aS s)∧Fr [r,pb] W w')
      simp only[← hq] at hcl)
  have Hcl:=(show Hid _ from hcl)
  clear hcl hc
  try clear hX
  try clear this
  try clear hq
  go_enter func198,ntmps198
  go_wp2_with fail
  refine (dW (h.fr (((Fr.refl [] w).alloc (Obj.cells #[.bool false,.int .u64 0,.int .u64 0,.bool false,.int .u64 0,.int .u64 0,.bool false,.int .u64 0,.int .u64 0,.bool false,.int .u64 0,.int .u64 0] 217))) (by simp) (by simp) (by simp)) hs).mono ?_
  rintro e w1 ⟨rfl,n1,rfl⟩
  have m1:M ((w.alloc (Obj.cells #[.bool false,.int .u64 0,.int .u64 0,.bool false,.int .u64 0,.int .u64 0,.bool false,.int .u64 0,.int .u64 0,.bool false,.int .u64 0,.int .u64 0] 217)).drewN n1) r pb t wh s:=(h.fr (((Fr.refl [] w).alloc (Obj.cells #[.bool false,.int .u64 0,.int .u64 0,.bool false,.int .u64 0,.int .u64 0,.bool false,.int .u64 0,.int .u64 0,.bool false,.int .u64 0,.int .u64 0] 217))) (by simp) (by simp) (by simp)).heap rfl
  have R1:=(Res.new w).drewN n1
  have F1:Fr [r,pb] w ((w.alloc (Obj.cells #[.bool false,.int .u64 0,.int .u64 0,.bool false,.int .u64 0,.int .u64 0,.bool false,.int .u64 0,.int .u64 0,.bool false,.int .u64 0,.int .u64 0] 217)).drewN n1):=((Fr.refl _ w).alloc _).drewN n1
  generalize (w.alloc (Obj.cells #[.bool false,.int .u64 0,.int .u64 0,.bool false,.int .u64 0,.int .u64 0,.bool false,.int .u64 0,.int .u64 0,.bool false,.int .u64 0,.int .u64 0] 217)).drewN n1=W1 at *
  have c1:=m1.rd.c1
  have z1:=m1.rd.f1
  have p1:(s.pos:Int)≤50:=by omega
  go_wp2_with fail
  have m2:=m1.adv
  have f2:Fr [r] W1 (W1.setCell ⟨r,1,none⟩ (.int .i64 ((s.pos:Int)+1))):=(Fr.refl [r] W1).setCell (p:=⟨r,1,none⟩) (.inl (by simp)) _
  have R2:=R1.fr f2 (by simp;omega)
  have F2:=F1.trans (f2.mono (S':=[r,pb]) (by simp))
  clear c1 z1 m1 R1 F1 f2
  refine (Hcl.out _ m2).mono ?_
  clear m2
  rintro e w3 ⟨rfl,m3,f3⟩
  have R3:=R2.fr f3 (by simp;omega)
  have F3:=F2.trans f3
  clear R2 F2 f3
  obtain⟨y0,y1,y2,y3,y4,y5,y6,y7,y8,y9,y10,y11⟩:=R3.al
  obtain⟨z0,z1,z2,z3,z4,z5,z6,z7,z8,z9,z10,z11⟩:=R3.az
  unfold pv
  go_wp2
  have hfr:=fJ w3 w.heap.size (.bool (q 0).e) (.int .u64 (q 0).f) (.int .u64 (q 0).l) (.bool (q 1).e) (.int .u64 (q 1).f) (.int .u64 (q 1).l) (.bool (q 2).e) (.int .u64 (q 2).f) (.int .u64 (q 2).l) (.bool (q 3).e) (.int .u64 (q 3).f) (.int .u64 (q 3).l)
  refine bodyPost_ret (v:=pv q) (by simp[results,results198,go_sem,pv,y0,y1,y2,y3,y4,y5,y6,y7,y8,y9,y10,y11]) rfl ⟨rfl,?_,?_⟩
  ·exact m3.fr hfr (by simp;omega) (by simp;omega) (by simp;omega)
  ·exact F3.trans' hfr (by simp)
theorem aMo (h:M w r pb t wh s)(hi:Inv t s)(hs:t.size≤50)(hp:aB t s≠-1)(h40:aB t s≠40)(h91:aB t s≠91)(h46:aB t s≠46)(h94:aB t s≠94)(h36:aB t s≠36) :
  Calls prog 198 #[.pointer (some ⟨r,0,none⟩)] w (uW w r pb t wh (fT (cM t s).2 (cM t s).1 (cM t s).1)):=by
 have t6:=h.tab.lt
 have hrl:=h.rlt
 have hpl:=h.pat.lt
 have hps:=hi.pos
 have hat:=hi.at_
 have hlt:=(cA hp).2
 have hadv:=hi.adv hp
 have e40:(aB t s==40)=false:=by simpa using h40
 have e91:(aB t s==91)=false:=by simpa using h91
 have e46:(aB t s==46)=false:=by simpa using h46
 have e94:(aB t s==94)=false:=by simpa using h94
 have e36:(aB t s==36)=false:=by simpa using h36
 obtain⟨pn,pl⟩:=sA s hp
 have pin:=pn.inv hi
 have pr:=aGw t s
 have hpa:=fun (W:World) (hW:M W r pb t wh s)=>aPo hW hs (by omega)
 have pat:=pn.atoms
 have ptk:=pin.tk64 hs
 unfold uW
 obtain⟨b',hb⟩:∃ q,(cM t s).1=q:=⟨_,rfl⟩
 obtain⟨s1,hs1⟩:∃ q,(cM t s).2=q:=⟨_,rfl⟩
 simp only[hb,hs1] at hpa pat ptk pr ⊢
 clear hb hs1 pn pl pin h40 h91 h46 h94 h36 hp
 obtain⟨b,rfl⟩:=Int.eq_ofNat_of_zero_le pr.1
 have hcl:=fun (W:World) (hW:M W r pb t wh s1)=>aFx b b (Nat.le_refl _) (by omega) hW (by omega) ptk
 obtain⟨q,hq⟩:=eX ((fT s1 b b).1)
 obtain⟨sq,hsq⟩:∃ q,(fT s1 b b).2=q:=⟨_,rfl⟩
 simp only[hq,hsq] at hcl
 have Hq:Hid (_=q):=hq
 have Hs:Hid (_=sq):=hsq
 have Hcl:=(show Hid _ from hcl)
 have Hpa:=(show Hid _ from hpa)
 clear hq hsq hcl hpa pat ptk
 go_enter func198,ntmps198
 go_wp2_with fail
 refine (dW (h.fr (((Fr.refl [] w).alloc (Obj.cells #[.bool false,.int .u64 0,.int .u64 0,.bool false,.int .u64 0,.int .u64 0,.bool false,.int .u64 0,.int .u64 0,.bool false,.int .u64 0,.int .u64 0] 217))) (by simp) (by simp) (by simp)) hs).mono ?_
 rintro e w1 ⟨rfl,n1,rfl⟩
 have m1:M ((w.alloc (Obj.cells #[.bool false,.int .u64 0,.int .u64 0,.bool false,.int .u64 0,.int .u64 0,.bool false,.int .u64 0,.int .u64 0,.bool false,.int .u64 0,.int .u64 0] 217)).drewN n1) r pb t wh s:=(h.fr (((Fr.refl [] w).alloc (Obj.cells #[.bool false,.int .u64 0,.int .u64 0,.bool false,.int .u64 0,.int .u64 0,.bool false,.int .u64 0,.int .u64 0,.bool false,.int .u64 0,.int .u64 0] 217))) (by simp) (by simp) (by simp)).heap rfl
 have R1:=(Res.new w).drewN n1
 have F1:Fr [r,pb] w ((w.alloc (Obj.cells #[.bool false,.int .u64 0,.int .u64 0,.bool false,.int .u64 0,.int .u64 0,.bool false,.int .u64 0,.int .u64 0,.bool false,.int .u64 0,.int .u64 0] 217)).drewN n1):=((Fr.refl _ w).alloc _).drewN n1
 generalize (w.alloc (Obj.cells #[.bool false,.int .u64 0,.int .u64 0,.bool false,.int .u64 0,.int .u64 0,.bool false,.int .u64 0,.int .u64 0,.bool false,.int .u64 0,.int .u64 0] 217)).drewN n1=W1 at *
 have c1:=m1.rd.c1
 have z1:=m1.rd.f1
 have p1:(s.pos:Int)≤50:=by omega
 clear c1 z1
 go_wp2_with fail
 refine (Hpa.out _ m1).mono ?_
 clear m1
 rintro e w2 ⟨rfl,m2,f2⟩
 have R2:=R1.fr f2 (by simp;omega)
 have F2:=F1.trans (f2.mono (S':=[r,pb]) (by simp))
 clear R1 F1 f2
 go_wp2_with fail
 refine (Hcl.out _ m2).mono ?_
 clear m2
 rintro e w3 ⟨rfl,m3,f3⟩
 have R3:=R2.fr f3 (by simp;omega)
 have F3:=F2.trans f3
 clear R2 F2 f3
 obtain⟨y0,y1,y2,y3,y4,y5,y6,y7,y8,y9,y10,y11⟩:=R3.al
 obtain⟨z0,z1,z2,z3,z4,z5,z6,z7,z8,z9,z10,z11⟩:=R3.az
 unfold pv
 go_wp2
 have hfr:=fJ w3 w.heap.size (.bool (q 0).e) (.int .u64 (q 0).f) (.int .u64 (q 0).l) (.bool (q 1).e) (.int .u64 (q 1).f) (.int .u64 (q 1).l) (.bool (q 2).e) (.int .u64 (q 2).f) (.int .u64 (q 2).l) (.bool (q 3).e) (.int .u64 (q 3).f) (.int .u64 (q 3).l)
 refine bodyPost_ret (v:=pv q) (by simp[results,results198,go_sem,pv,y0,y1,y2,y3,y4,y5,y6,y7,y8,y9,y10,y11]) rfl ⟨by rw[Hq.out],?_,?_⟩
 ·rw[Hs.out];exact m3.fr hfr (by simp;omega) (by simp;omega) (by simp;omega)
 ·exact F3.trans' hfr (by simp)
end
theorem aSl (n:Nat)(hA:D8 n):X8 (n+1):=by
 intro w r pb t wh s h hi hs hp hn
 rw[jM]
 split
 ·rename_i hc;exact aMp n hA h hi hs hc hn
 ·split
  ·rename_i _ hc;exact uV h hi hs _ (.inl ⟨n,hc,hn,rfl⟩)
  ·split
   ·rename_i _ _ hc;exact uV h hi hs _ (.inr (.inl ⟨hc,rfl⟩))
   ·split
    ·rename_i _ _ _ hc;exact uV h hi hs _ (.inr (.inr (.inl ⟨hc,rfl⟩)))
    ·split
     ·rename_i _ _ _ _ hc;exact uV h hi hs _ (.inr (.inr (.inr ⟨hc,rfl⟩)))
     ·rename_i h1 h2 h3 h4 h5;exact aMo h hi hs hp h1 h2 h3 h4 h5
end Go.Proofs.YtgpamchpeamnfaaGreatDoor
