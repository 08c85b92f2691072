/-
  Short names of laws of the library.
-/
import Derived.Deep.RegionHeld3
import Derived.RangeFuncRecord
import Derived.KernelRfl
import Derived.RowKit
import Derived.Laws.World
set_option linter.unusedVariables false
namespace Go.Proofs.YtclkgoigmgkffaaGreatDoor
open Go.RowKit
theorem Z1 : type_of% @List.setIfInBounds_toArray.{0} := @List.setIfInBounds_toArray
theorem Z2 : type_of% @List.set_cons_zero.{0} := @List.set_cons_zero
theorem Z3 : type_of% @List.set_cons_succ.{0} := @List.set_cons_succ
theorem Z4 : type_of% @List.getElem_toArray.{0} := @List.getElem_toArray
theorem Z5 : type_of% @List.getElem_cons_succ.{0} := @List.getElem_cons_succ
theorem Z6 : type_of% @List.getElem_cons_zero.{0} := @List.getElem_cons_zero
theorem tkH {P : Program} {md : Region.Mode} {ops : Array Oper} {Q : Exit → Act → World → Prop} {S : World → Prop} {i : Nat} {oi : Oper} {v : Value} {fuel : Nat} {listed : Array Bool} {a : Act} {w : World} (hi : ops[i]? = some oi) (hy : YieldsIf P ops S oi v a) (hS : S w)
    (h : wpAnyH P md ops Q S fuel (listed.setIfInBounds i true) (a.put oi.dst v) w) (hQ : ∀ c a w, Q (.panic c) (a.put oi.dst v) w → Q (.panic c) a w := by exact fun _ _ _ h => h) (hs : Region.noSelect ops = true := by kernel_rfl) (hf : Region.free md ops listed i = true := by kernel_rfl) (hr : (Region.ready md ops listed).contains i = true := by kernel_rfl) : wpAnyH P md ops Q S (fuel + 1) listed a w :=
  wpAnyH_take hi hs hf hr hQ hy hS h
theorem rdH {P : Program} {md : Region.Mode} {ops : Array Oper} {Q : Exit → Act → World → Prop} {S : World → Prop} {r : Nat} {fuel : Nat} {listed : Array Bool} {a : Act} {w : World} (h : AllReadyH P md ops Q S fuel listed a w [r]) (hr : Region.ready md ops listed = [r] := by kernel_rfl) : wpAnyH P md ops Q S (fuel + 1) listed a w := wpAnyH_ready hr (by simp) h
theorem wan (w : World) (o : Obj) : (w.alloc o).heap[w.heap.size]? = some o := World.alloc_heap_new w o
theorem wfz : type_of% @World.frozen?_setCell := @World.frozen?_setCell
theorem Age : type_of% @Array.getElem?_eq_some_iff.{0} := @Array.getElem?_eq_some_iff
theorem Lge : type_of% @List.getElem?_eq_getElem.{0} := @List.getElem?_eq_getElem
theorem Lgs : type_of% @List.getElem?_eq_some_iff.{0} := @List.getElem?_eq_some_iff
theorem Lla : type_of% @List.length_append.{0} := @List.length_append
theorem Nll : type_of% @Nat.lt_of_lt_of_le := @Nat.lt_of_lt_of_le
theorem AI {a b : Prop} (h : a) (g : b) : a ∧ b := ⟨h, g⟩
end Go.Proofs.YtclkgoigmgkffaaGreatDoor
