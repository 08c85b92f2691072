/-
  Short names of laws of the library.
-/
import Derived.Deep.RegionHeld3
import Derived.RangeFuncRecord
import Derived.KernelRfl
import Derived.RowKit
import Derived.Laws.World
set_option linter.unusedVariables false
namespace Go.Proofs.YtgpamchpeamnfaaGreatDoor
open Go.RowKit
theorem Z1 : type_of% @List.setIfInBounds_toArray.{0} := @List.setIfInBounds_toArray
theorem Z2 : type_of% @List.set_cons_zero.{0} := @List.set_cons_zero
theorem Z3 : type_of% @List.set_cons_succ.{0} := @List.set_cons_succ
theorem Z4 : type_of% @List.getElem_toArray.{0} := @List.getElem_toArray
theorem Z5 : type_of% @List.getElem_cons_succ.{0} := @List.getElem_cons_succ
theorem Z6 : type_of% @List.getElem_cons_zero.{0} := @List.getElem_cons_zero
theorem rd1 {P : Program} {md : Region.Mode} {ops : Array Oper} {Q : Exit → Act → World → Prop} {S : World → Prop} {r : Nat} {fuel : Nat} {listed : Array Bool} {a : Act} {w : World} {o : Oper} (hr : Region.ready md ops listed = [r]) (ho : ops[r]? = some o)
    (h : ∀ K : Act → World → Prop, Shut (∀ a w, S w → (S w → wpAnyH P md ops Q S fuel (listed.setIfInBounds r true) a w) → K a w) → if Region.wanted o (yielded ops a.tmps) = true then Oper.wp P o a w K Q else K (a.put o.dst undef) w) : wpAnyH P md ops Q S (fuel + 1) listed a w := wpAnyH_ready hr (by simp) (AllReadyH.cons ho h AllReadyH.nil)
theorem cof {w : World} {b i : Nat} {c : Array Value} {t : TypeId} {f : Nat × Nat} {v : Value} (h : w.heap[b]? = some (.cells c t f)) (hv : c[i]? = some v) : w.cell? ⟨b, i, none⟩ = some v := by
  unfold World.cell?
  rw [h]
  exact hv
theorem eX {α : Type} (a : α) : ∃ x, a = x := ⟨a, rfl⟩
theorem wan (w : World) (o : Obj) : (w.alloc o).heap[w.heap.size]? = some o := World.alloc_heap_new w o
theorem wfz : type_of% @World.frozen?_setCell := @World.frozen?_setCell
theorem Age : type_of% @Array.getElem?_eq_some_iff.{0} := @Array.getElem?_eq_some_iff
theorem Lge : type_of% @List.getElem?_eq_getElem.{0} := @List.getElem?_eq_getElem
theorem Lgs : type_of% @List.getElem?_eq_some_iff.{0} := @List.getElem?_eq_some_iff
theorem Lla : type_of% @List.length_append.{0} := @List.length_append
theorem Nll : type_of% @Nat.lt_of_lt_of_le := @Nat.lt_of_lt_of_le
theorem AI {a b : Prop} (h : a) (g : b) : a ∧ b := ⟨h, g⟩
end Go.Proofs.YtgpamchpeamnfaaGreatDoor
