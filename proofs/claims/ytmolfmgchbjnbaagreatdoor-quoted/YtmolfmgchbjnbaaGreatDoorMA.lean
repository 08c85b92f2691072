/-
  Short names of laws of the library.
-/
import Derived.Deep.RegionHeld3
import Derived.RangeFuncRecord
import Derived.KernelRfl
import Derived.RowKit
import Derived.Laws.World
set_option linter.unusedVariables false
namespace Go.Proofs.YtmolfmgchbjnbaaGreatDoor
open Go.RowKit
theorem Zs1 : type_of% @List.setIfInBounds_toArray.{0} := @List.setIfInBounds_toArray
theorem Zs2 : type_of% @List.set_cons_zero.{0} := @List.set_cons_zero
theorem Zs3 : type_of% @List.set_cons_succ.{0} := @List.set_cons_succ
theorem Zs4 : type_of% @List.getElem_toArray.{0} := @List.getElem_toArray
theorem Zs5 : type_of% @List.getElem_cons_succ.{0} := @List.getElem_cons_succ
theorem Zs6 : type_of% @List.getElem_cons_zero.{0} := @List.getElem_cons_zero
theorem rd1 {P : Program} {md : Region.Mode} {ops : Array Oper} {Q : Exit → Act → World → Prop} {S : World → Prop} {r : Nat} {fuel : Nat} {listed : Array Bool} {a : Act} {w : World} {o : Oper} (hr : Region.ready md ops listed = [r]) (ho : ops[r]? = some o)
    (h : ∀ K : Act → World → Prop, Shut (∀ a w, S w → (S w → wpAnyH P md ops Q S fuel (listed.setIfInBounds r true) a w) → K a w) → if Region.wanted o (yielded ops a.tmps) = true then Oper.wp P o a w K Q else K (a.put o.dst undef) w) : wpAnyH P md ops Q S (fuel + 1) listed a w := wpAnyH_ready hr (by simp) (AllReadyH.cons ho h AllReadyH.nil)
theorem cof {w : World} {b i : Nat} {c : Array Value} {t : TypeId} {f : Nat × Nat} {v : Value} (h : w.heap[b]? = some (.cells c t f)) (hv : c[i]? = some v) : w.cell? ⟨b, i, none⟩ = some v := by
  unfold World.cell?
  rw [h]
  exact hv
theorem eXi {α : Type} (a : α) : ∃ x, a = x := ⟨a, rfl⟩
theorem wan (w : World) (o : Obj) : (w.alloc o).heap[w.heap.size]? = some o := World.alloc_heap_new w o
theorem wfz : type_of% @World.frozen?_setCell := @World.frozen?_setCell
theorem Age : type_of% @Array.getElem?_eq_some_iff.{0} := @Array.getElem?_eq_some_iff
theorem Lge : type_of% @List.getElem?_eq_getElem.{0} := @List.getElem?_eq_getElem
theorem Lgs : type_of% @List.getElem?_eq_some_iff.{0} := @List.getElem?_eq_some_iff
theorem Lla : type_of% @List.length_append.{0} := @List.length_append
theorem Nll : type_of% @Nat.lt_of_lt_of_le := @Nat.lt_of_lt_of_le
theorem Zp : (type_of% @List.setIfInBounds_toArray.{0}) ∧ (type_of% @List.set_cons_zero.{0}) ∧ (type_of% @List.set_cons_succ.{0}) := ⟨@List.setIfInBounds_toArray, @List.set_cons_zero, @List.set_cons_succ⟩
theorem Zq : (type_of% @List.getElem_toArray.{0}) ∧ (type_of% @List.getElem_cons_succ.{0}) ∧ (type_of% @List.getElem_cons_zero.{0}) := ⟨@List.getElem_toArray, @List.getElem_cons_succ, @List.getElem_cons_zero⟩
theorem Zt : (type_of% @List.take_succ_cons.{0}) ∧ (type_of% @List.take_zero.{0}) ∧ (type_of% @List.drop_succ_cons.{0}) ∧ (type_of% @List.drop_zero.{0}) := ⟨@List.take_succ_cons, @List.take_zero, @List.drop_succ_cons, @List.drop_zero⟩
abbrev iA (n : Int) : Value := .int .i64 n
abbrev uA (n : Int) : Value := .int .u64 n
abbrev Ad (b o : Nat) : Addr := ⟨b, o, none⟩
abbrev WL := World
abbrev BA := ByteArray
abbrev LB := List UInt8
abbrev NN := Nat → Nat
abbrev LV := List Value
abbrev LN := List Nat
abbrev OA := Option Addr
abbrev LY := List ByteArray
theorem AI {a b : Prop} (h : a) (g : b) : a ∧ b := ⟨h, g⟩
end Go.Proofs.YtmolfmgchbjnbaaGreatDoor
