import Derived.Test.YtmolfmgchbjnbaaGreatDoorRows
import Derived.WalkKit
import Derived.ProofKit
import Derived.OpenShut
import Derived.SizedLaws
import Derived.ChangeMaps5
import Derived.Deep.DeepHandedRow
import Derived.Deep.Slices
import Derived.Lib.LaidTab
import Derived.LaidSub
import Derived.Lay
import Derived.Carry
import Derived.Shelf.Vars
import Derived.Test.YtmolfmgchbjnbaaGreatDoorM42
set_option linter.unusedSimpArgs false
set_option linter.unusedVariables false
namespace Go.Proofs.YtmolfmgchbjnbaaGreatDoor
open Go.ChangeShapes Go.WideShapes Go.ChangeAt Go.RowKit Go.ChangeMaps
open Wire Flow
theorem cof9 : Tryz.prog.cellsOf 9 = 1 := by kernel_rfl
theorem range_get {α : Type} (n : Nat) (f : Nat → α) (i : Nat) (x : α) (h : ((List.range n).map f)[i]? = some x) : i < n ∧ x = f i := by
 rw [List.getElem?_map] at h
 by_cases hi : i < n
 ·rw [List.getElem?_range hi] at h
  exact ⟨hi, by simpa using h.symm⟩
 ·rw [List.getElem?_eq_none (by simp; omega)] at h
  cases h
set_option maxRecDepth 100000 in
theorem open_argL {H : Type} {α : Type} [Inhabited α] {enc : TypeId × Value → H} {W : World} {n : Nat} {t e : TypeId} {v : Value} {x : DataW H × List MemPlace} {f : α → Value} (ht : Tryz.prog.underlying t = some (.slice e)) (hc : Tryz.prog.cellsOf e = 1) (hQ : ∀ (k : Nat) (y : Value) (z : DataW H × List MemPlace), DataW.trod enc Tryz.prog W 0 (fun _ => true) true k e [y] = some z → ∃ a, y = f a)
    (h : DataW.trod enc Tryz.prog W 0 (fun _ => true) true n t [v] = some x) {B : Nat} (hb : ∀ el sp, x.1 = .slice el sp → el.length ≤ B) : ∃ L : List α, L.length ≤ B ∧ ArgL W v (L.map f) := by
  rcases Go.Deep.open_slice1 ht hc h with ⟨hcs, -⟩ | ⟨a, len, cap, m, k, V, D, Pl, hcs, -, hl, hm, hmm, hx, hel⟩
  · have hv : v = .slice none 0 0 := by simpa using hcs
    subst hv
    exact ⟨[], by simp, none, 0, rfl, Nat.le_refl _, by decide, fun h => absurd h (by simp)⟩
  · have hv : v = .slice (some a) len cap := by simpa using hcs
    subst hv
    subst hx
    simp only [if_true] at hmm
    subst hmm
    have hlen : len ≤ B := by simpa using hb _ _ rfl
    have each : ∀ i, ∃ s : α, i < len → W.cell? (a.add i) = some (f s) := fun i => by
      by_cases hi : i < len
      · obtain ⟨h1, h2⟩ := hel i (by omega)
        obtain ⟨s, hs⟩ := hQ _ _ _ h2
        exact ⟨s, fun _ => by rw [h1, hs]⟩
      · exact ⟨default, fun h => absurd h hi⟩
    obtain ⟨S, hS⟩ := Classical.skolem.1 each
    obtain ⟨g, off, spot⟩ := a
    refine ⟨(List.range len).map S, by simpa using hlen, some ⟨g, off, spot⟩, m, by simp, by simpa using hl, by unfold maxLen at hm; omega, fun h0 => ?_⟩
    have h0' : 0 < len := by simpa using h0
    have hc0 := hS 0 h0'
    have hspot : spot = none := by simpa [Addr.add] using World.cell?_spot hc0
    subst hspot
    refine ⟨g, off, rfl, by have := lt_of_cell hc0; simpa [Addr.add] using this, fun i x hx => ?_⟩
    rw [List.getElem?_map] at hx
    cases hy : ((List.range len).map S)[i]? with
    | none => rw [hy] at hx; cases hx
    | some y =>
      rw [hy] at hx
      cases hx
      obtain ⟨hi, rfl⟩ := range_get _ _ _ _ hy
      have hc := hS i hi
      rw [add_plain] at hc
      exact hc
theorem fr_below {W W' : World} (h : Fr [] W W') : Below W.heap.size W W' := ⟨h.os, h.tape, h.output, h.size, fun k hk => h.block k hk (by simp)⟩
theorem laid_out : laidOutB Tryz.prog = true := by kernel_rfl
theorem ownK : ownKnob Tryz.prog.godebug = none := by kernel_rfl
theorem base_of {W : World} (hp : PowTab W) (hs : W.ShapedOpen Tryz.prog) : Base W where
 six := by
  obtain ⟨cs, hc, -⟩ := hs.1 5 _ _ (of_decide_eq_true (by kernel_rfl)) (show _ = some (Array.replicate 256 (Value.int .u8 0), 412) by kernel_rfl)
  have := (Array.getElem?_eq_some_iff.1 hc).1
  omega
 pow := hp
 mxl := Go.Proofs.cell_of_shapedOpen_int hs (of_decide_eq_true (by kernel_rfl)) (show _ = some (#[Value.int .i64 0], 3) by kernel_rfl) rfl (by kernel_rfl) (by kernel_rfl) Tryz.underlying3
 tab := trivial
def slN {H : Type} : DataW H → Nat
 | .slice el _ => el.length
 | _ => 0
theorem lenSl {H : Type} (d : DataW H) : ∀ el sp, d = .slice el sp → el.length ≤ slN d := fun el sp e => by rw [e]; exact Nat.le_refl _
end Go.Proofs.YtmolfmgchbjnbaaGreatDoor
