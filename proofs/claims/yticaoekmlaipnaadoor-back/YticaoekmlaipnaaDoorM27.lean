/-
  The statement's own small functions: a module that prints 5; is a module empty?
-/
import Derived.Test.YticaoekmlaipnaaDoorM25
import Derived.Lib.SliceRun
set_option linter.unusedSimpArgs false
set_option linter.unusedVariables false
namespace Go.Proofs.YticaoekmlaipnaaDoor
open Go.RowKit
open Wire

set_option maxRecDepth 100000 in
set_option maxHeartbeats 1000000 in
theorem empty_zero (w : World) : Calls Tryd.prog 22 #[.agg #[.slice none 0 0, .slice none 0 0, .int .i64 0, .int .i64 0, .slice none 0 0]] w fun e w' => e = .returned (.bool true) ∧ Fr [] w w' := by
  have F0 : Fr [] w (w.alloc (.cells #[.slice none 0 0, .slice none 0 0, .int .i64 0, .int .i64 0, .slice none 0 0] 43)) := (Fr.refl [] w).alloc _
  have e31 := fun (W : World) => Lib.run_eql_slice_nil (P := Tryd.prog) W 31 9 none 0 0 0 0 Tryd.underlying31
  have e41 := fun (W : World) => Lib.run_eql_slice_nil (P := Tryd.prog) W 41 63 none 0 0 0 0 Tryd.underlying41
  simp only [Option.isNone_none] at e31 e41
  go_enter Tryd.func22, Tryd.ntmps22
  go_wp2
  go_ret
  exact ⟨rfl, F0⟩

def endC : ByteArray := ⟨#[52]⟩
def fiveC : ByteArray := ⟨#[0, 10, 27, 44, 1, 52]⟩
def fiveM : Mo := ⟨[], [], 0, 0, [⟨0, 0, fiveC⟩, ⟨0, 0, endC⟩, ⟨0, 0, endC⟩]⟩

set_option maxHeartbeats 1000000 in
theorem ending_any (w : World) : Calls Tryd.prog 32 #[] w fun e w' => e = .returned (.agg #[.int .i64 0, .int .i64 0, .string ⟨#[52]⟩]) ∧ Fr [] w w' := by
  have hnew := World.alloc_heap_new w (.cells #[.int .i64 0, .int .i64 0, .string ⟨#[52]⟩] 63)
  have F0 : Fr [] w (w.alloc (.cells #[.int .i64 0, .int .i64 0, .string ⟨#[52]⟩] 63)) := (Fr.refl [] w).alloc _
  go_enter Tryd.func32, Tryd.ntmps32
  go_wp2
  generalize w.alloc (.cells #[.int .i64 0, .int .i64 0, .string ⟨#[52]⟩] 63) = Z at *
  have y0 : Z.cell? ⟨w.heap.size, 0, none⟩ = some (.int .i64 0) := by unfold World.cell?; rw [hnew]; rfl
  have y1 : Z.cell? ⟨w.heap.size, 1, none⟩ = some (.int .i64 0) := by unfold World.cell?; rw [hnew]; rfl
  have y2 : Z.cell? ⟨w.heap.size, 2, none⟩ = some (.string ⟨#[52]⟩) := by unfold World.cell?; rw [hnew]; rfl
  refine bodyPost_ret (v := .agg #[.int .i64 0, .int .i64 0, .string ⟨#[52]⟩]) (by simp [results, Tryd.results32, go_sem, y0, y1, y2]) rfl ?_
  exact ⟨rfl, F0⟩

set_option maxRecDepth 100000 in
set_option maxHeartbeats 2000000 in
theorem five_any (w : World) : Calls Tryd.prog 19 #[] w fun e w' => ∃ g : Nat, e = .returned (.agg #[.slice none 0 0, .slice none 0 0, .int .i64 0, .int .i64 0, .slice (some ⟨g, 0, none⟩) 3 3]) ∧ ModIn w' (.agg #[.slice none 0 0, .slice none 0 0, .int .i64 0, .int .i64 0, .slice (some ⟨g, 0, none⟩) 3 3]) fiveM ∧ Fr [] w w' := by
  have hnew := World.alloc_heap_new w (.cells #[.slice none 0 0, .slice none 0 0, .int .i64 0, .int .i64 0, .slice none 0 0] 43)
  have F0 : Fr [] w (w.alloc (.cells #[.slice none 0 0, .slice none 0 0, .int .i64 0, .int .i64 0, .slice none 0 0] 43)) := (Fr.refl [] w).alloc _
  have hlt : w.heap.size < (w.alloc (.cells #[.slice none 0 0, .slice none 0 0, .int .i64 0, .int .i64 0, .slice none 0 0] 43)).heap.size := by simp
  go_enter Tryd.func19, Tryd.ntmps19
  go_wp2_with fail
  generalize w.alloc (.cells #[.slice none 0 0, .slice none 0 0, .int .i64 0, .int .i64 0, .slice none 0 0] 43) = W at *
  refine (ending_any W).mono ?_
  rintro e W1 ⟨rfl, F1⟩
  go_wp2_with fail
  refine (ending_any W1).mono ?_
  rintro e W2 ⟨rfl, F2⟩
  have F3 := F1.trans F2
  have hres : W2.heap[w.heap.size]? = some (.cells #[.slice none 0 0, .slice none 0 0, .int .i64 0, .int .i64 0, .slice none 0 0] 43) := by
    rw [F3.block _ hlt (by simp), hnew]
  have r0 : W2.cell? ⟨w.heap.size, 0, none⟩ = some (.slice none 0 0) := by unfold World.cell?; rw [hres]; rfl
  have r1 : W2.cell? ⟨w.heap.size, 1, none⟩ = some (.slice none 0 0) := by unfold World.cell?; rw [hres]; rfl
  have r2 : W2.cell? ⟨w.heap.size, 2, none⟩ = some (.int .i64 0) := by unfold World.cell?; rw [hres]; rfl
  have r3 : W2.cell? ⟨w.heap.size, 3, none⟩ = some (.int .i64 0) := by unfold World.cell?; rw [hres]; rfl
  have r4 : W2.cell? ⟨w.heap.size, 4, none⟩ = some (.slice none 0 0) := by unfold World.cell?; rw [hres]; rfl
  have rz : ∀ i, W2.frozen? ⟨w.heap.size, i, none⟩ = false := fun i => by unfold World.frozen?; rw [hres]; simp
  have rz0 := rz 0
  have rz1 := rz 1
  have rz2 := rz 2
  have rz3 := rz 3
  have rz4 := rz 4
  have hlt2 := (Array.getElem?_eq_some_iff.1 hres).1
  have F4 := F0.trans F3
  clear hnew F0 F1 F2 F3 hres rz hlt
  obtain ⟨y0, y1, y2, y3, y4⟩ := put5_cells (.slice none 0 0) (.slice none 0 0) (.int .i64 0) (.int .i64 0) (.slice (some ⟨W2.heap.size, 0, none⟩) 3 3) r0 r1 r2 r3 r4
  have hltP := lt_of_cell y0
  have FA : Fr [] (put5 W2 w.heap.size (.slice none 0 0) (.slice none 0 0) (.int .i64 0) (.int .i64 0) (.slice (some ⟨W2.heap.size, 0, none⟩) 3 3)) ((put5 W2 w.heap.size (.slice none 0 0) (.slice none 0 0) (.int .i64 0) (.int .i64 0) (.slice (some ⟨W2.heap.size, 0, none⟩) 3 3)).alloc (.cells #[.int .i64 0, .int .i64 0, .string ⟨#[0, 10, 27, 44, 1, 52]⟩, .int .i64 0, .int .i64 0, .string ⟨#[52]⟩, .int .i64 0, .int .i64 0, .string ⟨#[52]⟩] 63)) := (Fr.refl [] _).alloc _
  have FP := put5_fr W2 w.heap.size (.slice none 0 0) (.slice none 0 0) (.int .i64 0) (.int .i64 0) (.slice (some ⟨W2.heap.size, 0, none⟩) 3 3)
  have z0 := (FA.cell (p := ⟨w.heap.size, 0, none⟩) hltP (by simp)).trans y0
  have z1 := (FA.cell (p := ⟨w.heap.size, 1, none⟩) hltP (by simp)).trans y1
  have z2 := (FA.cell (p := ⟨w.heap.size, 2, none⟩) hltP (by simp)).trans y2
  have z3 := (FA.cell (p := ⟨w.heap.size, 3, none⟩) hltP (by simp)).trans y3
  have z4 := (FA.cell (p := ⟨w.heap.size, 4, none⟩) hltP (by simp)).trans y4
  have FZ : Fr [] w ((put5 W2 w.heap.size (.slice none 0 0) (.slice none 0 0) (.int .i64 0) (.int .i64 0) (.slice (some ⟨W2.heap.size, 0, none⟩) 3 3)).alloc (.cells #[.int .i64 0, .int .i64 0, .string ⟨#[0, 10, 27, 44, 1, 52]⟩, .int .i64 0, .int .i64 0, .string ⟨#[52]⟩, .int .i64 0, .int .i64 0, .string ⟨#[52]⟩] 63)) := (F4.trans' FP (fun x hx => .inr (by simp at hx; omega))).trans FA
  have hsP : (put5 W2 w.heap.size (.slice none 0 0) (.slice none 0 0) (.int .i64 0) (.int .i64 0) (.slice (some ⟨W2.heap.size, 0, none⟩) 3 3)).heap.size = W2.heap.size := by unfold put5; simp [World.setCell]
  have hbx := World.alloc_heap_new (put5 W2 w.heap.size (.slice none 0 0) (.slice none 0 0) (.int .i64 0) (.int .i64 0) (.slice (some ⟨W2.heap.size, 0, none⟩) 3 3)) (.cells #[.int .i64 0, .int .i64 0, .string ⟨#[0, 10, 27, 44, 1, 52]⟩, .int .i64 0, .int .i64 0, .string ⟨#[52]⟩, .int .i64 0, .int .i64 0, .string ⟨#[52]⟩] 63)
  rw [hsP] at hbx
  have hltZ : W2.heap.size < ((put5 W2 w.heap.size (.slice none 0 0) (.slice none 0 0) (.int .i64 0) (.int .i64 0) (.slice (some ⟨W2.heap.size, 0, none⟩) 3 3)).alloc (.cells #[.int .i64 0, .int .i64 0, .string ⟨#[0, 10, 27, 44, 1, 52]⟩, .int .i64 0, .int .i64 0, .string ⟨#[52]⟩, .int .i64 0, .int .i64 0, .string ⟨#[52]⟩] 63)).heap.size := by rw [World.size_alloc, hsP]; omega
  have HY : Hid _ := And.intro z0 (And.intro z1 (And.intro z2 (And.intro z3 z4)))
  have HZ : Hid _ := And.intro FZ (And.intro hbx hltZ)
  clear y0 y1 y2 y3 y4 z0 z1 z2 z3 z4 FZ FA FP hltP F4 hbx hsP hltZ
  go_wp2
  change bodyPost Tryd.prog Tryd.f19 _ Exit.ret _ ((put5 W2 w.heap.size (.slice none 0 0) (.slice none 0 0) (.int .i64 0) (.int .i64 0) (.slice (some ⟨W2.heap.size, 0, none⟩) 3 3)).alloc (.cells #[.int .i64 0, .int .i64 0, .string ⟨#[0, 10, 27, 44, 1, 52]⟩, .int .i64 0, .int .i64 0, .string ⟨#[52]⟩, .int .i64 0, .int .i64 0, .string ⟨#[52]⟩] 63))
  obtain ⟨z0, z1, z2, z3, z4⟩ := HY.out
  obtain ⟨FZ, hbx, hltZ⟩ := HZ.out
  clear HY HZ r0 r1 r2 r3 r4 rz0 rz1 rz2 rz3 rz4
  generalize (put5 W2 w.heap.size (.slice none 0 0) (.slice none 0 0) (.int .i64 0) (.int .i64 0) (.slice (some ⟨W2.heap.size, 0, none⟩) 3 3)).alloc (.cells #[.int .i64 0, .int .i64 0, .string ⟨#[0, 10, 27, 44, 1, 52]⟩, .int .i64 0, .int .i64 0, .string ⟨#[52]⟩, .int .i64 0, .int .i64 0, .string ⟨#[52]⟩] 63) = Z at *
  refine bodyPost_ret (v := .agg #[.slice none 0 0, .slice none 0 0, .int .i64 0, .int .i64 0, .slice (some ⟨W2.heap.size, 0, none⟩) 3 3]) (by simp [results, Tryd.results19, go_sem, z0, z1, z2, z3, z4]) rfl ?_
  have hc : ∀ i, Z.cell? ⟨W2.heap.size, i, none⟩ = (#[.int .i64 0, .int .i64 0, .string ⟨#[0, 10, 27, 44, 1, 52]⟩, .int .i64 0, .int .i64 0, .string ⟨#[52]⟩, .int .i64 0, .int .i64 0, .string ⟨#[52]⟩] : Array Value)[i]? := fun i => by
    unfold World.cell?; rw [hbx]; simp
  refine ⟨W2.heap.size, rfl, ⟨_, _, _, rfl, ?_, ?_, ?_⟩, FZ⟩
  · exact ⟨none, 0, 0, 0, rfl, Nat.le_refl _, fun h => absurd h (Nat.lt_irrefl _), fun i x hx => by cases hx⟩
  · exact ⟨none, 0, 0, 0, rfl, Nat.le_refl _, fun h => absurd h (Nat.lt_irrefl _), fun i x hx => by cases hx⟩
  · refine ⟨some ⟨W2.heap.size, 0, none⟩, 3, W2.heap.size, 0, rfl, Nat.le_refl _, fun _ => ⟨rfl, hltZ⟩, fun i x hx => ?_⟩
    rcases i with _ | _ | _ | i
    · cases hx; exact ⟨hc 0, hc 1, hc 2⟩
    · cases hx; exact ⟨hc 3, hc 4, hc 5⟩
    · cases hx; exact ⟨hc 6, hc 7, hc 8⟩
    · cases hx

end Go.Proofs.YticaoekmlaipnaaDoor

