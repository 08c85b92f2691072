/-
  Unpack: bytes read as a module; with a fault, its error and its place.
-/
import Derived.Test.YticaoekmlaipnaaDoorM25
set_option linter.unusedSimpArgs false
set_option linter.unusedVariables false
namespace Go.Proofs.YticaoekmlaipnaaDoor
open Go.RowKit
open Wire

/-- What Unpack answers: the module, or its fault. -/
def UnpackPost (b : ByteArray) (w : World) (ee : Ending) (w' : World) : Prop :=
  Fr [] w w' ∧
  ((∃ e p : Nat, unpack ipF (bl b) = .inl (e, p) ∧ 0 < e ∧ e ≤ 100 ∧ p ≤ b.size ∧ ee = .returned (.tuple #[.agg #[.slice none 0 0, .slice none 0 0, .int .i64 0, .int .i64 0, .slice none 0 0], .int .i64 p, .int .i64 e])) ∨
   ∃ (m : Mo) (a0 a1 a4 : Option Addr) (n0 c0 n1 c1 n4 c4 gn an : Nat), unpack ipF (bl b) = .inr m ∧ ee = .returned (.tuple #[.agg #[.slice a0 n0 c0, .slice a1 n1 c1, .int .i64 gn, .int .i64 an, .slice a4 n4 c4], .int .i64 0, .int .i64 0]) ∧
     ModFar w.heap.size w' (.agg #[.slice a0 n0 c0, .slice a1 n1 c1, .int .i64 gn, .int .i64 an, .slice a4 n4 c4]) m)

theorem RdS.start (w : World) (b : ByteArray) : RdS (w.alloc (.cells #[.string b, .int .i64 0, .int .i64 b.size, .int .i64 0, .int .i64 0] 97)) w.heap.size b (.inr (0, b.size)) := by
  have hm := World.alloc_heap_new w (.cells #[.string b, .int .i64 0, .int .i64 b.size, .int .i64 0, .int .i64 0] 97)
  have hc : ∀ i, (w.alloc (.cells #[.string b, .int .i64 0, .int .i64 b.size, .int .i64 0, .int .i64 0] 97)).cell? ⟨w.heap.size, i, none⟩ = (#[.string b, .int .i64 0, .int .i64 b.size, .int .i64 0, .int .i64 0] : Array Value)[i]? := fun i => by
    unfold World.cell?; rw [hm]; simp
  have hz : ∀ i, (w.alloc (.cells #[.string b, .int .i64 0, .int .i64 b.size, .int .i64 0, .int .i64 0] 97)).frozen? ⟨w.heap.size, i, none⟩ = false := fun i => by
    unfold World.frozen?; rw [hm]; simp
  have hL := bl_length b
  exact ⟨⟨hc 0, hc 1, hc 2, hc 3, hc 4, hz 1, hz 2, hz 3, hz 4⟩, ⟨Nat.zero_le _, Nat.le_of_eq hL.symm⟩⟩

set_option maxRecDepth 100000 in
set_option maxHeartbeats 2000000 in
theorem unpackM_long (b : ByteArray) (w : World) (hm : b.size ≤ maxLen) (hl : 40000 < b.size) : Calls Tryd.prog 36 #[.string b] w (UnpackPost b w) := by
  have hL := bl_length b
  have hU : unpack ipF (bl b) = .inl (1, 0) := by unfold unpack; rw [if_pos (by omega)]
  have HU : Hid _ := hU
  have g1 : (40000 : Int) < b.size := by omega
  unfold maxLen at hm
  have hnew := World.alloc_heap_new w (.cells #[.slice none 0 0, .slice none 0 0, .int .i64 0, .int .i64 0, .slice none 0 0] 43)
  have F0 : Fr [] w (w.alloc (.cells #[.slice none 0 0, .slice none 0 0, .int .i64 0, .int .i64 0, .slice none 0 0] 43)) := (Fr.refl [] w).alloc _
  clear hU
  go_enter Tryd.func36, Tryd.ntmps36
  go_wp2
  generalize w.alloc (.cells #[.slice none 0 0, .slice none 0 0, .int .i64 0, .int .i64 0, .slice none 0 0] 43) = Z at *
  have y0 : Z.cell? ⟨w.heap.size, 0, none⟩ = some (.slice none 0 0) := by unfold World.cell?; rw [hnew]; rfl
  have y1 : Z.cell? ⟨w.heap.size, 1, none⟩ = some (.slice none 0 0) := by unfold World.cell?; rw [hnew]; rfl
  have y2 : Z.cell? ⟨w.heap.size, 2, none⟩ = some (.int .i64 0) := by unfold World.cell?; rw [hnew]; rfl
  have y3 : Z.cell? ⟨w.heap.size, 3, none⟩ = some (.int .i64 0) := by unfold World.cell?; rw [hnew]; rfl
  have y4 : Z.cell? ⟨w.heap.size, 4, none⟩ = some (.slice none 0 0) := by unfold World.cell?; rw [hnew]; rfl
  refine bodyPost_ret (v := .tuple #[.agg #[.slice none 0 0, .slice none 0 0, .int .i64 0, .int .i64 0, .slice none 0 0], .int .i64 0, .int .i64 1]) (by simp [results, Tryd.results36, go_sem, y0, y1, y2, y3, y4]) rfl ?_
  exact ⟨F0, .inl ⟨1, 0, HU.out, by omega, by omega, by omega, rfl⟩⟩

set_option maxRecDepth 100000 in
set_option maxHeartbeats 4000000 in
theorem unpackM_short (b : ByteArray) (w : World) (hs : b.size ≤ 40000) (hT : Tab w) : Calls Tryd.prog 36 #[.string b] w (UnpackPost b w) := by
  have hL := bl_length b
  have hU : unpack ipF (bl b) = unpackR ipF (bl b) := by unfold unpack; rw [if_neg (by omega)]
  have HU : Hid _ := hU
  have g1 : ¬ (40000 : Int) < b.size := by omega
  have hT0 := hT.lt
  have F0 : Fr [] w ((w.alloc (.cells #[.slice none 0 0, .slice none 0 0, .int .i64 0, .int .i64 0, .slice none 0 0] 43)).alloc (.cells #[.string b, .int .i64 0, .int .i64 b.size, .int .i64 0, .int .i64 0] 97)) := ((Fr.refl [] w).alloc _).alloc _
  have K0 := RdS.start (w.alloc (.cells #[.slice none 0 0, .slice none 0 0, .int .i64 0, .int .i64 0, .slice none 0 0] 43)) b
  rw [World.size_alloc] at K0
  have hres : ((w.alloc (.cells #[.slice none 0 0, .slice none 0 0, .int .i64 0, .int .i64 0, .slice none 0 0] 43)).alloc (.cells #[.string b, .int .i64 0, .int .i64 b.size, .int .i64 0, .int .i64 0] 97)).heap[w.heap.size]? = some (.cells #[.slice none 0 0, .slice none 0 0, .int .i64 0, .int .i64 0, .slice none 0 0] 43) := by
    rw [Below.heap_alloc _ _ _ (by simp), World.alloc_heap_new]
  have hsz0 : ((w.alloc (.cells #[.slice none 0 0, .slice none 0 0, .int .i64 0, .int .i64 0, .slice none 0 0] 43)).alloc (.cells #[.string b, .int .i64 0, .int .i64 b.size, .int .i64 0, .int .i64 0] 97)).heap.size = w.heap.size + 2 := by simp
  have hmod := module_any K0 hs (hT.fr F0 (by simp)) (by omega)
  have HM : Hid _ := hmod
  clear hU hmod
  go_enter Tryd.func36, Tryd.ntmps36
  go_wp2_with fail
  generalize ((w.alloc (.cells #[.slice none 0 0, .slice none 0 0, .int .i64 0, .int .i64 0, .slice none 0 0] 43)).alloc (.cells #[.string b, .int .i64 0, .int .i64 b.size, .int .i64 0, .int .i64 0] 97)) = W0 at *
  refine Calls.mono HM.out ?_
  rintro ee W1 ⟨sF, a0, a1, a4, n0, c0, n1, c1, n4, c4, gn, an, rfl, K1, F1, hcase⟩
  have HC : Hid _ := hcase
  have hres1 : W1.heap[w.heap.size]? = some (.cells #[.slice none 0 0, .slice none 0 0, .int .i64 0, .int .i64 0, .slice none 0 0] 43) := by
    rw [F1.block _ (Array.getElem?_eq_some_iff.1 hres).1 (by simp), hres]
  have F2 : Fr [] w W1 := F0.trans' F1 (fun x hx => .inr (by simp at hx; omega))
  have HS0 : Hid _ := hsz0
  clear hcase HM hres F0 F1 K0 hsz0
  have d3 := K1.c.c3
  have d4 := K1.c.c4
  have hrl := K1.lt
  have hsz1 := F2.size
  -- the box of what came
  have K2 := K1.fr ((Fr.refl [] W1).alloc (.cells #[.slice a0 n0 c0, .slice a1 n1 c1, .int .i64 gn, .int .i64 an, .slice a4 n4 c4] 43)) (by simp)
  have F3 : Fr [] W1 (W1.alloc (.cells #[.slice a0 n0 c0, .slice a1 n1 c1, .int .i64 gn, .int .i64 an, .slice a4 n4 c4] 43)) := (Fr.refl [] W1).alloc _
  have hres2 : (W1.alloc (.cells #[.slice a0 n0 c0, .slice a1 n1 c1, .int .i64 gn, .int .i64 an, .slice a4 n4 c4] 43)).heap[w.heap.size]? = some (.cells #[.slice none 0 0, .slice none 0 0, .int .i64 0, .int .i64 0, .slice none 0 0] 43) := by
    rw [Below.heap_alloc _ _ _ (Array.getElem?_eq_some_iff.1 hres1).1, hres1]
  have hbox := World.alloc_heap_new W1 (.cells #[.slice a0 n0 c0, .slice a1 n1 c1, .int .i64 gn, .int .i64 an, .slice a4 n4 c4] 43)
  have r0 : W1.cell? ⟨w.heap.size, 0, none⟩ = some (.slice none 0 0) := by unfold World.cell?; rw [hres1]; rfl
  have r1 : W1.cell? ⟨w.heap.size, 1, none⟩ = some (.slice none 0 0) := by unfold World.cell?; rw [hres1]; rfl
  have r2 : W1.cell? ⟨w.heap.size, 2, none⟩ = some (.int .i64 0) := by unfold World.cell?; rw [hres1]; rfl
  have r3 : W1.cell? ⟨w.heap.size, 3, none⟩ = some (.int .i64 0) := by unfold World.cell?; rw [hres1]; rfl
  have r4 : W1.cell? ⟨w.heap.size, 4, none⟩ = some (.slice none 0 0) := by unfold World.cell?; rw [hres1]; rfl
  have rz : ∀ i, W1.frozen? ⟨w.heap.size, i, none⟩ = false := fun i => by unfold World.frozen?; rw [hres1]; simp
  have rz0 := rz 0
  have rz1 := rz 1
  have rz2 := rz 2
  have rz3 := rz 3
  have rz4 := rz 4
  have hlt1 : w.heap.size < W1.heap.size := (Array.getElem?_eq_some_iff.1 hres1).1
  have hokS := K1.ok
  clear hres1 rz hres2 hbox K2 K1 hsz1
  rcases sF with ⟨er, pl⟩ | ⟨sa, se⟩
  · have k0 : 0 < er := hokS.1
    have k1 : er ≤ 100 := hokS.2.1
    have k2 : pl ≤ (bl b).length := hokS.2.2
    simp only [stR, stP] at d3 d4
    have g2 : ((er : Int) != 0) = true := by simp; omega
    obtain ⟨y0, y1, y2, y3, y4⟩ := put5_cells (.slice none 0 0) (.slice none 0 0) (.int .i64 0) (.int .i64 0) (.slice none 0 0) r0 r1 r2 r3 r4
    have hltP := lt_of_cell y0
    have FA : Fr [] (put5 W1 w.heap.size (.slice none 0 0) (.slice none 0 0) (.int .i64 0) (.int .i64 0) (.slice none 0 0)) ((put5 W1 w.heap.size (.slice none 0 0) (.slice none 0 0) (.int .i64 0) (.int .i64 0) (.slice none 0 0)).alloc (.cells #[.slice a0 n0 c0, .slice a1 n1 c1, .int .i64 gn, .int .i64 an, .slice a4 n4 c4] 43)) := (Fr.refl [] _).alloc _
    have FP := put5_fr W1 w.heap.size (.slice none 0 0) (.slice none 0 0) (.int .i64 0) (.int .i64 0) (.slice none 0 0)
    have z0 := (FA.cell (p := ⟨w.heap.size, 0, none⟩) hltP (by simp)).trans y0
    have z1 := (FA.cell (p := ⟨w.heap.size, 1, none⟩) hltP (by simp)).trans y1
    have z2 := (FA.cell (p := ⟨w.heap.size, 2, none⟩) hltP (by simp)).trans y2
    have z3 := (FA.cell (p := ⟨w.heap.size, 3, none⟩) hltP (by simp)).trans y3
    have z4 := (FA.cell (p := ⟨w.heap.size, 4, none⟩) hltP (by simp)).trans y4
    have FZ : Fr [] w ((put5 W1 w.heap.size (.slice none 0 0) (.slice none 0 0) (.int .i64 0) (.int .i64 0) (.slice none 0 0)).alloc (.cells #[.slice a0 n0 c0, .slice a1 n1 c1, .int .i64 gn, .int .i64 an, .slice a4 n4 c4] 43)) := (F2.trans' FP (fun x hx => .inr (by simp at hx; omega))).trans FA
    have FW : Fr [w.heap.size] W1 ((put5 W1 w.heap.size (.slice none 0 0) (.slice none 0 0) (.int .i64 0) (.int .i64 0) (.slice none 0 0)).alloc (.cells #[.slice a0 n0 c0, .slice a1 n1 c1, .int .i64 gn, .int .i64 an, .slice a4 n4 c4] 43)) := FP.trans (FA.mono (by simp))
    have HY : Hid _ := And.intro z0 (And.intro z1 (And.intro z2 (And.intro z3 z4)))
    have HZ : Hid _ := And.intro FZ FW
    clear y0 y1 y2 y3 y4 z0 z1 z2 z3 z4 FZ FW FA FP hltP F2 F3 hokS
    go_wp2
    go_region
    go_wp2
    change bodyPost Tryd.prog Tryd.f36 (UnpackPost b w) Exit.ret _ ((put5 W1 w.heap.size (.slice none 0 0) (.slice none 0 0) (.int .i64 0) (.int .i64 0) (.slice none 0 0)).alloc (.cells #[.slice a0 n0 c0, .slice a1 n1 c1, .int .i64 gn, .int .i64 an, .slice a4 n4 c4] 43)).drew
    obtain ⟨z0, z1, z2, z3, z4⟩ := HY.out
    obtain ⟨FZ, -⟩ := HZ.out
    clear HY HZ r0 r1 r2 r3 r4 rz0 rz1 rz2 rz3 rz4
    generalize (put5 W1 w.heap.size (.slice none 0 0) (.slice none 0 0) (.int .i64 0) (.int .i64 0) (.slice none 0 0)).alloc (.cells #[.slice a0 n0 c0, .slice a1 n1 c1, .int .i64 gn, .int .i64 an, .slice a4 n4 c4] 43) = Z at *
    refine bodyPost_ret (v := .tuple #[.agg #[.slice none 0 0, .slice none 0 0, .int .i64 0, .int .i64 0, .slice none 0 0], .int .i64 pl, .int .i64 er]) (by simp [results, Tryd.results36, go_sem, z0, z1, z2, z3, z4]) rfl ?_
    refine ⟨FZ.drew, .inl ⟨er, pl, ?_, k0, k1, by omega, rfl⟩⟩
    rcases HC.out with ⟨f, h1, h2⟩ | ⟨m, p, h1, h2, -⟩
    · rw [HU.out, h1]
      cases h2
      rfl
    · cases h2
  · simp only [stR, stP] at d3 d4
    obtain ⟨y0, y1, y2, y3, y4⟩ := put5_cells (.slice a0 n0 c0) (.slice a1 n1 c1) (.int .i64 gn) (.int .i64 an) (.slice a4 n4 c4) r0 r1 r2 r3 r4
    have hltP := lt_of_cell y0
    have FA : Fr [] (put5 W1 w.heap.size (.slice a0 n0 c0) (.slice a1 n1 c1) (.int .i64 gn) (.int .i64 an) (.slice a4 n4 c4)) ((put5 W1 w.heap.size (.slice a0 n0 c0) (.slice a1 n1 c1) (.int .i64 gn) (.int .i64 an) (.slice a4 n4 c4)).alloc (.cells #[.slice a0 n0 c0, .slice a1 n1 c1, .int .i64 gn, .int .i64 an, .slice a4 n4 c4] 43)) := (Fr.refl [] _).alloc _
    have FP := put5_fr W1 w.heap.size (.slice a0 n0 c0) (.slice a1 n1 c1) (.int .i64 gn) (.int .i64 an) (.slice a4 n4 c4)
    have z0 := (FA.cell (p := ⟨w.heap.size, 0, none⟩) hltP (by simp)).trans y0
    have z1 := (FA.cell (p := ⟨w.heap.size, 1, none⟩) hltP (by simp)).trans y1
    have z2 := (FA.cell (p := ⟨w.heap.size, 2, none⟩) hltP (by simp)).trans y2
    have z3 := (FA.cell (p := ⟨w.heap.size, 3, none⟩) hltP (by simp)).trans y3
    have z4 := (FA.cell (p := ⟨w.heap.size, 4, none⟩) hltP (by simp)).trans y4
    have FZ : Fr [] w ((put5 W1 w.heap.size (.slice a0 n0 c0) (.slice a1 n1 c1) (.int .i64 gn) (.int .i64 an) (.slice a4 n4 c4)).alloc (.cells #[.slice a0 n0 c0, .slice a1 n1 c1, .int .i64 gn, .int .i64 an, .slice a4 n4 c4] 43)) := (F2.trans' FP (fun x hx => .inr (by simp at hx; omega))).trans FA
    have FW : Fr [w.heap.size] W1 ((put5 W1 w.heap.size (.slice a0 n0 c0) (.slice a1 n1 c1) (.int .i64 gn) (.int .i64 an) (.slice a4 n4 c4)).alloc (.cells #[.slice a0 n0 c0, .slice a1 n1 c1, .int .i64 gn, .int .i64 an, .slice a4 n4 c4] 43)) := FP.trans (FA.mono (by simp))
    have HY : Hid _ := And.intro z0 (And.intro z1 (And.intro z2 (And.intro z3 z4)))
    have HZ : Hid _ := And.intro FZ FW
    clear y0 y1 y2 y3 y4 z0 z1 z2 z3 z4 FZ FW FA FP hltP F2 F3 hokS
    go_wp2
    change bodyPost Tryd.prog Tryd.f36 (UnpackPost b w) Exit.ret _ ((put5 W1 w.heap.size (.slice a0 n0 c0) (.slice a1 n1 c1) (.int .i64 gn) (.int .i64 an) (.slice a4 n4 c4)).alloc (.cells #[.slice a0 n0 c0, .slice a1 n1 c1, .int .i64 gn, .int .i64 an, .slice a4 n4 c4] 43))
    obtain ⟨z0, z1, z2, z3, z4⟩ := HY.out
    obtain ⟨FZ, FW⟩ := HZ.out
    clear HY HZ r0 r1 r2 r3 r4 rz0 rz1 rz2 rz3 rz4
    generalize (put5 W1 w.heap.size (.slice a0 n0 c0) (.slice a1 n1 c1) (.int .i64 gn) (.int .i64 an) (.slice a4 n4 c4)).alloc (.cells #[.slice a0 n0 c0, .slice a1 n1 c1, .int .i64 gn, .int .i64 an, .slice a4 n4 c4] 43) = Z at *
    refine bodyPost_ret (v := .tuple #[.agg #[.slice a0 n0 c0, .slice a1 n1 c1, .int .i64 gn, .int .i64 an, .slice a4 n4 c4], .int .i64 0, .int .i64 0]) (by simp [results, Tryd.results36, go_sem, z0, z1, z2, z3, z4]) rfl ?_
    refine ⟨FZ, .inr ?_⟩
    rcases HC.out with ⟨f, h1, h2⟩ | ⟨m, p, h1, h2, h3⟩
    · cases h2
    · have hs0 := HS0.out
      exact ⟨m, a0, a1, a4, n0, c0, n1, c1, n4, c4, gn, an, HU.out.trans h1, rfl, (h3.fr FW (by simp; omega)).base (by omega)⟩

end Go.Proofs.YticaoekmlaipnaaDoor

