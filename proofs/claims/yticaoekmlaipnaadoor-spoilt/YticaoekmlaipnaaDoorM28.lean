/-
  Unpack, as it is called; bytes that are refused.
-/
import Derived.Test.YticaoekmlaipnaaDoorM26
import Derived.Test.YticaoekmlaipnaaDoorM27
set_option linter.unusedSimpArgs false
set_option linter.unusedVariables false
namespace Go.Proofs.YticaoekmlaipnaaDoor
open Go.RowKit
open Wire

theorem unpackM_any (b : ByteArray) (w : World) (hm : b.size ≤ maxLen) (hT : Tab w) : Calls Tryd.prog 36 #[.string b] w (UnpackPost b w) := by
  by_cases h : b.size ≤ 40000
  · exact unpackM_short b w h hT
  · exact unpackM_long b w hm (by omega)

set_option maxRecDepth 100000 in
set_option maxHeartbeats 4000000 in
/-- UNPACK. -/
theorem unpack_any (b : ByteArray) (w : World) (hm : b.size ≤ maxLen) (hT : Tab w) : Calls Tryd.prog 21 #[.string b] w (UnpackPost b w) := by
  have F0 : Fr [] w (w.alloc (.cells #[.slice none 0 0, .slice none 0 0, .int .i64 0, .int .i64 0, .slice none 0 0] 43)) := (Fr.refl [] w).alloc _
  have hnew := World.alloc_heap_new w (.cells #[.slice none 0 0, .slice none 0 0, .int .i64 0, .int .i64 0, .slice none 0 0] 43)
  have hlt : w.heap.size < (w.alloc (.cells #[.slice none 0 0, .slice none 0 0, .int .i64 0, .int .i64 0, .slice none 0 0] 43)).heap.size := by simp
  have hsz : (w.alloc (.cells #[.slice none 0 0, .slice none 0 0, .int .i64 0, .int .i64 0, .slice none 0 0] 43)).heap.size = w.heap.size + 1 := by simp
  have hu := unpackM_any b _ hm (hT.fr F0 (by simp))
  have HU : Hid _ := hu
  unfold maxLen at hm
  clear hu
  go_enter Tryd.func21, Tryd.ntmps21
  go_wp2_with fail
  generalize w.alloc (.cells #[.slice none 0 0, .slice none 0 0, .int .i64 0, .int .i64 0, .slice none 0 0] 43) = W at *
  refine Calls.mono HU.out ?_
  rintro ee W1 ⟨F1, hcase⟩
  have hres : W1.heap[w.heap.size]? = some (.cells #[.slice none 0 0, .slice none 0 0, .int .i64 0, .int .i64 0, .slice none 0 0] 43) := by
    rw [F1.block _ hlt (by simp), hnew]
  have r0 : W1.cell? ⟨w.heap.size, 0, none⟩ = some (.slice none 0 0) := by unfold World.cell?; rw [hres]; rfl
  have r1 : W1.cell? ⟨w.heap.size, 1, none⟩ = some (.slice none 0 0) := by unfold World.cell?; rw [hres]; rfl
  have r2 : W1.cell? ⟨w.heap.size, 2, none⟩ = some (.int .i64 0) := by unfold World.cell?; rw [hres]; rfl
  have r3 : W1.cell? ⟨w.heap.size, 3, none⟩ = some (.int .i64 0) := by unfold World.cell?; rw [hres]; rfl
  have r4 : W1.cell? ⟨w.heap.size, 4, none⟩ = some (.slice none 0 0) := by unfold World.cell?; rw [hres]; rfl
  have rz : ∀ i, W1.frozen? ⟨w.heap.size, i, none⟩ = false := fun i => by unfold World.frozen?; rw [hres]; simp
  have rz0 := rz 0
  have rz1 := rz 1
  have rz2 := rz 2
  have rz3 := rz 3
  have rz4 := rz 4
  have FW := F0.trans F1
  clear hnew F0 F1 hres rz hlt HU hT
  rcases hcase with ⟨e, p, h1, h2, h3, h4, rfl⟩ | ⟨m, a0, a1, a4, n0, c0, n1, c1, n4, c4, gn, an, h1, rfl, h3⟩
  · obtain ⟨z0, z1, z2, z3, z4⟩ := put5_cells (.slice none 0 0) (.slice none 0 0) (.int .i64 0) (.int .i64 0) (.slice none 0 0) r0 r1 r2 r3 r4
    have FZ := FW.trans' (put5_fr W1 w.heap.size (.slice none 0 0) (.slice none 0 0) (.int .i64 0) (.int .i64 0) (.slice none 0 0)) (fun x hx => .inr (by simp at hx; omega))
    have HY : Hid _ := And.intro z0 (And.intro z1 (And.intro z2 (And.intro z3 z4)))
    have HZ : Hid _ := And.intro FZ h1
    clear z0 z1 z2 z3 z4 FZ FW h1
    go_wp2
    change bodyPost Tryd.prog Tryd.f21 (UnpackPost b w) Exit.ret _ (put5 W1 w.heap.size (.slice none 0 0) (.slice none 0 0) (.int .i64 0) (.int .i64 0) (.slice none 0 0))
    obtain ⟨z0, z1, z2, z3, z4⟩ := HY.out
    obtain ⟨FZ, h1⟩ := HZ.out
    clear HY HZ r0 r1 r2 r3 r4 rz0 rz1 rz2 rz3 rz4
    generalize put5 W1 w.heap.size (.slice none 0 0) (.slice none 0 0) (.int .i64 0) (.int .i64 0) (.slice none 0 0) = Z at *
    refine bodyPost_ret (v := .tuple #[.agg #[.slice none 0 0, .slice none 0 0, .int .i64 0, .int .i64 0, .slice none 0 0], .int .i64 p, .int .i64 e]) (by simp [results, Tryd.results21, go_sem, z0, z1, z2, z3, z4]) rfl ?_
    exact ⟨FZ, .inl ⟨e, p, h1, h2, h3, h4, rfl⟩⟩
  · obtain ⟨z0, z1, z2, z3, z4⟩ := put5_cells (.slice a0 n0 c0) (.slice a1 n1 c1) (.int .i64 gn) (.int .i64 an) (.slice a4 n4 c4) r0 r1 r2 r3 r4
    have FP := put5_fr W1 w.heap.size (.slice a0 n0 c0) (.slice a1 n1 c1) (.int .i64 gn) (.int .i64 an) (.slice a4 n4 c4)
    have FZ := FW.trans' FP (fun x hx => .inr (by simp at hx; omega))
    have MZ := (h3.fr FP (by simp; omega)).base (B' := w.heap.size) (by omega)
    have HY : Hid _ := And.intro z0 (And.intro z1 (And.intro z2 (And.intro z3 z4)))
    have HZ : Hid _ := And.intro FZ (And.intro h1 MZ)
    clear z0 z1 z2 z3 z4 FZ FW FP h1 MZ h3
    go_wp2
    change bodyPost Tryd.prog Tryd.f21 (UnpackPost b w) Exit.ret _ (put5 W1 w.heap.size (.slice a0 n0 c0) (.slice a1 n1 c1) (.int .i64 gn) (.int .i64 an) (.slice a4 n4 c4))
    obtain ⟨z0, z1, z2, z3, z4⟩ := HY.out
    obtain ⟨FZ, h1, MZ⟩ := HZ.out
    clear HY HZ r0 r1 r2 r3 r4 rz0 rz1 rz2 rz3 rz4
    generalize put5 W1 w.heap.size (.slice a0 n0 c0) (.slice a1 n1 c1) (.int .i64 gn) (.int .i64 an) (.slice a4 n4 c4) = Z at *
    refine bodyPost_ret (v := .tuple #[.agg #[.slice a0 n0 c0, .slice a1 n1 c1, .int .i64 gn, .int .i64 an, .slice a4 n4 c4], .int .i64 0, .int .i64 0]) (by simp [results, Tryd.results21, go_sem, z0, z1, z2, z3, z4]) rfl ?_
    exact ⟨FZ, .inr ⟨m, a0, a1, a4, n0, c0, n1, c1, n4, c4, gn, an, h1, rfl, MZ⟩⟩

set_option maxRecDepth 100000 in
set_option maxHeartbeats 2000000 in
theorem refused_true (b : ByteArray) (w : World) (hm : b.size ≤ maxLen) (hT : Tab w) (hno : ∀ m, unpack ipF (bl b) ≠ .inr m) : Calls Tryd.prog 24 #[.string b] w fun e w' => e = .returned (.bool true) ∧ Fr [] w w' := by
  have hu := unpack_any b w hm hT
  have HU : Hid _ := hu
  have HN : Hid _ := hno
  unfold maxLen at hm
  clear hu hno hT
  go_enter Tryd.func24, Tryd.ntmps24
  go_wp2_with fail
  refine Calls.mono HU.out ?_
  rintro ee W1 ⟨F1, hcase⟩
  rcases hcase with ⟨e, p, h1, h2, h3, h4, rfl⟩ | ⟨m, a0, a1, a4, n0, c0, n1, c1, n4, c4, gn, an, h1, rfl, h3⟩
  · have g1 : ((e : Int) != 0) = true := by simp; omega
    have F2 := F1.alloc (.cells #[.slice none 0 0, .slice none 0 0, .int .i64 0, .int .i64 0, .slice none 0 0] 43)
    clear HU HN h1
    go_wp2_with fail
    refine (empty_zero _).mono ?_
    rintro ee W2 ⟨rfl, F3⟩
    have F4 := F2.trans F3
    clear F2 F3 F1
    go_wp2
    go_ret
    exact ⟨rfl, F4⟩
  · exact absurd h1 (HN.out m)
end Go.Proofs.YticaoekmlaipnaaDoor

namespace Go.Proofs.YticaoekmlaipnaaDoor
open Go.RowKit
open Wire

theorem bl_at (B : ByteArray) (k : Nat) (hk : k < B.size) : (bl B)[k]'(by rw [bl_length]; exact hk) = B[k] := by simp [bl]; rfl

theorem spoil1 {B : ByteArray} {k : Nat} {c : UInt8} {m : Mo} (h : unpack ipF (bl B) = .inr m) (hk : k < B.size) (hc : B[k] ≠ c) : ∀ n, unpack ipF (bl (mkB ((bl B).set k c))) ≠ .inr n := by
  have hL := bl_length B
  have e1 : bl B = (bl B).take k ++ B[k] :: (bl B).drop (k + 1) := by
    rw [← bl_at B k hk, ← List.drop_eq_getElem_cons, List.take_append_drop]
  have e2 : (bl B).set k c = (bl B).take k ++ c :: (bl B).drop (k + 1) := by
    rw [List.set_eq_take_append_cons_drop, if_pos (by omega)]
  rw [bl_mkB, e2]
  rw [e1] at h
  have := turned_refused h hc
  have e3 : List.take k (List.take k (bl B) ++ B[k] :: List.drop (k + 1) (bl B)) = List.take k (bl B) := by rw [← e1]
  exact this

theorem spoil2 {B : ByteArray} {m : Mo} (h : unpack ipF (bl B) = .inr m) (hk : 0 < B.size) : ∀ n, unpack ipF (bl (B.extract 0 (B.size - 1))) ≠ .inr n := by
  have hL := bl_length B
  rw [bl_extract]
  have e1 : bl B = seg (bl B) 0 (B.size - 1) ++ [(bl B)[B.size - 1]'(by omega)] := by
    unfold seg
    rw [List.drop_zero, ← List.take_succ_eq_append_getElem, show B.size - 1 + 1 = (bl B).length by omega, List.take_length]
  rw [e1] at h
  exact short_refused h

theorem bl_app (A B : ByteArray) : bl (A ++ B) = bl A ++ bl B := by
  unfold bl
  rw [ByteArray.data_append, Array.toList_append]

theorem spoil3 {B : ByteArray} {m : Mo} (c : UInt8) (h : unpack ipF (bl B) = .inr m) : ∀ n, unpack ipF (bl (B ++ mkB [c])) ≠ .inr n := by
  rw [bl_app, bl_mkB]
  exact more_refused h

/-- A module's bytes are at least 30. -/
theorem written_ge {m : Mo} (h : within ipF m = true) : 30 ≤ (Wire.written m).length := by
  obtain ⟨q1, q2, q3, q4, q5, q6, q7, q8, q9, q10, q11⟩ := Wire.within_iff.1 h
  have d : ∀ n, n < 9223372036854775808 → 1 ≤ (digs n).length := fun n hn => by
    cases hd : digs n with
    | nil => exact absurd hd (digs_ne n hn)
    | cons a r => simp
  have f11 := lawfulAll_mem _ _ q11
  have hf : ∀ L : List Wire.Fn, (∀ s ∈ L, s.code.size ≤ 20000 ∧ 0 ≤ s.params ∧ s.params ≤ 100 ∧ 0 ≤ s.locs ∧ s.locs ≤ 100) → 3 * L.length ≤ (fnsB L).length := fun L hL => by
    induction L with
    | nil => simp [fnsB]
    | cons s L ih =>
      have h1 := ih (fun x hx => hL x (by simp [hx]))
      have e : fnsB (s :: L) = fnB s ++ fnsB L := by simp [fnsB]
      have hs := hL s (by simp)
      have h2 := d s.params.toNat (by omega)
      have h3 := d s.locs.toNat (by omega)
      have h4 := d s.code.size (by omega)
      rw [e, List.length_append, List.length_cons, fnB, textB, List.length_append, List.length_append, List.length_append]
      omega
  have l5 := hf m.fns f11
  have n5 := d m.fns.length (by omega)
  have n1 := d m.texts.length (by omega)
  have n2 := d m.pats.length (by omega)
  have n3 := d m.globs.toNat (by omega)
  have n4 := d m.arrs.toNat (by omega)
  obtain ⟨u1, -⟩ := listing_len m.texts q9 q1
  obtain ⟨u2, -⟩ := listing_len m.pats (fun s hs => by have := (q10 s hs).1; omega) q2
  have u3 := digs_len m.globs.toNat
  have u4 := digs_len m.arrs.toNat
  obtain ⟨u5, -⟩ := fnsL_len m.fns (fun s hs => (f11 s hs).1) q4
  have k1 := d (listing m.texts).length (by omega)
  have k2 := d (listing m.pats).length (by omega)
  have k3 := d (digs m.globs.toNat).length (by omega)
  have k4 := d (digs m.arrs.toNat).length (by omega)
  have k5 := d (fnsL m.fns).length (by omega)
  rw [written_length, body_length, sect_length, sect_length, sect_length, sect_length, sect_length]
  have w1 : (listing m.texts).length = (digs m.texts.length).length + (textsB m.texts).length := by rw [listing, List.length_append]
  have w2 : (listing m.pats).length = (digs m.pats.length).length + (textsB m.pats).length := by rw [listing, List.length_append]
  have w5 : (fnsL m.fns).length = (digs m.fns.length).length + (fnsB m.fns).length := by rw [fnsL, List.length_append]
  omega

theorem five_within : within ipF fiveM = true := by
  rw [Wire.within_iff]
  refine ⟨by simp [fiveM], by simp [fiveM], by simp [fiveM], by simp [fiveM], by simp [fiveM], by simp [fiveM], by simp [fiveM], by simp [fiveM], ?_, ?_, ?_⟩
  · intro s hs; cases hs
  · intro s hs; cases hs
  · decide +kernel
theorem five_len : (Wire.written fiveM).length ≤ 40000 := by decide +kernel
theorem five_sz : ModSz fiveM := by
  refine ⟨by simp [fiveM, maxLen], ?_, by simp [fiveM, maxLen], ?_, by simp [fiveM, maxLen], ?_⟩
  · intro s hs; cases hs
  · intro s hs; cases hs
  · intro s hs
    simp only [fiveM, List.mem_cons, List.not_mem_nil, or_false] at hs
    rcases hs with rfl | rfl | rfl <;> decide +kernel

theorem bytes_of (W : World) (bs : ByteArray) : ∃ Wb cap, (convert 9 50 (.string bs)).run Tryd.prog W = .ok (.slice (some ⟨W.heap.size, 0, none⟩) bs.size cap) Wb ∧ Fr [] W Wb ∧ bs.size ≤ cap ∧
    (∀ j (hj : j < bs.data.toList.length), Wb.cell? ⟨W.heap.size, j, none⟩ = some (.int .u8 ((bs.data.toList[j]).toNat : Int))) ∧ ∀ j, j < bs.size → Wb.frozen? ⟨W.heap.size, j, none⟩ = false := by
  have hr := run_bytes_of_string (P := Tryd.prog) W 9 50 5 bs Tryd.underlying9 Tryd.underlying50 Tryd.underlying5
  have hc : bs.size ≤ grownCap W bs.size 0 5 := grownCap_ge _ _ _ _
  generalize grownCap W bs.size 0 5 = cap at hr hc
  have hrow : (bytesRow bs cap).size = cap := by
    have : bs.data.size = bs.size := rfl
    simp [bytesRow, this]; omega
  have hm := World.alloc_heap_new W.drew (.cells (bytesRow bs cap) 5 ((bytesRow bs cap).size, (bytesRow bs cap).size + 1))
  have hm' : (W.drew.alloc (.cells (bytesRow bs cap) 5 ((bytesRow bs cap).size, (bytesRow bs cap).size + 1))).heap[W.heap.size]? = some _ := hm
  refine ⟨_, cap, hr, ((Fr.refl [] W).drew).alloc _, hc, fun j hj => ?_, fun j hj => ?_⟩
  · unfold World.cell?
    rw [hm']
    have hj' : j < bs.data.size := by simpa using hj
    have e := Array.getElem?_append_left (xs := bs.data.map (fun b => Value.int .u8 b.toNat)) (ys := Array.replicate (cap - bs.size) (Value.int .u8 0)) (i := j) (by simpa using hj')
    show (bytesRow bs cap)[j]? = _
    unfold bytesRow
    rw [e, Array.getElem?_map, Array.getElem?_eq_getElem hj']
    rfl
  · unfold World.frozen?
    rw [hm']
    simp [hrow]
    omega
theorem bytes_of' (W : World) (bs : ByteArray) : ∃ Wb cap, (convert 9 50 (.string bs)).run Tryd.prog W = .ok (.slice (some ⟨W.heap.size, 0, none⟩) bs.size cap) Wb ∧ Fr [] W Wb ∧ bs.size ≤ cap ∧
    (∀ j (hj : j < bs.size), Wb.cell? ⟨W.heap.size, j, none⟩ = some (.int .u8 (bs[j].toNat : Int))) ∧ ∀ j, j < bs.size → Wb.frozen? ⟨W.heap.size, j, none⟩ = false := by
  obtain ⟨Wb, cap, h1, h2, h3, h4, h5⟩ := bytes_of W bs
  refine ⟨Wb, cap, h1, h2, h3, fun j hj => ?_, h5⟩
  have hl : j < bs.data.toList.length := by have : bs.data.toList.length = bs.size := by { cases bs; rfl }
                                            omega
  have := h4 j hl
  rw [this]
  congr 2

/-- The bytes with one turned, as the conversion back reads them. -/
theorem turned_conv {Wb : World} {g k cap : Nat} {B : ByteArray} {c2 : UInt8} (hk : k < B.size) (hcell : ∀ j (hj : j < B.size), Wb.cell? ⟨g, j, none⟩ = some (.int .u8 (B[j].toNat : Int))) :
    (convert 50 9 (.slice (some ⟨g, 0, none⟩) B.size cap)).run Tryd.prog (Wb.setCell ⟨g, k, none⟩ (.int .u8 (c2.toNat : Int))) = .ok (.string (mkB ((bl B).set k c2))) (Wb.setCell ⟨g, k, none⟩ (.int .u8 (c2.toNat : Int))) := by
  have hL := bl_length B
  refine conv_bytes _ g cap B.size ((bl B).set k c2) (by simp; omega) (fun j hj => ?_)
  have hj' : j < B.size := by simp at hj; omega
  rw [List.getElem_set]
  by_cases e : k = j
  · subst e
    simp only [if_true]
    exact cell_set (hcell k hk)
  · simp only [if_neg e]
    rw [setCell_off e, hcell j hj', bl_at B j hj']

end Go.Proofs.YticaoekmlaipnaaDoor

