/-
  Functions and sections, written behind bytes that the call owns.
-/
import Derived.Test.YticaoekmlaipnaaDoorM02
import Derived.ArgAppend
import Derived.Deep.Onto
set_option linter.unusedSimpArgs false
set_option linter.unusedVariables false
namespace Go.Proofs.YticaoekmlaipnaaDoor
open Go.RowKit
open Wire

theorem fnsB_take (L : List Wire.Fn) (k : Nat) (h : k < L.length) : fnsB (L.take (k + 1)) = fnsB (L.take k) ++ fnB L[k] := by
  rw [List.take_succ_eq_append_getElem h]
  unfold fnsB
  rw [List.flatMap_append]
  simp
theorem fnB_len (f : Wire.Fn) (h : f.code.size ≤ 20000) : (fnB f).length ≤ 20030 := by
  have h1 := digs_len f.params.toNat
  have h2 := digs_len f.locs.toNat
  have h3 := textB_len f.code
  rw [fnB, List.length_append, List.length_append]; omega
theorem fnsB_len (L : List Wire.Fn) (h : ∀ s ∈ L, s.code.size ≤ 20000) : (fnsB L).length ≤ L.length * 20030 := by
  induction L with
  | nil => simp [fnsB]
  | cons s L ih =>
    have h1 := ih (fun x hx => h x (by simp [hx]))
    have h2 := fnB_len s (h s (by simp))
    have e : fnsB (s :: L) = fnB s ++ fnsB L := by simp [fnsB]
    rw [e, List.length_append, List.length_cons, Nat.add_mul]
    omega

set_option maxRecDepth 100000 in
set_option maxHeartbeats 400000 in
theorem appendFuncs_any (tv : Value) (L : List Wire.Fn) (w : World) (hs : ∀ s ∈ L, s.code.size ≤ 20000 ∧ 0 ≤ s.params ∧ s.params ≤ 100 ∧ 0 ≤ s.locs ∧ s.locs ≤ 100) (hn : L.length ≤ 1000) (hL : FnsIn w tv L) :
    Calls Tryd.prog 80 #[.slice none 0 0, tv] w fun e w' => ∃ v', e = .returned v' ∧ OwnB w (fnsL L) v' w' := by
  obtain ⟨a0, cap, g, off, rfl, hcap, ha, hx⟩ := hL
  have hA := numAppend_any w [] (.slice none 0 0) L.length w (by omega) (by simp) (OwnB.start w)
  have hdl := digs_len L.length
  have HE : Hid (fnsL L = digs L.length ++ fnsB L) := rfl
  obtain ⟨d, hd⟩ : ∃ d, digs L.length = d := ⟨_, rfl⟩
  rw [List.nil_append, hd] at hA
  rw [hd] at hdl HE
  clear hd
  have Hs : Hid _ := hs
  have Hx : Hid _ := hx
  have Ha : Hid _ := ha
  clear hs hx ha
  go_enter Tryd.func80, Tryd.ntmps80
  go_wp2_with fail
  refine hA.mono ?_
  rintro e w1 ⟨v1, rfl, J, G⟩
  clear hA G
  go_wp2
  go_loopw [0, 13] (fun u i wr => ∃ k : Nat, k ≤ L.length ∧ i = .int .i64 k ∧ OwnB w (d ++ fnsB (L.take k)) u wr) (fun _ i _ => L.length - (intOf i).toNat)
  case atStart => exact ⟨0, by omega, rfl, by simpa [fnsB] using J⟩
  case round =>
    clear J
    obtain ⟨k, hk, rfl, J⟩ := hrel
    by_cases hlt : k < L.length
    · obtain ⟨rfl, hg⟩ := Ha.out (by omega)
      have g1 : (k : Int) < L.length := by omega
      obtain ⟨x0, x1, x2⟩ := Hx.out k _ (List.getElem?_eq_getElem hlt)
      have c0 := (J.fr.cell (p := ⟨g, off + k * 3, none⟩) hg (by simp)).trans x0
      have c1 := (J.fr.cell (p := ⟨g, off + k * 3 + 1, none⟩) hg (by simp)).trans x1
      have c2 := (J.fr.cell (p := ⟨g, off + k * 3 + 2, none⟩) hg (by simp)).trans x2
      obtain ⟨hsz, hp0, hp1, hl0, hl1⟩ := Hs.out L[k] (List.getElem_mem hlt)
      have htl := fnsB_len (L.take k) (fun s hs => (Hs.out s (List.mem_of_mem_take hs)).1)
      have htk : (L.take k).length ≤ 1000 := by rw [List.length_take]; omega
      have hq : (d ++ fnsB (L.take k)).length ≤ 30000000 := by rw [List.length_append]; omega
      have htake := fnsB_take L k hlt
      have HF : Hid (d ++ fnsB (L.take (k + 1)) = (((d ++ fnsB (L.take k)) ++ digs L[k].params.toNat) ++ digs L[k].locs.toNat) ++ textB L[k].code) := by
        show _ = _
        rw [htake]; simp [fnB]
      obtain ⟨⟨p, lc, co⟩, hsk⟩ : ∃ s, L[k] = s := ⟨_, rfl⟩
      rw [hsk] at c0 c1 c2 HF hsz hp0 hp1 hl0 hl1
      simp only at c0 c1 c2 HF hsz hp0 hp1 hl0 hl1
      generalize d ++ fnsB (L.take k) = q at J HF hq
      clear htake htl htk hsk x0 x1 x2
      obtain ⟨pn, rfl⟩ := Int.eq_ofNat_of_zero_le hp0
      obtain ⟨ln, rfl⟩ := Int.eq_ofNat_of_zero_le hl0
      simp only [Int.toNat_natCast] at HF
      have hd1 := digs_len pn
      have hd2 := digs_len ln
      obtain ⟨F, hF⟩ : ∃ F, d ++ fnsB (L.take (k + 1)) = F := ⟨_, rfl⟩
      rw [hF] at HF
      have HFF : Hid _ := hF
      clear hF
      have hub : ∀ g, u0.ownBlock = some g → g < wr.heap.size := fun g hg => (J.own.lt g hg).2
      have hW := (Grew.alloc (v := u0) (w := wr) (.cells #[Value.int IntKind.i64 pn, Value.int IntKind.i64 ln, Value.string co] 63))
      have JW := J.kept ((Fr.refl [] wr).alloc (.cells #[Value.int IntKind.i64 pn, Value.int IntKind.i64 ln, Value.string co] 63))
      have hnew := World.alloc_heap_new wr (.cells #[Value.int IntKind.i64 pn, Value.int IntKind.i64 ln, Value.string co] 63)
      have hlt2 : wr.heap.size < (wr.alloc (.cells #[Value.int IntKind.i64 pn, Value.int IntKind.i64 ln, Value.string co] 63)).heap.size := by simp
      go_wp2_with fail
      obtain ⟨W, hWW⟩ : ∃ W, wr.alloc (.cells #[Value.int IntKind.i64 pn, Value.int IntKind.i64 ln, Value.string co] 63) = W := ⟨_, rfl⟩
      rw [hWW] at hW JW hnew hlt2 ⊢
      clear hWW J
      have kept : ∀ {v' : Value} {W' : World}, Grew u0 W v' W' → W'.heap[wr.heap.size]? = some (.cells #[Value.int IntKind.i64 pn, Value.int IntKind.i64 ln, Value.string co] 63) := fun G => by
        rw [G.by_.block _ hlt2 (fun e => by have := hub _ e.symm; omega), hnew]
      have Hkept : Hid _ := @kept
      clear kept hnew
      refine (numAppend_any w q u0 pn W (by omega) (by omega) JW).mono ?_
      rintro e w3 ⟨v3, rfl, J3, G3⟩
      have c3 : w3.cell? ⟨wr.heap.size, 1, none⟩ = some (.int .i64 ln) := by unfold World.cell?; rw [Hkept.out G3]; rfl
      clear JW c0 c1 c2
      go_wp2_with fail
      refine (numAppend_any w _ v3 ln w3 (by omega) (by rw [List.length_append]; omega) J3).mono ?_
      rintro e w4 ⟨v4, rfl, J4, G4⟩
      have c4 : w4.cell? ⟨wr.heap.size, 2, none⟩ = some (.string co) := by unfold World.cell?; rw [Hkept.out (G3.trans G4)]; rfl
      clear J3 c3
      go_wp2_with fail
      refine (appendText_any w _ v4 co w4 (by omega) (by rw [List.length_append, List.length_append]; omega) J4).mono ?_
      rintro e w5 ⟨v5, rfl, J5⟩
      rw [← HF.out, ← HFF.out] at J5
      clear J4 c4
      go_wp2
      exact ⟨⟨k + 1, by omega, by go_num, J5⟩, by simp [intOf]; omega⟩
    · obtain rfl : k = L.length := by omega
      have g1 : ¬ ((L.length : Int) < L.length) := by omega
      rw [List.take_length, ← HE.out] at J
      go_wp2
      go_ret
      exact ⟨u0, rfl, J⟩
/-- Bytes that lie in a row of the call's own. -/
theorem OwnB.row {w0 : World} {l : List UInt8} {v : Value} {W : World} (h : OwnB w0 l v W) (hl : l ≠ []) : ∃ g cap, v = .slice (some ⟨g, 0, none⟩) l.length cap ∧ w0.heap.size ≤ g ∧ g < W.heap.size ∧
    ∀ j u, (Lib.byteCells l)[j]? = some u → W.cell? ((⟨g, 0, none⟩ : Addr).add j) = some u := by
  rcases h.own.2 with ⟨hv, h0⟩ | ⟨g, cap, cur, hv, hb, hg, hn, _⟩
  · exact absurd (List.eq_nil_of_length_eq_zero h0) hl
  · exact ⟨g, cap, hv, hb, (Array.getElem?_eq_some_iff.1 hg).1, h.own.cells (g := g) (by rw [hv]; rfl)⟩
theorem bytes_one (l : List UInt8) : ∀ u ∈ Lib.byteCells l, u.oneCell' = true := by
  intro u hu
  obtain ⟨b, _, rfl⟩ := List.mem_map.1 hu
  rfl

set_option maxRecDepth 100000 in
set_option maxHeartbeats 400000 in
theorem appendSection_any (w0 : World) (l : List UInt8) (v : Value) (k : Nat) (c : List UInt8) (g cap : Nat) (w : World) (hk : k < 256) (hl : l.length ≤ 500000000) (hc : c.length ≤ 100000000) (h : OwnB w0 l v w)
    (hg : g < w.heap.size) (hne : v.ownBlock ≠ some g) (hcell : ∀ j u, (Lib.byteCells c)[j]? = some u → w.cell? ((⟨g, 0, none⟩ : Addr).add j) = some u) :
    Calls Tryd.prog 77 #[v, .int .u8 k, .slice (some ⟨g, 0, none⟩) c.length cap] w fun e w' => ∃ v', e = .returned v' ∧ OwnB w0 (l ++ sect k c) v' w' ∧ Grew v w v' w' := by
  obtain ⟨i0, hi, hz0, hz1, hz2⟩ := info_parts infoB
  have hown := h.own
  have hsz := h.fr.size
  have hkk : (k : Int) = ((UInt8.ofNat k).toNat : Int) := by simp [UInt8.toNat_ofNat]; omega
  have HE : Hid (sect k c = UInt8.ofNat k :: (digs c.length ++ c)) := rfl
  obtain ⟨b, hb⟩ : ∃ b, UInt8.ofNat k = b := ⟨_, rfl⟩
  rw [hb] at hkk HE
  obtain ⟨S, hS⟩ : ∃ S, sect k c = S := ⟨_, rfl⟩
  rw [hS] at HE ⊢
  rw [hkk]
  clear hb hkk hS
  go_enter Tryd.func77, Tryd.ntmps77
  go_wp2_with (at_builtin; refine wpList_append_own_at _ rfl _ _ 50 rfl w0.heap.size 5 i0 (.int .u8 0) 1 1 Tryd.underlying50 hi hz0 hz1 hz2 rfl (by decide) _ _ _ rfl (hown.alloc _) ⟨w.heap.size, 0, none⟩ 1 1 [.int .u8 b.toNat] rfl rfl (cell_one_new _ _ _) (one_byte _) (le_maxLen (by omega)) (le_bytes (by omega)) (le_alloc _ hsz) ?_)
  intro v' w3 hown' hgrow _ hat
  have J3 := (h.kept ((Fr.refl [] w).alloc _)).grown (l' := [b]) hown' hgrow
  have G3 : Grew v w v' w3 := (Grew.alloc _).trans ⟨hgrow, hat.elim .inl (fun e => .inr ⟨_, e, by simp⟩)⟩
  clear hown hown' hgrow hat h
  go_wp2_with fail
  refine (numAppend_any w0 _ v' c.length w3 (by omega) (by rw [List.length_append]; simp; omega) J3).mono ?_
  rintro e w4 ⟨v4, rfl, J4, G4⟩
  have G := G3.trans G4
  have c4 : ∀ j u, (Lib.byteCells c)[j]? = some u → w4.cell? ((⟨g, 0, none⟩ : Addr).add j) = some u := fun j u hj =>
    (World.cell?_of_block (w := w) (a := (⟨g, 0, none⟩ : Addr).add j) (by rw [show ((⟨g, 0, none⟩ : Addr).add j).block = g from by cases j <;> simp [Addr.add]]; exact G.by_.block g hg (fun e => hne e.symm))).trans (hcell j u hj)
  have hdl := digs_len c.length
  have hE : S = [b] ++ digs c.length ++ c := HE.out
  obtain ⟨q, hq⟩ : ∃ q, l ++ [b] ++ digs c.length = q := ⟨_, rfl⟩
  rw [hq] at J4
  have hql : q.length ≤ 500000011 := by rw [← hq, List.length_append, List.length_append]; simp; omega
  have HE2 : Hid (l ++ S = q ++ c) := by show _ = _; rw [hE, ← hq]; simp
  have hown := J4.own
  have hsz4 := J4.fr.size
  clear J3 G3 G4 hE hq hcell HE
  go_wp2_with (at_builtin; refine wpList_append_own_at _ rfl _ _ 50 rfl w0.heap.size 5 i0 (.int .u8 0) 1 1 Tryd.underlying50 hi hz0 hz1 hz2 rfl (by decide) _ _ _ rfl hown ⟨g, 0, none⟩ c.length cap (Lib.byteCells c) rfl (by simp [Lib.byteCells]) c4 (bytes_one _) (le_maxLen (by omega)) (le_bytes (by omega)) hsz4 ?_)
  intro v5 w5 hown' hgrow _ hat
  have J5 := J4.grown (l' := c) hown' hgrow
  rw [← HE2.out] at J5
  have G5 : Grew v w v5 w5 := G.trans ⟨hgrow, hat.elim .inl (fun e => .inr ⟨_, e, Nat.le_refl _⟩)⟩
  clear hown hown' hgrow hat J4 c4 HE2 G
  go_wp2
  go_ret
  exact ⟨v5, rfl, J5, G5⟩

/-- Bytes in a row that has no room left. -/
def Full (w0 : World) (l : List UInt8) (v : Value) (W : World) : Prop :=
  ∃ g : Nat, v = .slice (some ⟨g, 0, none⟩) l.length l.length ∧ w0.heap.size ≤ g ∧ g < W.heap.size ∧ (∀ j u, (Lib.byteCells l)[j]? = some u → W.cell? ((⟨g, 0, none⟩ : Addr).add j) = some u) ∧ Fr [] w0 W
theorem Full.kept {w0 : World} {l : List UInt8} {v : Value} {W W' : World} (h : Full w0 l v W) (hf : Fr [] W W') : Full w0 l v W' := by
  obtain ⟨g, hv, h0, h1, hc, hw⟩ := h
  refine ⟨g, hv, h0, Nat.lt_of_lt_of_le h1 hf.size, fun j u hj => ?_, hw.trans hf⟩
  rw [← hc j u hj]
  exact World.cell?_of_block (w := W) (by rw [show ((⟨g, 0, none⟩ : Addr).add j).block = g from by cases j <;> simp [Addr.add]]; exact hf.block g h1 (by simp))

set_option maxRecDepth 100000 in
set_option maxHeartbeats 400000 in
theorem appendSection_full (w0 : World) (l : List UInt8) (v : Value) (k : Nat) (c : List UInt8) (g cap : Nat) (w : World) (hk : k < 256) (hl : l.length ≤ 500000000) (hc : c.length ≤ 100000000) (h : Full w0 l v w)
    (hg : g < w.heap.size) (hne : v.ownBlock ≠ some g) (hcell : ∀ j u, (Lib.byteCells c)[j]? = some u → w.cell? ((⟨g, 0, none⟩ : Addr).add j) = some u) :
    Calls Tryd.prog 77 #[v, .int .u8 k, .slice (some ⟨g, 0, none⟩) c.length cap] w fun e w' => ∃ v', e = .returned v' ∧ OwnB w0 (l ++ sect k c) v' w' ∧ Grew v w v' w' := by
  obtain ⟨i0, hi, hz0, hz1, hz2⟩ := info_parts infoB
  obtain ⟨gv, rfl, hgv0, hgv1, hvc, hvf⟩ := h
  have hsz := hvf.size
  have hvc2 : ∀ b : Addr, (some ⟨gv, 0, none⟩ : Option Addr) = some b → ∀ j u, (Lib.byteCells l)[j]? = some u → (w.alloc (.cells #[Value.int .u8 (UInt8.ofNat k).toNat] 5)).cell? (b.add j) = some u := fun b hb j u hj => by
    cases hb
    rw [← hvc j u hj]
    exact World.cell?_of_block (w := w) (by rw [show ((⟨gv, 0, none⟩ : Addr).add j).block = gv from by cases j <;> simp [Addr.add]]; exact Below.heap_alloc _ _ _ hgv1)
  have hkk : (k : Int) = ((UInt8.ofNat k).toNat : Int) := by simp [UInt8.toNat_ofNat]; omega
  have HE : Hid (sect k c = UInt8.ofNat k :: (digs c.length ++ c)) := rfl
  obtain ⟨b, hb⟩ : ∃ b, UInt8.ofNat k = b := ⟨_, rfl⟩
  rw [hb] at hkk HE hvc2
  obtain ⟨S, hS⟩ : ∃ S, sect k c = S := ⟨_, rfl⟩
  rw [hS] at HE ⊢
  rw [hkk]
  clear hb hkk hS
  go_enter Tryd.func77, Tryd.ntmps77
  go_wp2_with (at_builtin; refine wpList_append_grows _ rfl _ _ 50 rfl 5 i0 (.int .u8 0) 1 1 Tryd.underlying50 hi hz0 hz1 hz2 rfl (by decide) (some ⟨gv, 0, none⟩) l.length l.length (Lib.byteCells l) rfl (fun h => by cases h) (by simp [Lib.byteCells]) hvc2 ⟨w.heap.size, 0, none⟩ 1 1 [.int .u8 b.toNat] rfl rfl (cell_one_new _ _ _) (one_byte _) (by omega) (le_maxLen (by omega)) (le_bytes (by omega)) ?_)
  intro v' w3 hown' hgrow
  have J3 : OwnB w0 (l ++ [b]) v' w3 := by
    refine ⟨?_, ?_⟩
    · rw [List.length_append, Lib.byteCells, List.map_append]
      exact World.ownsRow.mono hown' (by omega)
    · exact ⟨hgrow.os.trans hvf.os, hgrow.tape.trans hvf.tape, hgrow.output.trans hvf.output, Nat.le_trans (le_alloc _ hsz) hgrow.size, fun k hk hn =>
        (hgrow.block k (Nat.lt_of_lt_of_le hk (le_alloc _ hsz)) (by simp)).trans ((Below.heap_alloc _ _ _ (by omega)).trans (hvf.block k hk hn))⟩
  have G3 : Grew (.slice (some ⟨gv, 0, none⟩) l.length l.length) w v' w3 := (Grew.alloc _).trans ⟨⟨hgrow.os, hgrow.tape, hgrow.output, hgrow.size, fun k hk _ => hgrow.block k hk (by simp)⟩, by
    cases hv : v'.ownBlock with
    | none =>
      exfalso
      rcases hown'.2 with ⟨rfl, h0⟩ | ⟨g', cap', cur', rfl, _⟩
      · omega
      · cases hv
    | some g' => exact .inr ⟨g', rfl, by have := (hown'.lt g' hv).1; simp; omega⟩⟩
  clear hown' hgrow hvc hvc2 hvf
  go_wp2_with fail
  refine (numAppend_any w0 _ v' c.length w3 (by omega) (by rw [List.length_append]; simp; omega) J3).mono ?_
  rintro e w4 ⟨v4, rfl, J4, G4⟩
  have G := G3.trans G4
  have c4 : ∀ j u, (Lib.byteCells c)[j]? = some u → w4.cell? ((⟨g, 0, none⟩ : Addr).add j) = some u := fun j u hj =>
    (World.cell?_of_block (w := w) (a := (⟨g, 0, none⟩ : Addr).add j) (by rw [show ((⟨g, 0, none⟩ : Addr).add j).block = g from by cases j <;> simp [Addr.add]]; exact G.by_.block g hg (fun e => hne e.symm))).trans (hcell j u hj)
  have hdl := digs_len c.length
  have hE : S = [b] ++ digs c.length ++ c := HE.out
  obtain ⟨q, hq⟩ : ∃ q, l ++ [b] ++ digs c.length = q := ⟨_, rfl⟩
  rw [hq] at J4
  have hql : q.length ≤ 500000011 := by rw [← hq, List.length_append, List.length_append]; simp; omega
  have HE2 : Hid (l ++ S = q ++ c) := by show _ = _; rw [hE, ← hq]; simp
  have hown := J4.own
  have hsz4 := J4.fr.size
  clear J3 G3 G4 hE hq hcell HE
  go_wp2_with (at_builtin; refine wpList_append_own_at _ rfl _ _ 50 rfl w0.heap.size 5 i0 (.int .u8 0) 1 1 Tryd.underlying50 hi hz0 hz1 hz2 rfl (by decide) _ _ _ rfl hown ⟨g, 0, none⟩ c.length cap (Lib.byteCells c) rfl (by simp [Lib.byteCells]) c4 (bytes_one _) (le_maxLen (by omega)) (le_bytes (by omega)) hsz4 ?_)
  intro v5 w5 hown' hgrow _ hat
  have J5 := J4.grown (l' := c) hown' hgrow
  rw [← HE2.out] at J5
  have G5 : Grew (.slice (some ⟨gv, 0, none⟩) l.length l.length) w v5 w5 := G.trans ⟨hgrow, hat.elim .inl (fun e => .inr ⟨_, e, Nat.le_refl _⟩)⟩
  clear hown hown' hgrow hat J4 c4 HE2 G
  go_wp2
  go_ret
  exact ⟨v5, rfl, J5, G5⟩

end Go.Proofs.YticaoekmlaipnaaDoor

namespace Go.Proofs.YticaoekmlaipnaaDoor
open Go.RowKit
open Wire

/-- A module, as it comes in or goes out. -/
structure ModIn (W : World) (v : Value) (m : Mo) : Prop where
  is : ∃ tv pv fv, v = .agg #[tv, pv, .int .i64 m.globs, .int .i64 m.arrs, fv] ∧ StrsIn W tv m.texts ∧ StrsIn W pv m.pats ∧ FnsIn W fv m.fns
theorem ModIn.fr {W W' : World} {v : Value} {m : Mo} (h : ModIn W v m) (hf : Fr [] W W') : ModIn W' v m := by
  obtain ⟨tv, pv, fv, h1, h2, h3, h4⟩ := h.is
  exact ⟨tv, pv, fv, h1, h2.fr hf, h3.fr hf, h4.fr hf⟩

theorem digs_ne (n : Nat) (h : n < 9223372036854775808) : digs n ≠ [] := by
  by_cases hl : n < 128
  · rw [digs_lt hl]; simp
  · rw [digs_ge (by omega) (by have := pow9; omega)]; simp
theorem listing_len (L : List ByteArray) (h : ∀ s ∈ L, s.size ≤ 100) (hn : L.length ≤ 1000) : (listing L).length ≤ 200000 ∧ listing L ≠ [] := by
  have h1 := digs_len L.length
  have h2 := textsB_len L 100 h
  exact ⟨by rw [listing, List.length_append]; omega, List.append_ne_nil_of_left_ne_nil (digs_ne _ (by omega)) _⟩
theorem fnsL_len (L : List Wire.Fn) (h : ∀ s ∈ L, s.code.size ≤ 20000) (hn : L.length ≤ 1000) : (fnsL L).length ≤ 30000000 ∧ fnsL L ≠ [] := by
  have h1 := digs_len L.length
  have h2 := fnsB_len L h
  exact ⟨by rw [fnsL, List.length_append]; omega, List.append_ne_nil_of_left_ne_nil (digs_ne _ (by omega)) _⟩
theorem lawfulAll_mem (L : List Wire.Fn) (i : Nat) (h : lawfulAll L i = true) : ∀ s ∈ L, s.code.size ≤ 20000 ∧ 0 ≤ s.params ∧ s.params ≤ 100 ∧ 0 ≤ s.locs ∧ s.locs ≤ 100 := by
  induction L generalizing i with
  | nil => simp
  | cons f L ih =>
    simp only [lawfulAll, Bool.and_eq_true] at h
    intro s hs
    cases List.mem_cons.1 hs with
    | inl e =>
      subst e
      have := lawful_iff.1 h.1
      omega
    | inr e => exact ih _ h.2 s e
theorem sect_len (k : Nat) (c : List UInt8) : (sect k c).length ≤ c.length + 11 := by
  have := digs_len c.length
  rw [sect_length]; omega

/-- What a section's content says of where it lies. -/
theorem content_far {w0 W W' : World} {l c : List UInt8} {v v' : Value} (h : OwnB w0 l v W) (hc : OwnB W c v' W') (hne : c ≠ []) : ∃ g cap, v' = .slice (some ⟨g, 0, none⟩) c.length cap ∧ g < W'.heap.size ∧ v.ownBlock ≠ some g ∧
    ∀ j u, (Lib.byteCells c)[j]? = some u → W'.cell? ((⟨g, 0, none⟩ : Addr).add j) = some u := by
  obtain ⟨g, cap, hv, hb, hlt, hx⟩ := hc.row hne
  exact ⟨g, cap, hv, hlt, fun e => by have := (h.own.lt g e).2; omega, hx⟩

theorem section_step {w0 W W2 : World} {q c : List UInt8} {u v2 : Value} {k : Nat} {kI : Int} (hkI : kI = (k : Int)) (hk : k < 256) (hJ : OwnB w0 q u W) (hc : OwnB W c v2 W2) (hne : c ≠ []) (hq : q.length ≤ 500000000) (hl : c.length ≤ 100000000) :
    Calls Tryd.prog 77 #[u, .int .u8 kI, v2] W2 fun e w' => ∃ v', e = .returned v' ∧ OwnB w0 (q ++ sect k c) v' w' ∧ Grew u W v' w' := by
  subst hkI
  obtain ⟨g, cap, rfl, hg, hn, hx⟩ := content_far hJ hc hne
  refine (appendSection_any w0 q u k c g cap W2 hk hq hl (hJ.kept hc.fr) hg hn hx).mono ?_
  rintro e w' ⟨v', rfl, J, G⟩
  exact ⟨v', rfl, J, Grew.trans ⟨hc.fr.grew _, .inl rfl⟩ G⟩

theorem section_step_full {w0 W W2 : World} {q c : List UInt8} {u v2 : Value} {k : Nat} {kI : Int} (hkI : kI = (k : Int)) (hk : k < 256) (hJ : Full w0 q u W) (hc : OwnB W c v2 W2) (hne : c ≠ []) (hq : q.length ≤ 500000000) (hl : c.length ≤ 100000000) :
    Calls Tryd.prog 77 #[u, .int .u8 kI, v2] W2 fun e w' => ∃ v', e = .returned v' ∧ OwnB w0 (q ++ sect k c) v' w' ∧ Grew u W v' w' := by
  subst hkI
  obtain ⟨g, cap, rfl, hb, hg, hx⟩ := hc.row hne
  have hn : u.ownBlock ≠ some g := by
    obtain ⟨gu, rfl, _, h1, _⟩ := hJ
    intro e
    have e2 : gu = g := by simpa [Value.ownBlock] using e
    omega
  refine (appendSection_full w0 q u k c g cap W2 hk hq hl (hJ.kept hc.fr) hg hn hx).mono ?_
  rintro e w' ⟨v', rfl, J, G⟩
  exact ⟨v', rfl, J, Grew.trans ⟨hc.fr.grew _, .inl rfl⟩ G⟩

set_option maxRecDepth 100000 in
set_option maxHeartbeats 1000000 in
theorem appendSections_any (w0 : World) (l : List UInt8) (v mv : Value) (m : Mo) (ip : ByteArray → Bool) (w : World) (hl : l.length ≤ 100) (h : Full w0 l v w) (hM : ModIn w0 mv m) (hw : within ip m = true) :
    Calls Tryd.prog 50 #[v, mv] w fun e w' => ∃ v', e = .returned v' ∧
      OwnB w0 (l ++ sect 1 (listing m.texts) ++ sect 2 (listing m.pats) ++ sect 3 (digs m.globs.toNat) ++ sect 4 (digs m.arrs.toNat) ++ sect 5 (fnsL m.fns)) v' w' := by
  obtain ⟨tv, pv, fv, rfl, hT, hP, hF⟩ := hM.is
  obtain ⟨q1, q2, q3, q4, q5, q6, q7, q8, q9, q10, q11⟩ := Wire.within_iff.1 hw
  have f11 := lawfulAll_mem _ _ q11
  obtain ⟨texts, pats, globs, arrs, fns⟩ := m
  simp only at *
  obtain ⟨gn, rfl⟩ := Int.eq_ofNat_of_zero_le q5
  obtain ⟨an, rfl⟩ := Int.eq_ofNat_of_zero_le q7
  simp only [Int.toNat_natCast]
  obtain ⟨l1, n1⟩ := listing_len texts q9 q1
  obtain ⟨l2, n2⟩ := listing_len pats (fun s hs => by have := (q10 s hs).1; omega) q2
  have l3 := digs_len gn
  have l4 := digs_len an
  have n3 := digs_ne gn (by omega)
  have n4 := digs_ne an (by omega)
  obtain ⟨l5, n5⟩ := fnsL_len fns (fun s hs => (f11 s hs).1) q4
  have s1 := sect_len 1 (listing texts)
  have s2 := sect_len 2 (listing pats)
  have s3 := sect_len 3 (digs gn)
  have s4 := sect_len 4 (digs an)
  have a1 := fun (W : World) (f : Fr [] w0 W) => appendTexts_any tv texts W q9 q1 (hT.fr f)
  have a2 := fun (W : World) (f : Fr [] w0 W) => appendTexts_any pv pats W (fun s hs => by have := (q10 s hs).1; omega) q2 (hP.fr f)
  have a5 := fun (W : World) (f : Fr [] w0 W) => appendFuncs_any fv fns W f11 q4 (hF.fr f)
  obtain ⟨ta, tc, tg, to, rfl, -⟩ := id hT
  obtain ⟨pa, pc, pg, po, rfl, -⟩ := id hP
  obtain ⟨fa, fc, fg, fo, rfl, -⟩ := id hF
  have A1 : Hid _ := a1
  have A2 : Hid _ := a2
  have A5 : Hid _ := a5
  generalize listing texts = c1 at *
  generalize listing pats = c2 at *
  have a3 := fun (W : World) => numAppend_any W [] (.slice none 0 0) gn W (by omega) (by simp) (OwnB.start W)
  have a4 := fun (W : World) => numAppend_any W [] (.slice none 0 0) an W (by omega) (by simp) (OwnB.start W)
  simp only [List.nil_append] at a3 a4
  have A3 : Hid _ := a3
  have A4 : Hid _ := a4
  generalize digs gn = c3 at *
  generalize digs an = c4 at *
  generalize fnsL fns = c5 at *
  clear a1 a2 a3 a4 a5 hT hP hF hw hM q3 q6 q8 q9 q10 q11 f11
  go_enter Tryd.func50, Tryd.ntmps50
  have hub : ∀ g, v.ownBlock = some g → g < w.heap.size := fun g hg => by
    obtain ⟨gv, rfl, _, h1, _⟩ := h
    cases hg
    exact h1
  have JW := h.kept ((Fr.refl [] w).alloc (.cells #[Value.slice ta texts.length tc, Value.slice pa pats.length pc, Value.int IntKind.i64 gn, Value.int IntKind.i64 an, Value.slice fa fns.length fc] 43))
  have hnew := World.alloc_heap_new w (.cells #[Value.slice ta texts.length tc, Value.slice pa pats.length pc, Value.int IntKind.i64 gn, Value.int IntKind.i64 an, Value.slice fa fns.length fc] 43)
  have hlt2 : w.heap.size < (w.alloc (.cells #[Value.slice ta texts.length tc, Value.slice pa pats.length pc, Value.int IntKind.i64 gn, Value.int IntKind.i64 an, Value.slice fa fns.length fc] 43)).heap.size := by simp
  go_wp2_with fail
  obtain ⟨W, hWW⟩ : ∃ W, w.alloc (.cells #[Value.slice ta texts.length tc, Value.slice pa pats.length pc, Value.int IntKind.i64 gn, Value.int IntKind.i64 an, Value.slice fa fns.length fc] 43) = W := ⟨_, rfl⟩
  rw [hWW] at JW hnew hlt2 ⊢
  clear hWW h
  have kept : ∀ {v' : Value} {W' : World}, Grew v W v' W' → W'.heap[w.heap.size]? = some (.cells #[Value.slice ta texts.length tc, Value.slice pa pats.length pc, Value.int IntKind.i64 gn, Value.int IntKind.i64 an, Value.slice fa fns.length fc] 43) := fun G => by
    rw [G.by_.block _ hlt2 (fun e => by have := hub _ e.symm; omega), hnew]
  have Hkept : Hid _ := @kept
  clear kept hnew
  have JWf : Fr [] w0 W := by
    obtain ⟨_, _, _, _, _, hf⟩ := JW
    exact hf
  refine (A1.out W JWf).mono ?_
  rintro e w1 ⟨x1, rfl, C1⟩
  go_wp2_with fail
  refine (section_step_full (k := 1) rfl (by omega) JW C1 n1 (by omega) (by omega)).mono ?_
  rintro e w2 ⟨v2, rfl, J2, G2⟩
  have e2 : w2.cell? ⟨w.heap.size, 1, none⟩ = some (Value.slice pa pats.length pc) := by unfold World.cell?; rw [Hkept.out G2]; rfl
  clear JW C1
  go_wp2_with fail
  refine (A2.out w2 J2.fr).mono ?_
  rintro e w3 ⟨x3, rfl, C3⟩
  go_wp2_with fail
  refine (section_step (k := 2) rfl (by omega) J2 C3 n2 (by rw [List.length_append]; omega) (by omega)).mono ?_
  rintro e w4 ⟨v4, rfl, J4, G4⟩
  have G4 := G2.trans G4
  have e4 : w4.cell? ⟨w.heap.size, 2, none⟩ = some (Value.int .i64 gn) := by unfold World.cell?; rw [Hkept.out G4]; rfl
  clear J2 C3 G2 e2
  go_wp2_with fail
  refine (A3.out w4).mono ?_
  rintro e w5 ⟨x5, rfl, C5, -⟩
  go_wp2_with fail
  refine (section_step (k := 3) rfl (by omega) J4 C5 n3 (by rw [List.length_append, List.length_append]; omega) (by omega)).mono ?_
  rintro e w6 ⟨v6, rfl, J6, G6⟩
  have G6 := G4.trans G6
  have e6 : w6.cell? ⟨w.heap.size, 3, none⟩ = some (Value.int .i64 an) := by unfold World.cell?; rw [Hkept.out G6]; rfl
  clear J4 C5 G4 e4
  go_wp2_with fail
  refine (A4.out w6).mono ?_
  rintro e w7 ⟨x7, rfl, C7, -⟩
  go_wp2_with fail
  refine (section_step (k := 4) rfl (by omega) J6 C7 n4 (by rw [List.length_append, List.length_append, List.length_append]; omega) (by omega)).mono ?_
  rintro e w8 ⟨v8, rfl, J8, G8⟩
  have G8 := G6.trans G8
  have e8 : w8.cell? ⟨w.heap.size, 4, none⟩ = some (Value.slice fa fns.length fc) := by unfold World.cell?; rw [Hkept.out G8]; rfl
  clear J6 C7 G6 e6
  go_wp2_with fail
  refine (A5.out w8 J8.fr).mono ?_
  rintro e w9 ⟨x9, rfl, C9⟩
  go_wp2_with fail
  refine (section_step (k := 5) rfl (by omega) J8 C9 n5 (by rw [List.length_append, List.length_append, List.length_append, List.length_append]; omega) (by omega)).mono ?_
  rintro e w10 ⟨v10, rfl, J10, G10⟩
  clear J8 C9 e8
  go_wp2
  go_ret
  exact ⟨v10, rfl, J10⟩

end Go.Proofs.YticaoekmlaipnaaDoor

namespace Go.Proofs.YticaoekmlaipnaaDoor
open Go.RowKit
open Wire

theorem conv_bytes (W : World) (g cap n : Nat) (l : List UInt8) (hl : l.length = n) (hc : ∀ j (hj : j < l.length), W.cell? ⟨g, j, none⟩ = some (.int .u8 (l[j].toNat : Int))) :
    (convert 50 9 (.slice (some ⟨g, 0, none⟩) n cap)).run Tryd.prog W = .ok (.string ⟨l.toArray⟩) W := by
  subst hl
  exact run_convert_bytes_back (P := Tryd.prog) W 50 9 5 ⟨g, 0, none⟩ cap l Tryd.underlying50 Tryd.underlying5 Tryd.underlying9 (fun j hj => by rcases j with _ | j <;> simpa [Addr.add] using hc _ hj)

theorem sumStep_val (m : Nat) (c : UInt8) : sumStep m c = (m * 257 + c.toNat + 1) % 1000003 := by
  unfold sumStep; rw [Nat.mul_comm]

set_option maxRecDepth 100000 in
set_option maxHeartbeats 1000000 in
theorem sum_any (b : ByteArray) (w : World) (hb : b.size ≤ 1000000000) : Calls Tryd.prog 51 #[.string b] w fun e w' => e = .returned (.string ⟨(sum3 (bl b)).toArray⟩) ∧ Fr [] w w' := by
  have hL := bl_length b
  obtain ⟨S, hS⟩ : ∃ S, sum3 (bl b) = S := ⟨_, rfl⟩
  rw [hS]
  have HS : Hid _ := hS
  clear hS
  go_enter Tryd.func51, Tryd.ntmps51
  go_wp2
  go_loop [3, 7] (fun s i => ∃ (k m : Nat), k ≤ b.size ∧ m < 1000003 ∧ s = .int .u32 m ∧ i = .int .i64 k ∧ Hid (m = sumFrom 1 ((bl b).take k))) (fun _ i => b.size - (intOf i).toNat)
  case atStart => exact ⟨0, 1, by omega, by omega, rfl, rfl, rfl⟩
  case round =>
    obtain ⟨k, m, hk, hm, rfl, rfl, hM⟩ := hrel
    by_cases hlt : k < b.size
    · have g1 : (k : Int) < b.size := by omega
      have hu := b[k].toNat_lt
      have ht := sumFrom_take 1 (bl b) k (by omega)
      rw [← hM.out, sumStep_val] at ht
      have hk2 : (bl b)[k]'(by omega) = b[k] := by simp [bl]; rfl
      rw [hk2] at ht
      have Ht : Hid _ := ht
      clear ht hk2
      go_wp2
      refine ⟨⟨k + 1, (m * 257 + b[k].toNat + 1) % 1000003, by omega, by omega, by go_num, by go_num, Ht.out.symm⟩, by simp [intOf]; omega⟩
    · obtain rfl : k = b.size := by omega
      have g1 : ¬ ((b.size : Int) < b.size) := by omega
      have hN : sumN (bl b) = m := by
        rw [hM.out, ← hL, List.take_length]; rfl
      have hSS : S = [UInt8.ofNat (m % 256), UInt8.ofNat (m / 256 % 256), UInt8.ofNat (m / 65536)] := by
        rw [← HS.out, sum3, hN]
      have H : Hid _ := hSS
      clear hSS hN HS
      go_wp2
      rw [conv_bytes _ _ _ 3 [UInt8.ofNat (m % 256), UInt8.ofNat (m / 256 % 256), UInt8.ofNat (m / 65536)] rfl (by
        intro j hj
        have hj3 : j < 3 := by simpa using hj
        obtain rfl | rfl | rfl : j = 0 ∨ j = 1 ∨ j = 2 := by omega
        · simp
        · simp
        · simp; omega)]
      simp only [Result.andThen]
      rw [Oper.upon_value]
      go_wp2
      go_ret
      rw [← H.out]
      exact ⟨rfl, (Fr.refl [] w).alloc _⟩
end Go.Proofs.YticaoekmlaipnaaDoor

