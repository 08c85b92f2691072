/-
  Literal: the statement's function.
-/
import Derived.Test.YticaoekmlaipnaaDoorXi
import Derived.WalkSpells
set_option linter.unusedSimpArgs false
set_option linter.unusedVariables false
namespace Go.Proofs.YticaoekmlaipnaaDoor
open Go.RowKit

/-- The ends that an escaped text has. -/
theorem esc_end (lit x : ByteArray) (hl : lit.size ≤ 25) (k : Nat) (hk : k ≤ x.size) :
    endF (readF (escN lit lit.size)).1 (readF (escN lit lit.size)).2.tk (readF (escN lit lit.size)).2.fo x k = if mt lit x 0 k then ((k + lit.size : Nat) : Int) else -1 :=
  lit_end (read_esc lit hl).2 hl k hk

theorem seeks_any (lit x : ByteArray) (fr : Int) (w : World) (hl : lit.size ≤ 25) (hT : Tab w) (hm : x.size ≤ maxLen) :
    Calls Tryd.prog 10 #[.string (escN lit lit.size), .string lit, .string x, .int .i64 fr] w fun e w' => e = .returned (.bool true) ∧ Fr [] w w' := by
  have hs := escN_size lit lit.size (Nat.le_refl _)
  by_cases hx : 100 < x.size
  · exact seeks_long _ lit x fr w hx hm
  · by_cases hfr : fr < 0 ∨ (x.size : Int) < fr
    · exact seeks_arg _ lit x fr w (by omega) (by omega) hT (read_esc lit hl).1 hfr
    · obtain ⟨f, rfl⟩ := Int.eq_ofNat_of_zero_le (show 0 ≤ fr by omega)
      exact seeks_ok _ lit x f w (by omega) (by omega) (by omega) hT (read_esc lit hl).1 (by omega) (esc_end lit x hl)

theorem swap_esc (lit wi x : ByteArray) (w : World) (hl : lit.size ≤ 25) (hT : Tab w) (hx : x.size ≤ 100) (hw : wi.size ≤ 100) :
    Calls Tryd.prog 11 #[.string (escN lit lit.size), .string wi, .string x] w fun e w' => e = .returned (.tuple #[.string ⟨(replL lit wi.data.toList x 0).toArray⟩, .int .i64 0]) ∧ Fr [] w w' := by
  have hs := escN_size lit lit.size (Nat.le_refl _)
  have h := swap_ok (escN lit lit.size) wi x w hx hw (by omega) hT (read_esc lit hl).1
  rw [swap_repl lit x wi.data.toList _ (esc_end lit x hl) (x.size + 1) 0 (-1) (by omega) (fun _ => rfl)] at h
  exact h

theorem split_esc (lit x : ByteArray) (w : World) (hl : lit.size ≤ 25) (hT : Tab w) (hx : x.size ≤ 100) :
    Calls Tryd.prog 13 #[.string (escN lit lit.size), .string x] w fun e w' => ∃ v, e = .returned (.tuple #[v, .int .i64 0]) ∧ StrsAt w' v (partR lit x) ∧ Fr [] w w' := by
  have hs := escN_size lit lit.size (Nat.le_refl _)
  have h := split_ok (escN lit lit.size) x w hx (by omega) hT (read_esc lit hl).1
  have e : splitR (endF (readF (escN lit lit.size)).1 (readF (escN lit lit.size)).2.tk (readF (escN lit lit.size)).2.fo x) x = partR lit x := by
    unfold splitR partR
    rw [split_part' lit x _ (esc_end lit x hl)]
  rw [e] at h
  exact h

theorem partR_len (lit x : ByteArray) (hl : lit.size ≤ 25) : (partR lit x).length ≤ x.size + 1 := by
  unfold partR
  by_cases h0 : x.size = 0
  · rw [if_pos h0]; simp
  · rw [if_neg h0, ← split_part' lit x _ (esc_end lit x hl)]
    have := splitL_len (endF (readF (escN lit lit.size)).1 (readF (escN lit lit.size)).2.tk (readF (escN lit lit.size)).2.fo x) x x.size 0 0 (by omega)
    omega

set_option maxRecDepth 100000 in
set_option maxHeartbeats 1000000 in
theorem literal_great (lit wi x : ByteArray) (fr : Int) (w : World) (hT : Tab w) (h1 : lit.size ≤ 140737488355328) (hl : 25 < lit.size) :
    Calls Tryd.prog 3 #[.string lit, .string wi, .string x, .int .i64 fr] w fun e w' => e = .returned (.bool true) ∧ Fr [] w w' := by
  have hs := escN_size lit lit.size (Nat.le_refl _)
  have hk := knows_any w hT
  have hesc := fun (W : World) => escaped_any lit h1 W
  have hlo := fun (W : World) => look_long (escN lit lit.size) W (by omega) (by unfold maxLen; omega)
  have hn : (escN lit lit.size).size ≤ 281474976710656 := by omega
  have g1 : (50 : Int) < (escN lit lit.size).size := by omega
  clear hs
  generalize escN lit lit.size = t at *
  have He : Hid _ := hesc
  have Hl : Hid _ := hlo
  clear hesc hlo
  go_enter Tryd.func3, Tryd.ntmps3
  go_wp2_with fail
  refine hk.mono ?_
  rintro e w1 ⟨rfl, f1⟩
  clear hk
  go_wp2_with fail
  refine (He.out w1).mono ?_
  rintro e w2 ⟨rfl, rfl⟩
  go_wp2_with fail
  refine (Hl.out _).mono ?_
  rintro e w3 ⟨rfl, rfl⟩
  go_wp2
  go_ret
  exact ⟨rfl, f1⟩

set_option maxRecDepth 100000 in
set_option maxHeartbeats 1000000 in
theorem literal_small (lit wi x : ByteArray) (fr : Int) (w : World) (hT : Tab w) (hl : lit.size ≤ 25) (hw : wi.size ≤ 100) (hx : x.size ≤ 100) :
    Calls Tryd.prog 3 #[.string lit, .string wi, .string x, .int .i64 fr] w fun e w' => e = .returned (.bool true) ∧ Fr [] w w' := by
  have hs := escN_size lit lit.size (Nat.le_refl _)
  have hk := knows_any w hT
  have hesc := fun (W : World) => escaped_any lit (by omega) W
  have hlo := fun (W : World) (h : Tab W) => look_ok (escN lit lit.size) W (by omega) h (read_esc lit hl).1
  have hse := fun (W : World) (h : Tab W) => seeks_any lit x fr W hl h (by unfold maxLen; omega)
  have hsw := fun (W : World) (h : Tab W) => swap_esc lit wi x W hl h hx hw
  have hre := fun (W : World) => replaced_any lit wi x W (by omega) hw hx
  have hsp := fun (W : World) (h : Tab W) => split_esc lit x W hl h hx
  have hpa := fun (W : World) => parted_any lit x W (by omega) hx
  have hle := partR_len lit x hl
  have hn : (escN lit lit.size).size ≤ 50 := by omega
  have g1 : ¬ ((50 : Int) < (escN lit lit.size).size) := by omega
  clear hs
  generalize escN lit lit.size = t at *
  generalize ByteArray.mk (replL lit wi.data.toList x 0).toArray = R at *
  generalize partR lit x = L at *
  have H1 : Hid _ := hesc
  have H2 : Hid _ := hlo
  have H3 : Hid _ := hse
  have H4 : Hid _ := hsw
  have H5 : Hid _ := hre
  have H6 : Hid _ := hsp
  have H7 : Hid _ := hpa
  clear hesc hlo hse hsw hre hsp hpa
  have g2 : ¬ ((100 : Int) < x.size) := by omega
  have g3 : ¬ ((100 : Int) < wi.size) := by omega
  go_enter Tryd.func3, Tryd.ntmps3
  go_wp2_with fail
  refine hk.mono ?_
  rintro e w1 ⟨rfl, f1⟩
  have T1 := hT.fr f1 (by simp)
  clear hk
  go_wp2_with fail
  refine (H1.out w1).mono ?_
  rintro e w2 ⟨rfl, rfl⟩
  go_wp2_with fail
  refine (H2.out _ T1).mono ?_
  rintro e w3 ⟨rfl, f3⟩
  have T3 := T1.fr f3 (by simp)
  go_wp2_with fail
  refine (H3.out _ T3).mono ?_
  rintro e w4 ⟨rfl, f4⟩
  have T4 := T3.fr f4 (by simp)
  go_wp2_with fail
  refine (H4.out _ T4).mono ?_
  rintro e w5 ⟨rfl, f5⟩
  have T5 := T4.fr f5 (by simp)
  go_wp2_with fail
  refine (H5.out _).mono ?_
  rintro e w6 ⟨rfl, rfl⟩
  go_wp2_with fail
  refine (H6.out _ T5).mono ?_
  rintro e w7 ⟨v, rfl, s7, f7⟩
  go_wp2_with fail
  refine (H7.out _).mono ?_
  rintro e w8 ⟨v', rfl, s8, f8⟩
  have hsa := same_any L v v' w8 (by omega) (s7.fr f8) s8
  go_wp2_with fail
  refine hsa.mono ?_
  rintro e w9 ⟨rfl, f9⟩
  go_wp2
  go_ret
  exact ⟨rfl, (((((f1.trans f3).trans f4).trans f5).trans f7).trans f8).trans f9⟩

set_option maxRecDepth 100000 in
set_option maxHeartbeats 1000000 in
theorem literal_wide (lit wi x : ByteArray) (fr : Int) (w : World) (hT : Tab w) (hl : lit.size ≤ 25) (hw : 100 < wi.size) (hwm : wi.size ≤ maxLen) (hx : x.size ≤ 100) :
    Calls Tryd.prog 3 #[.string lit, .string wi, .string x, .int .i64 fr] w fun e w' => e = .returned (.bool true) ∧ Fr [] w w' := by
  have hs := escN_size lit lit.size (Nat.le_refl _)
  have hk := knows_any w hT
  have hesc := fun (W : World) => escaped_any lit (by omega) W
  have hlo := fun (W : World) (h : Tab W) => look_ok (escN lit lit.size) W (by omega) h (read_esc lit hl).1
  have hse := fun (W : World) (h : Tab W) => seeks_any lit x fr W hl h (by unfold maxLen; omega)
  have hsw := fun (W : World) => swap_long (escN lit lit.size) wi x W (.inl hw) hwm (by unfold maxLen; omega)
  have hsp := fun (W : World) (h : Tab W) => split_esc lit x W hl h hx
  have hpa := fun (W : World) => parted_any lit x W (by omega) hx
  have hle := partR_len lit x hl
  have hn : (escN lit lit.size).size ≤ 50 := by omega
  have g1 : ¬ ((50 : Int) < (escN lit lit.size).size) := by omega
  clear hs
  unfold maxLen at hwm
  generalize escN lit lit.size = t at *
  generalize partR lit x = L at *
  have H1 : Hid _ := hesc
  have H2 : Hid _ := hlo
  have H3 : Hid _ := hse
  have H4 : Hid _ := hsw
  have H6 : Hid _ := hsp
  have H7 : Hid _ := hpa
  clear hesc hlo hse hsw hsp hpa
  have g2 : ¬ ((100 : Int) < x.size) := by omega
  have g3 : (100 : Int) < wi.size := by omega
  go_enter Tryd.func3, Tryd.ntmps3
  go_wp2_with fail
  refine hk.mono ?_
  rintro e w1 ⟨rfl, f1⟩
  have T1 := hT.fr f1 (by simp)
  clear hk
  go_wp2_with fail
  refine (H1.out w1).mono ?_
  rintro e w2 ⟨rfl, rfl⟩
  go_wp2_with fail
  refine (H2.out _ T1).mono ?_
  rintro e w3 ⟨rfl, f3⟩
  have T3 := T1.fr f3 (by simp)
  go_wp2_with fail
  refine (H3.out _ T3).mono ?_
  rintro e w4 ⟨rfl, f4⟩
  have T4 := T3.fr f4 (by simp)
  go_wp2_with fail
  refine (H4.out _).mono ?_
  rintro e w5 ⟨rfl, f5⟩
  have T5 := T4.fr f5 (by simp)
  go_wp2_with fail
  refine (H6.out _ T5).mono ?_
  rintro e w7 ⟨v, rfl, s7, f7⟩
  go_wp2_with fail
  refine (H7.out _).mono ?_
  rintro e w8 ⟨v', rfl, s8, f8⟩
  have hsa := same_any L v v' w8 (by omega) (s7.fr f8) s8
  go_wp2_with fail
  refine hsa.mono ?_
  rintro e w9 ⟨rfl, f9⟩
  go_wp2
  go_ret
  exact ⟨rfl, (((((f1.trans f3).trans f4).trans f5).trans f7).trans f8).trans f9⟩

set_option maxRecDepth 100000 in
set_option maxHeartbeats 1000000 in
theorem literal_long (lit wi x : ByteArray) (fr : Int) (w : World) (hT : Tab w) (hl : lit.size ≤ 25) (hwm : wi.size ≤ maxLen) (hx : 100 < x.size) (hxm : x.size ≤ maxLen) :
    Calls Tryd.prog 3 #[.string lit, .string wi, .string x, .int .i64 fr] w fun e w' => e = .returned (.bool true) ∧ Fr [] w w' := by
  have hs := escN_size lit lit.size (Nat.le_refl _)
  have hk := knows_any w hT
  have hesc := fun (W : World) => escaped_any lit (by omega) W
  have hlo := fun (W : World) (h : Tab W) => look_ok (escN lit lit.size) W (by omega) h (read_esc lit hl).1
  have hse := fun (W : World) (h : Tab W) => seeks_any lit x fr W hl h hxm
  have hsw := fun (W : World) => swap_long (escN lit lit.size) wi x W (.inr hx) hwm hxm
  have hsp := fun (W : World) => split_long (escN lit lit.size) x W hx hxm
  have hn : (escN lit lit.size).size ≤ 50 := by omega
  have g1 : ¬ ((50 : Int) < (escN lit lit.size).size) := by omega
  clear hs
  unfold maxLen at hwm hxm
  generalize escN lit lit.size = t at *
  have H1 : Hid _ := hesc
  have H2 : Hid _ := hlo
  have H3 : Hid _ := hse
  have H4 : Hid _ := hsw
  have H6 : Hid _ := hsp
  clear hesc hlo hse hsw hsp
  have g2 : (100 : Int) < x.size := by omega
  go_enter Tryd.func3, Tryd.ntmps3
  go_wp2_with fail
  refine hk.mono ?_
  rintro e w1 ⟨rfl, f1⟩
  have T1 := hT.fr f1 (by simp)
  clear hk
  go_wp2_with fail
  refine (H1.out w1).mono ?_
  rintro e w2 ⟨rfl, rfl⟩
  go_wp2_with fail
  refine (H2.out _ T1).mono ?_
  rintro e w3 ⟨rfl, f3⟩
  have T3 := T1.fr f3 (by simp)
  go_wp2_with fail
  refine (H3.out _ T3).mono ?_
  rintro e w4 ⟨rfl, f4⟩
  have T4 := T3.fr f4 (by simp)
  go_wp2_with fail
  refine (H4.out _).mono ?_
  rintro e w5 ⟨rfl, f5⟩
  go_wp2_with fail
  refine (H6.out _).mono ?_
  rintro e w7 ⟨rfl, f7⟩
  go_wp2
  rw [Go.run_eql_nil_slice w7 31 9 none 0 0 0 0 Tryd.underlying31]
  simp only [Result.andThen]
  rw [Oper.upon_value]
  go_wp2
  go_ret
  exact ⟨rfl, (((f1.trans f3).trans f4).trans f5).trans f7⟩

/-- Whatever the arguments: true. -/
theorem literal_any (lit wi x : ByteArray) (fr : Int) (w : World) (hT : Tab w) (h1 : lit.size ≤ 140737488355328) (h2 : wi.size ≤ 140737488355328) (h3 : x.size ≤ 140737488355328) :
    Calls Tryd.prog 3 #[.string lit, .string wi, .string x, .int .i64 fr] w fun e w' => e = .returned (.bool true) ∧ Fr [] w w' := by
  by_cases hl : 25 < lit.size
  · exact literal_great lit wi x fr w hT h1 hl
  · by_cases hx : 100 < x.size
    · exact literal_long lit wi x fr w hT (by omega) (by unfold maxLen; omega) hx (by unfold maxLen; omega)
    · by_cases hw : 100 < wi.size
      · exact literal_wide lit wi x fr w hT (by omega) hw (by unfold maxLen; omega) (by omega)
      · exact literal_small lit wi x fr w hT (by omega) (by omega) (by omega)

end Go.Proofs.YticaoekmlaipnaaDoor
