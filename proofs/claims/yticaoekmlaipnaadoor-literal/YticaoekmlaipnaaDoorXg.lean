/-
  replaced and parted: plain search; same.
-/
import Derived.Test.YticaoekmlaipnaaDoorXf
set_option linter.unusedSimpArgs false
set_option linter.unusedVariables false
namespace Go.Proofs.YticaoekmlaipnaaDoor
open Go.RowKit

/-- x from the place k on, with wi in the place of each lit. The first number is a bound on the steps. -/
def replG (lit : ByteArray) (wi : List UInt8) (x : ByteArray) : Nat → Nat → List UInt8
  | 0, _ => []
  | f + 1, k =>
    if k ≤ x.size then
      if mt lit x 0 k then
        if 0 < lit.size then wi ++ replG lit wi x f (k + lit.size) else wi ++ (atL x k ++ replG lit wi x f (k + 1))
      else atL x k ++ replG lit wi x f (k + 1)
    else []
theorem replG_s (lit : ByteArray) (wi : List UInt8) (x : ByteArray) (f k : Nat) : replG lit wi x (f + 1) k =
    if k ≤ x.size then
      if mt lit x 0 k then
        if 0 < lit.size then wi ++ replG lit wi x f (k + lit.size) else wi ++ (atL x k ++ replG lit wi x f (k + 1))
      else atL x k ++ replG lit wi x f (k + 1)
    else [] := rfl
theorem replG_more (lit : ByteArray) (wi : List UInt8) (x : ByteArray) : ∀ f k, x.size + 1 - k ≤ f → replG lit wi x (f + 1) k = replG lit wi x f k
  | 0, k, h => by rw [replG_s lit wi x 0 k, if_neg (by omega)]; rfl
  | f + 1, k, h => by
    rw [replG_s lit wi x (f + 1) k, replG_s lit wi x f k]
    by_cases hk : k ≤ x.size
    · rw [if_pos hk, if_pos hk]
      by_cases hl : 0 < lit.size
      · rw [if_pos hl, if_pos hl, replG_more lit wi x f _ (by omega), replG_more lit wi x f _ (by omega)]
      · rw [if_neg hl, if_neg hl, replG_more lit wi x f _ (by omega)]
    · rw [if_neg hk, if_neg hk]
theorem replG_enough (lit : ByteArray) (wi : List UInt8) (x : ByteArray) (k : Nat) : ∀ d, replG lit wi x (x.size + 1 - k + d) k = replG lit wi x (x.size + 1 - k) k
  | 0 => rfl
  | d + 1 => by rw [← Nat.add_assoc, replG_more _ _ _ _ _ (by omega), replG_enough lit wi x k d]
def replL (lit : ByteArray) (wi : List UInt8) (x : ByteArray) (k : Nat) : List UInt8 := replG lit wi x (x.size + 1 - k) k
theorem replL_eq (lit : ByteArray) (wi : List UInt8) (x : ByteArray) (k : Nat) : replL lit wi x k =
    if k ≤ x.size then
      if mt lit x 0 k then
        if 0 < lit.size then wi ++ replL lit wi x (k + lit.size) else wi ++ (atL x k ++ replL lit wi x (k + 1))
      else atL x k ++ replL lit wi x (k + 1)
    else [] := by
  by_cases hk : k ≤ x.size
  · rw [if_pos hk]
    unfold replL
    rw [show x.size + 1 - k = (x.size + 1 - (k + 1)) + 1 by omega, replG_s, if_pos hk]
    by_cases hl : 0 < lit.size
    · have e := replG_enough lit wi x (k + lit.size) (x.size + 1 - (k + 1) - (x.size + 1 - (k + lit.size)))
      rw [show x.size + 1 - (k + lit.size) + (x.size + 1 - (k + 1) - (x.size + 1 - (k + lit.size))) = x.size + 1 - (k + 1) by omega] at e
      rw [if_pos hl, if_pos hl, e]
    · rw [if_neg hl, if_neg hl]
  · rw [if_neg hk]
    unfold replL
    rw [show x.size + 1 - k = 0 by omega]
    rfl

/-- The pieces of x between each lit, from the place k on; the piece at hand begun at bg. The first number is a bound on the steps. -/
def partG (lit x : ByteArray) : Nat → Nat → Nat → List ByteArray
  | 0, bg, _ => [x.extract bg x.size]
  | f + 1, bg, k =>
    if k < x.size ∧ 0 < lit.size then
      if mt lit x 0 k then x.extract bg k :: partG lit x f (k + lit.size) (k + lit.size) else partG lit x f bg (k + 1)
    else [x.extract bg x.size]
theorem partG_s (lit x : ByteArray) (f bg k : Nat) : partG lit x (f + 1) bg k =
    if k < x.size ∧ 0 < lit.size then
      if mt lit x 0 k then x.extract bg k :: partG lit x f (k + lit.size) (k + lit.size) else partG lit x f bg (k + 1)
    else [x.extract bg x.size] := rfl
theorem partG_more (lit x : ByteArray) : ∀ f bg k, x.size - k ≤ f → partG lit x (f + 1) bg k = partG lit x f bg k
  | 0, bg, k, h => by rw [partG_s lit x 0 bg k, if_neg (by omega)]; rfl
  | f + 1, bg, k, h => by
    rw [partG_s lit x (f + 1) bg k, partG_s lit x f bg k]
    by_cases hk : k < x.size ∧ 0 < lit.size
    · rw [if_pos hk, if_pos hk, partG_more lit x f _ _ (by omega), partG_more lit x f _ _ (by omega)]
    · rw [if_neg hk, if_neg hk]
theorem partG_enough (lit x : ByteArray) (bg k : Nat) : ∀ d, partG lit x (x.size - k + d) bg k = partG lit x (x.size - k) bg k
  | 0 => rfl
  | d + 1 => by rw [← Nat.add_assoc, partG_more _ _ _ _ _ (by omega), partG_enough lit x bg k d]
def partL (lit x : ByteArray) (bg k : Nat) : List ByteArray := partG lit x (x.size - k) bg k
theorem partL_eq (lit x : ByteArray) (bg k : Nat) : partL lit x bg k =
    if k < x.size ∧ 0 < lit.size then
      if mt lit x 0 k then x.extract bg k :: partL lit x (k + lit.size) (k + lit.size) else partL lit x bg (k + 1)
    else [x.extract bg x.size] := by
  by_cases hk : k < x.size ∧ 0 < lit.size
  · rw [if_pos hk]
    unfold partL
    have e := partG_enough lit x (k + lit.size) (k + lit.size) (x.size - (k + 1) - (x.size - (k + lit.size)))
    rw [show x.size - (k + lit.size) + (x.size - (k + 1) - (x.size - (k + lit.size))) = x.size - (k + 1) by omega] at e
    rw [show x.size - k = (x.size - (k + 1)) + 1 by omega, partG_s, if_pos hk, e]
  · rw [if_neg hk]
    unfold partL
    cases hf : x.size - k with
    | zero => rfl
    | succ f => rw [partG_s, if_neg hk]

theorem swap_repl (lit x : ByteArray) (wi : List UInt8) (E : Nat → Int) (hE : ∀ k, k ≤ x.size → E k = if mt lit x 0 k then ((k + lit.size : Nat) : Int) else -1) :
    ∀ d k sw, x.size + 1 - k ≤ d → (lit.size = 0 → sw = -1) → swapL E wi x k sw = replL lit wi x k
  | 0, k, sw, hd, _ => by rw [swapL_eq, if_neg (by omega), replL_eq, if_neg (by omega)]
  | d + 1, k, sw, hd, hsw => by
    rw [swapL_eq, replL_eq]
    by_cases h : k ≤ x.size
    · have e := hE k h
      rw [if_pos h, if_pos h]
      by_cases hm : mt lit x 0 k
      · rw [if_pos hm] at e
        rw [if_pos hm]
        by_cases h3 : 0 < lit.size
        · rw [if_pos (show (k : Int) < E k by omega), if_pos h3, e, Int.toNat_natCast, swap_repl lit x wi E hE d _ _ (by omega) (by omega)]
        · have hs := hsw (by omega)
          rw [if_neg (show ¬ (k : Int) < E k by omega), if_neg h3, if_pos (show E k = k ∧ sw ≠ k from ⟨by omega, by omega⟩), swap_repl lit x wi E hE d _ _ (by omega) hsw]
      · rw [if_neg hm] at e
        rw [if_neg hm, if_neg (show ¬ (k : Int) < E k by omega), if_neg (show ¬ (E k = k ∧ sw ≠ k) by omega), List.nil_append, swap_repl lit x wi E hE d _ _ (by omega) hsw]
    · rw [if_neg h, if_neg h]

theorem split_part (lit x : ByteArray) (E : Nat → Int) (hE : ∀ k, k ≤ x.size → E k = if mt lit x 0 k then ((k + lit.size : Nat) : Int) else -1) (hl : 0 < lit.size) :
    ∀ d bg k, x.size - k ≤ d → splitL E x bg k = partL lit x bg k
  | 0, bg, k, hd => by rw [splitL_eq, if_neg (by omega), partL_eq, if_neg (by omega)]
  | d + 1, bg, k, hd => by
    rw [splitL_eq, partL_eq]
    by_cases h : k < x.size
    · have e := hE k (by omega)
      rw [if_pos h, if_pos (show k < x.size ∧ 0 < lit.size from ⟨h, hl⟩)]
      by_cases hm : mt lit x 0 k
      · rw [if_pos hm] at e
        rw [if_pos hm, if_neg (show ¬ E k ≤ k by omega), e, Int.toNat_natCast, split_part lit x E hE hl d _ _ (by omega)]
      · rw [if_neg hm] at e
        rw [if_neg hm, if_pos (show E k ≤ k by omega), split_part lit x E hE hl d _ _ (by omega)]
    · rw [if_neg h, if_neg (show ¬ (k < x.size ∧ 0 < lit.size) by omega)]

theorem split_none (x : ByteArray) (E : Nat → Int) (hE : ∀ k, k ≤ x.size → E k ≤ k) : ∀ d bg k, x.size - k ≤ d → splitL E x bg k = [x.extract bg x.size]
  | 0, bg, k, hd => by rw [splitL_eq, if_neg (by omega)]
  | d + 1, bg, k, hd => by
    rw [splitL_eq]
    by_cases h : k < x.size
    · rw [if_pos h, if_pos (hE k (by omega)), split_none x E hE d _ _ (by omega)]
    · rw [if_neg h]

theorem split_part' (lit x : ByteArray) (E : Nat → Int) (hE : ∀ k, k ≤ x.size → E k = if mt lit x 0 k then ((k + lit.size : Nat) : Int) else -1) : splitL E x 0 0 = partL lit x 0 0 := by
  by_cases hl : 0 < lit.size
  · exact split_part lit x E hE hl x.size 0 0 (by omega)
  · rw [split_none x E (fun k hk => by rw [hE k hk]; split <;> omega) x.size 0 0 (by omega), partL_eq, if_neg (show ¬ (0 < x.size ∧ 0 < lit.size) by omega)]

theorem data_append (a b : ByteArray) : (a ++ b).data.toList = a.data.toList ++ b.data.toList := by rw [ByteArray.data_append, Array.toList_append]
theorem data_one (x : ByteArray) (k : Nat) (h : k < x.size) : (x.extract k (k + 1)).data.toList = atL x k := by
  unfold atL
  rw [dif_pos h, ByteArray.data_extract]
  have hk : k < x.data.size := h
  apply List.ext_getElem
  · simp; omega
  · intro i h1 h2
    simp at h2
    subst h2
    simp [ByteArray.getElem_eq_getElem_data]

set_option maxRecDepth 100000 in
set_option maxHeartbeats 1000000 in
theorem replaced_any (lit wi x : ByteArray) (w : World) (hl : lit.size ≤ 100) (hw : wi.size ≤ 100) (hx : x.size ≤ 100) :
    Calls Tryd.prog 12 #[.string lit, .string wi, .string x] w fun e w' => e = .returned (.string ⟨(replL lit wi.data.toList x 0).toArray⟩) ∧ w' = w := by
  obtain ⟨R, hR⟩ : ∃ R, replL lit wi.data.toList x 0 = R := ⟨_, rfl⟩
  rw [hR]
  have HR : Hid (_ = R) := hR
  clear hR
  go_enter Tryd.func12, Tryd.ntmps12
  go_wp2
  go_loop [7, 8] (fun a i => ∃ (k : Nat) (o : ByteArray), k ≤ x.size + 1 ∧ o.size ≤ 101 * k ∧ a = .string o ∧ i = .int .i64 k ∧ Hid (o.data.toList ++ replL lit wi.data.toList x k = R)) (fun _ i => x.size + 1 - (intOf i).toNat)
  case atStart => exact ⟨0, ⟨#[]⟩, by omega, Nat.le_refl _, rfl, rfl, HR⟩
  case round =>
    obtain ⟨k, o, hk, ho, rfl, rfl, hR⟩ := hrel
    have hR' := hR.out
    rw [replL_eq] at hR'
    by_cases hks : k ≤ x.size
    · have g1 : (k : Int) ≤ x.size := by omega
      have hst := stands_any lit x k hl hx (by omega) w
      rw [if_pos hks] at hR'
      have hn : (o ++ wi).size = o.size + wi.size := ByteArray.size_append
      by_cases hm : mt lit x 0 k
      · rw [if_pos hm] at hR'
        rw [show mtB lit x 0 k = true from hm] at hst
        have hm1 := (mt_iff.1 hm).1
        by_cases h0 : 0 < lit.size
        · have hne := ne_empty h0
          rw [if_pos h0, ← List.append_assoc, ← data_append] at hR'
          have HR' : Hid _ := hR'
          clear hR' hm
          go_wp2_with fail
          refine hst.mono ?_
          rintro e w1 ⟨rfl, rfl⟩
          go_wp2
          go_round
          case rel => exact ⟨k + lit.size, o ++ wi, by omega, by omega, rfl, by go_num, HR'⟩
          case measure => simp [intOf]; omega
        · have hem : lit = ⟨#[]⟩ := ByteArray.ext (Array.eq_empty_of_size_eq_zero (by have : lit.size = lit.data.size := rfl; omega))
          rw [if_neg h0] at hR'
          by_cases hlt : k < x.size
          · have g3 : (k : Int) < x.size := by omega
            have hn2 : (o ++ wi ++ x.extract k (k + 1)).size = o.size + wi.size + 1 := by rw [ByteArray.size_append, hn, ByteArray.size_extract]; omega
            have hn3 : (x.extract k (k + 1)).size = 1 := by rw [ByteArray.size_extract]; omega
            rw [← data_one x k hlt, ← List.append_assoc, ← List.append_assoc, ← data_append, ← data_append] at hR'
            have HR' : Hid _ := hR'
            clear hR' hm
            subst hem
            go_wp2_with fail
            refine hst.mono ?_
            rintro e w1 ⟨rfl, rfl⟩
            go_wp2
            go_round
            case rel => exact ⟨k + 1, o ++ wi ++ x.extract k (k + 1), by omega, by omega, rfl, by go_num, HR'⟩
            case measure => simp [intOf]; omega
          · have g3 : ¬ ((k : Int) < x.size) := by omega
            have ea : atL x k = [] := by unfold atL; rw [dif_neg hlt]
            rw [ea, List.nil_append, ← List.append_assoc, ← data_append] at hR'
            have HR' : Hid _ := hR'
            clear hR' hm ea
            subst hem
            go_wp2_with fail
            refine hst.mono ?_
            rintro e w1 ⟨rfl, rfl⟩
            go_wp2
            go_round
            case rel => exact ⟨k + 1, o ++ wi, by omega, by omega, rfl, by go_num, HR'⟩
            case measure => simp [intOf]; omega
      · rw [if_neg hm] at hR'
        rw [Bool.eq_false_iff.2 hm] at hst
        by_cases hlt : k < x.size
        · have g3 : (k : Int) < x.size := by omega
          have hn2 : (o ++ x.extract k (k + 1)).size = o.size + 1 := by rw [ByteArray.size_append, ByteArray.size_extract]; omega
          have hn3 : (x.extract k (k + 1)).size = 1 := by rw [ByteArray.size_extract]; omega
          rw [← data_one x k hlt, ← List.append_assoc, ← data_append] at hR'
          have HR' : Hid _ := hR'
          clear hR' hm
          go_wp2_with fail
          refine hst.mono ?_
          rintro e w1 ⟨rfl, rfl⟩
          go_wp2
          go_round
          case rel => exact ⟨k + 1, o ++ x.extract k (k + 1), by omega, by omega, rfl, by go_num, HR'⟩
          case measure => simp [intOf]; omega
        · have g3 : ¬ ((k : Int) < x.size) := by omega
          have ea : atL x k = [] := by unfold atL; rw [dif_neg hlt]
          rw [ea, List.nil_append] at hR'
          have HR' : Hid _ := hR'
          clear hR' hm ea
          go_wp2_with fail
          refine hst.mono ?_
          rintro e w1 ⟨rfl, rfl⟩
          go_wp2
          go_round
          case rel => exact ⟨k + 1, o, by omega, by omega, rfl, by go_num, HR'⟩
          case measure => simp [intOf]; omega
    · have g1 : ¬ ((k : Int) ≤ x.size) := by omega
      rw [if_neg hks, List.append_nil] at hR'
      have HR' : Hid _ := hR'
      clear hR'
      go_wp2
      go_ret
      refine ⟨?_, rfl⟩
      rw [← HR'.out]
      simp

end Go.Proofs.YticaoekmlaipnaaDoor
