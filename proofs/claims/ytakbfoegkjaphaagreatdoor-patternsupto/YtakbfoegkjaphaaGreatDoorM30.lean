/-
  The document's Pieces and Split. The document's Swapped, Swap and Split. The small functions of gleanlaw: num, pick, sameTexts, all. Split, once more: the list that it gives is a row of its own.
-/
import Derived.Test.YtakbfoegkjaphaaGreatDoorM29
import Derived.Test.YtakbfoegkjaphaaGreatDoorM16
set_option linter.unusedSimpArgs false
set_option linter.unusedVariables false
namespace Go.Proofs.YtakbfoegkjaphaaGreatDoor
open Go.RowKit

set_option maxRecDepth 100000 in
set_option maxHeartbeats 2000000 in
theorem piecesR_any (t x : ByteArray) (w : World) (ht : t.size ≤ 50) (hx : x.size ≤ 100) (hx0 : 0 < x.size) (hok : readOk t = true) :
    Calls Tryz.prog 69 #[.string t, .string x] w fun e w' => ∃ v, e = .returned v ∧ StrsAt w' v (splitL (Ef t x) x 0 0) ∧ Fr [] w w' := by
  obtain ⟨i0, hi, hz0, hz1, hz2⟩ := info_parts info9
  have hen := endsR_any t x w ht hx hok
  have hle : ∀ k, Ef t x k ≤ x.size ∧ -1 ≤ Ef t x k := fun k => endF_le _ _ _ x k
  have hne := ne_empty hx0
  generalize Ef t x = E at *
  obtain ⟨R, hR⟩ : ∃ R, splitL E x 0 0 = R := ⟨_, rfl⟩
  rw [hR]
  have HR : Hid (_ = R) := hR
  have Hle : Hid _ := hle
  clear hR hle hok
  go_enter Tryz.func69, Tryz.ntmps69
  go_wp2_with fail
  refine hen.mono ?_
  rintro e w0 ⟨v, rfl, hI, f1⟩
  obtain ⟨eb, cap, rfl, hlt, hc⟩ := hI.out
  have J0 := OwnI.start w0
  have Hc : Hid _ := hc
  clear hc hen hI
  go_wp2
  go_loopw [6, 7, 8] (fun v bg pl wr => ∃ (k b : Nat) (L : List ByteArray), b ≤ k ∧ k ≤ x.size ∧ L.length ≤ k ∧ bg = .int .i64 b ∧ pl = .int .i64 k ∧ Hid (L ++ splitL E x b k = R) ∧ OwnI w0 L v wr) (fun _ _ pl _ => x.size - (intOf pl).toNat)
  case atStart => exact ⟨0, 0, [], by omega, by omega, by simp, rfl, rfl, HR, J0⟩
  case round =>
    clear J0
    obtain ⟨k, b, L, hb, hk, hl, rfl, rfl, hR, J⟩ := hrel
    have hR' := hR.out
    rw [splitL_eq] at hR'
    have hW := J.fr.size
    by_cases hks : k < x.size
    · have g1 : (k : Int) < x.size := by omega
      have g2 : (k : Int) < (x.size : Int) + 1 := by omega
      have c1 : wr.cell? ⟨eb, k, none⟩ = some (.int .i64 (E k)) := (J.fr.cell (p := ⟨eb, k, none⟩) hlt (by simp)).trans (Hc.out k (by omega))
      obtain ⟨hb1, hb2⟩ := Hle.out k
      rw [if_pos hks] at hR'
      by_cases hE : E k ≤ k
      · rw [if_pos hE] at hR'
        have HR' : Hid _ := hR'
        have gE : ¬ ((k : Int) < E k) := by omega
        clear hR'
        go_wp2
        exact ⟨⟨k + 1, b, L, by omega, by omega, by omega, rfl, by go_num, HR', J⟩, by simp [intOf]; omega⟩
      · rw [if_neg hE] at hR'
        have e1 : L ++ (x.extract b k :: splitL E x (E k).toNat (E k).toNat) = (L ++ [x.extract b k]) ++ splitL E x (E k).toNat (E k).toNat := by simp
        rw [e1] at hR'
        have HR' : Hid _ := hR'
        have gE : (k : Int) < E k := by omega
        clear hR' e1
        have g3 : (b : Int) ≤ k := by omega
        have hE0 : ((E k).toNat : Int) = E k := by omega
        have hown := J.own
        go_wp2_with (at_builtin; refine wpList_append_own _ rfl _ _ 27 rfl w0.heap.size 9 i0 (.string ⟨#[]⟩) 1 16 Tryz.underlying27 hi hz0 hz1 hz2 rfl (by decide) _ _ _ rfl (hown.alloc _) ⟨wr.heap.size, 0, none⟩ 1 1 [.string (x.extract b k)] rfl rfl ?c1 ?c2 ?c3 ?c4 ?c5 ?_)
        case c2 => rfl
        case c3 => unfold maxLen; omega
        case c4 => omega
        case c5 => omega
        intro v' w3 hown' hgrow _
        have J3 := J.grown hown' hgrow
        have c3 : w3.cell? ⟨eb, k, none⟩ = some (.int .i64 (E k)) := (J3.fr.cell (p := ⟨eb, k, none⟩) hlt (by simp)).trans (Hc.out k (by omega))
        go_wp2
        exact ⟨⟨(E k).toNat, (E k).toNat, L ++ [x.extract b k], by omega, by omega, by rw [List.length_append]; simp; omega, by rw [hE0], by rw [hE0], HR', J3⟩, by simp [intOf]; omega⟩
    · have g1 : ¬ ((k : Int) < x.size) := by omega
      rw [if_neg hks] at hR'
      have HR' : Hid _ := hR'
      clear hR'
      have g3 : (b : Int) ≤ x.size := by omega
      have hown := J.own
      go_wp2_with (at_builtin; refine wpList_append_own _ rfl _ _ 27 rfl w0.heap.size 9 i0 (.string ⟨#[]⟩) 1 16 Tryz.underlying27 hi hz0 hz1 hz2 rfl (by decide) _ _ _ rfl (hown.alloc _) ⟨wr.heap.size, 0, none⟩ 1 1 [.string (x.extract b x.size)] rfl rfl ?d1 ?d2 ?d3 ?d4 ?d5 ?_)
      case d2 => rfl
      case d3 => unfold maxLen; omega
      case d4 => omega
      case d5 => omega
      intro v' w3 hown' hgrow _
      have J3 := J.grown hown' hgrow
      go_wp2
      go_ret
      refine ⟨v', rfl, ?_, f1.trans J3.fr⟩
      rw [← HR'.out]
      exact J3.strs

set_option maxRecDepth 100000 in
set_option maxHeartbeats 2000000 in
theorem piecesR_empty (t : ByteArray) (w : World) : Calls Tryz.prog 69 #[.string t, .string ⟨#[]⟩] w fun e w' => e = .returned (.slice none 0 0) ∧ w' = w := by
  go_enter Tryz.func69, Tryz.ntmps69
  go_wp2
  go_ret
  exact ⟨rfl, rfl⟩

end Go.Proofs.YtakbfoegkjaphaaGreatDoor

namespace Go.Proofs.YtakbfoegkjaphaaGreatDoor
open Go.RowKit

theorem data_append (a b : ByteArray) : (a ++ b).data.toList = a.data.toList ++ b.data.toList := by rw [ByteArray.data_append, Array.toList_append]
theorem data_one (x : ByteArray) (k : Nat) (h : k < x.size) : (x.extract k (k + 1)).data.toList = atL x k := by
  unfold atL
  rw [dif_pos h, ByteArray.data_extract]
  have hk : k < x.data.size := h
  apply List.ext_getElem
  · simp; omega
  · intro i h1 h2
    simp at h2
    subst h2
    simp [ByteArray.getElem_eq_getElem_data]

set_option maxRecDepth 100000 in
set_option maxHeartbeats 2000000 in
theorem swappedR_any (t wi x : ByteArray) (w : World) (ht : t.size ≤ 50) (hw : wi.size ≤ 100) (hx : x.size ≤ 100) (hok : readOk t = true) :
    Calls Tryz.prog 67 #[.string t, .string wi, .string x] w fun e w' => e = .returned (.string ⟨(swapL (Ef t x) wi.data.toList x 0 (-1)).toArray⟩) ∧ Fr [] w w' := by
  have hen := endsR_any t x w ht hx hok
  have hle : ∀ k, Ef t x k ≤ x.size ∧ -1 ≤ Ef t x k := fun k => endF_le _ _ _ x k
  generalize Ef t x = E at *
  obtain ⟨R, hR⟩ : ∃ R, swapL E wi.data.toList x 0 (-1) = R := ⟨_, rfl⟩
  rw [hR]
  have HR : Hid (_ = R) := hR
  have Hle : Hid _ := hle
  clear hR hle hok
  go_enter Tryz.func67, Tryz.ntmps67
  go_wp2_with fail
  refine hen.mono ?_
  rintro e w1 ⟨v, rfl, hI, f1⟩
  obtain ⟨eb, cap, rfl, hlt, hc⟩ := hI.out
  have Hc : Hid _ := hc
  clear hc hen hI
  go_wp2
  go_loop [8, 9, 10] (fun a s i => ∃ (k : Nat) (o : ByteArray) (sw : Int), k ≤ x.size + 1 ∧ o.size ≤ 101 * k ∧ a = .string o ∧ s = .int .i64 sw ∧ i = .int .i64 k ∧ Hid (o.data.toList ++ swapL E wi.data.toList x k sw = R)) (fun _ _ i => x.size + 1 - (intOf i).toNat)
  case atStart => exact ⟨0, ⟨#[]⟩, -1, by omega, Nat.le_refl _, rfl, rfl, rfl, HR⟩
  case round =>
    clear HR
    obtain ⟨k, o, sw, hk, ho, rfl, rfl, rfl, hR⟩ := hrel
    have hR' := hR.out
    rw [swapL_eq] at hR'
    by_cases hks : k ≤ x.size
    · have g1 : (k : Int) ≤ x.size := by omega
      have g2 : (k : Int) < (x.size : Int) + 1 := by omega
      have c1 := Hc.out k (by omega)
      obtain ⟨hb1, hb2⟩ := Hle.out k
      rw [if_pos hks] at hR'
      have hn : (o ++ wi).size = o.size + wi.size := ByteArray.size_append
      by_cases hE : (k : Int) < E k
      · rw [if_pos hE, ← List.append_assoc, ← data_append] at hR'
        have hE0 : ((E k).toNat : Int) = E k := by omega
        have HR' : Hid (_ = R) := hR'
        clear hR' hR
        go_wp2
        go_round
        case rel => exact ⟨(E k).toNat, o ++ wi, E k, by omega, by omega, rfl, rfl, by rw [hE0], HR'⟩
        case measure => simp [intOf]; omega
      · rw [if_neg hE] at hR'
        have hn3 : k < x.size → (x.extract k (k + 1)).size = 1 := fun h => by rw [ByteArray.size_extract]; omega
        by_cases hS : E k = k ∧ sw ≠ k
        · rw [if_pos hS] at hR'
          have e1 : (E k == (k : Int)) = true := by simp [hS.1]
          have e2 : (sw != (k : Int)) = true := by simp [hS.2]
          clear hS
          by_cases hl : k < x.size
          · have g3 : (k : Int) < x.size := by omega
            have hn2 : (o ++ wi ++ x.extract k (k + 1)).size = o.size + wi.size + 1 := by rw [ByteArray.size_append, hn, hn3 hl]
            have hn3' := hn3 hl
            rw [← data_one x k hl, ← List.append_assoc, ← List.append_assoc, ← data_append, ← data_append] at hR'
            have HR' : Hid (_ = R) := hR'
            clear hR' hR hn3
            go_wp2
            go_round
            case rel => exact ⟨k + 1, o ++ wi ++ x.extract k (k + 1), sw, by omega, by omega, rfl, rfl, by go_num, HR'⟩
            case measure => simp [intOf]; omega
          · have g3 : ¬ ((k : Int) < x.size) := by omega
            have ea : atL x k = [] := by unfold atL; rw [dif_neg hl]
            rw [ea, List.nil_append, ← List.append_assoc, ← data_append] at hR'
            have HR' : Hid (_ = R) := hR'
            clear hR' hR ea hn3
            go_wp2
            go_round
            case rel => exact ⟨k + 1, o ++ wi, sw, by omega, by omega, rfl, rfl, by go_num, HR'⟩
            case measure => simp [intOf]; omega
        · rw [if_neg hS, List.nil_append] at hR'
          have hno : (E k == (k : Int)) = false ∨ ((E k == (k : Int)) = true ∧ (sw != (k : Int)) = false) := by
            by_cases q1 : E k = k
            · right
              have q2 : sw = k := by
                by_cases q2 : sw = k
                · exact q2
                · exact absurd ⟨q1, q2⟩ hS
              exact ⟨by simp [q1], by simp [q2]⟩
            · left; simp [q1]
          clear hS
          by_cases hl : k < x.size
          · have g3 : (k : Int) < x.size := by omega
            have hn2 : (o ++ x.extract k (k + 1)).size = o.size + 1 := by rw [ByteArray.size_append, hn3 hl]
            have hn3' := hn3 hl
            rw [← data_one x k hl, ← List.append_assoc, ← data_append] at hR'
            have HR' : Hid (_ = R) := hR'
            clear hR' hR hn3
            rcases hno with e1 | ⟨e1, e2⟩
            · go_wp2
              go_round
              case rel => exact ⟨k + 1, o ++ x.extract k (k + 1), sw, by omega, by omega, rfl, rfl, by go_num, HR'⟩
              case measure => simp [intOf]; omega
            · go_wp2
              go_round
              case rel => exact ⟨k + 1, o ++ x.extract k (k + 1), sw, by omega, by omega, rfl, rfl, by go_num, HR'⟩
              case measure => simp [intOf]; omega
          · have g3 : ¬ ((k : Int) < x.size) := by omega
            have ea : atL x k = [] := by unfold atL; rw [dif_neg hl]
            rw [ea, List.nil_append] at hR'
            have HR' : Hid (_ = R) := hR'
            clear hR' hR ea hn3
            rcases hno with e1 | ⟨e1, e2⟩
            · go_wp2
              go_round
              case rel => exact ⟨k + 1, o, sw, by omega, by omega, rfl, rfl, by go_num, HR'⟩
              case measure => simp [intOf]; omega
            · go_wp2
              go_round
              case rel => exact ⟨k + 1, o, sw, by omega, by omega, rfl, rfl, by go_num, HR'⟩
              case measure => simp [intOf]; omega
    · have g1 : ¬ ((k : Int) ≤ x.size) := by omega
      rw [if_neg hks, List.append_nil] at hR'
      have HR' : Hid (_ = R) := hR'
      clear hR' hR
      go_wp2
      go_ret
      refine ⟨?_, f1⟩
      rw [← HR'.out]
      simp

set_option maxRecDepth 100000 in
set_option maxHeartbeats 2000000 in
theorem swapR_long (t wi x : ByteArray) (w : World) (h : 50 < t.size ∨ 100 < wi.size ∨ 100 < x.size) (ht : t.size ≤ 140737488355328) (hw : wi.size ≤ 140737488355328) (hx : x.size ≤ 140737488355328) :
    Calls Tryz.prog 30 #[.string t, .string wi, .string x] w fun e w' => e = .returned (.tuple #[.string ⟨#[]⟩, .int .i64 1]) ∧ w' = w := by
  by_cases h1 : 50 < t.size
  · have g1 : (50 : Int) < t.size := by omega
    go_enter Tryz.func30, Tryz.ntmps30
    go_wp2
    go_ret2
    exact ⟨rfl, rfl⟩
  · have g1 : ¬ ((50 : Int) < t.size) := by omega
    by_cases h2 : 100 < wi.size
    · have g2 : (100 : Int) < wi.size := by omega
      go_enter Tryz.func30, Tryz.ntmps30
      go_wp2
      go_ret2
      exact ⟨rfl, rfl⟩
    · have g2 : ¬ ((100 : Int) < wi.size) := by omega
      have g3 : (100 : Int) < x.size := by omega
      go_enter Tryz.func30, Tryz.ntmps30
      go_wp2
      go_ret2
      exact ⟨rfl, rfl⟩

set_option maxRecDepth 100000 in
set_option maxHeartbeats 2000000 in
theorem swapR_bad (t wi x : ByteArray) (w : World) (ht : t.size ≤ 50) (hw : wi.size ≤ 100) (hx : x.size ≤ 100) (hok : readOk t = false) :
    Calls Tryz.prog 30 #[.string t, .string wi, .string x] w fun e w' => e = .returned (.tuple #[.string ⟨#[]⟩, .int .i64 2]) ∧ Fr [] w w' := by
  have hl := lookR_bad t w ht hok
  have g1 : ¬ ((50 : Int) < t.size) := by omega
  have g2 : ¬ ((100 : Int) < x.size) := by omega
  have g3 : ¬ ((100 : Int) < wi.size) := by omega
  clear hok
  go_enter Tryz.func30, Tryz.ntmps30
  go_wp2_with fail
  refine hl.mono ?_
  rintro e w1 ⟨rfl, f1⟩
  go_wp2
  go_ret2
  exact ⟨rfl, f1⟩

set_option maxRecDepth 100000 in
set_option maxHeartbeats 2000000 in
theorem swapR_ok (t wi x : ByteArray) (w : World) (ht : t.size ≤ 50) (hw : wi.size ≤ 100) (hx : x.size ≤ 100) (hok : readOk t = true) :
    Calls Tryz.prog 30 #[.string t, .string wi, .string x] w fun e w' => e = .returned (.tuple #[.string ⟨(swapL (Ef t x) wi.data.toList x 0 (-1)).toArray⟩, .int .i64 0]) ∧ Fr [] w w' := by
  have hl := lookR_ok t w ht hok
  have hf := fun W => swappedR_any t wi x W ht hw hx hok
  generalize ByteArray.mk (swapL (Ef t x) wi.data.toList x 0 (-1)).toArray = R at *
  have Hf : Hid _ := hf
  have g1 : ¬ ((50 : Int) < t.size) := by omega
  have g2 : ¬ ((100 : Int) < x.size) := by omega
  have g3 : ¬ ((100 : Int) < wi.size) := by omega
  clear hok hf
  go_enter Tryz.func30, Tryz.ntmps30
  go_wp2_with fail
  refine hl.mono ?_
  rintro e w1 ⟨rfl, f1⟩
  clear hl
  go_wp2_with fail
  refine (Hf.out _).mono ?_
  rintro e w2 ⟨rfl, f2⟩
  go_wp2
  go_ret2
  exact ⟨rfl, f1.trans f2⟩

set_option maxRecDepth 100000 in
set_option maxHeartbeats 2000000 in
theorem splitR_long (t x : ByteArray) (w : World) (h : 50 < t.size ∨ 100 < x.size) (ht : t.size ≤ 140737488355328) (hx : x.size ≤ 140737488355328) :
    Calls Tryz.prog 32 #[.string t, .string x] w fun e w' => e = .returned (.tuple #[.slice none 0 0, .int .i64 1]) ∧ w' = w := by
  by_cases h1 : 50 < t.size
  · have g1 : (50 : Int) < t.size := by omega
    go_enter Tryz.func32, Tryz.ntmps32
    go_wp2
    go_ret2
    exact ⟨rfl, rfl⟩
  · have g1 : ¬ ((50 : Int) < t.size) := by omega
    have g2 : (100 : Int) < x.size := by omega
    go_enter Tryz.func32, Tryz.ntmps32
    go_wp2
    go_ret2
    exact ⟨rfl, rfl⟩

set_option maxRecDepth 100000 in
set_option maxHeartbeats 2000000 in
theorem splitR_bad (t x : ByteArray) (w : World) (ht : t.size ≤ 50) (hx : x.size ≤ 100) (hok : readOk t = false) :
    Calls Tryz.prog 32 #[.string t, .string x] w fun e w' => e = .returned (.tuple #[.slice none 0 0, .int .i64 2]) ∧ Fr [] w w' := by
  have hl := lookR_bad t w ht hok
  have g1 : ¬ ((50 : Int) < t.size) := by omega
  have g2 : ¬ ((100 : Int) < x.size) := by omega
  clear hok
  go_enter Tryz.func32, Tryz.ntmps32
  go_wp2_with fail
  refine hl.mono ?_
  rintro e w1 ⟨rfl, f1⟩
  go_wp2
  go_ret2
  exact ⟨rfl, f1⟩

theorem empty_of_size {x : ByteArray} (h : x.size = 0) : x = ⟨#[]⟩ := ByteArray.ext (Array.eq_empty_of_size_eq_zero (by have : x.size = x.data.size := rfl; omega))

theorem piecesR_all (t x : ByteArray) (w : World) (ht : t.size ≤ 50) (hx : x.size ≤ 100) (hok : readOk t = true) :
    Calls Tryz.prog 69 #[.string t, .string x] w fun e w' => ∃ v, e = .returned v ∧ StrsAt w' v (splitR (Ef t x) x) ∧ Fr [] w w' := by
  by_cases h0 : x.size = 0
  · unfold splitR
    rw [if_pos h0, empty_of_size h0]
    exact (piecesR_empty t w).mono fun e w' ⟨h1, h2⟩ => ⟨_, h1, .inl ⟨rfl, rfl⟩, by rw [h2]; exact Fr.refl [] w⟩
  · unfold splitR
    rw [if_neg h0]
    exact piecesR_any t x w ht hx (by omega) hok

set_option maxRecDepth 100000 in
set_option maxHeartbeats 2000000 in
theorem splitR_ok (t x : ByteArray) (w : World) (ht : t.size ≤ 50) (hx : x.size ≤ 100) (hok : readOk t = true) :
    Calls Tryz.prog 32 #[.string t, .string x] w fun e w' => ∃ v, e = .returned (.tuple #[v, .int .i64 0]) ∧ StrsAt w' v (splitR (Ef t x) x) ∧ Fr [] w w' := by
  have hl := lookR_ok t w ht hok
  have hf := fun W => piecesR_all t x W ht hx hok
  generalize splitR (Ef t x) x = R at *
  have Hf : Hid _ := hf
  have g1 : ¬ ((50 : Int) < t.size) := by omega
  have g2 : ¬ ((100 : Int) < x.size) := by omega
  clear hok hf
  go_enter Tryz.func32, Tryz.ntmps32
  go_wp2_with fail
  refine hl.mono ?_
  rintro e w1 ⟨rfl, f1⟩
  clear hl
  go_wp2_with fail
  refine (Hf.out _).mono ?_
  rintro e w2 ⟨v, rfl, hs, f2⟩
  go_wp2
  go_ret2
  exact ⟨v, rfl, hs, f1.trans f2⟩

end Go.Proofs.YtakbfoegkjaphaaGreatDoor

namespace Go.Proofs.YtakbfoegkjaphaaGreatDoor
open Go.RowKit

set_option maxRecDepth 100000 in
theorem num_any (n : Int) (w : World) : Calls Tryz.prog 26 #[.int .i64 n] w fun e w' => e = .returned (.int .i64 n) ∧ w' = w := by
  go_enter Tryz.func26, Tryz.ntmps26
  go_wp2
  go_ret
  exact ⟨rfl, rfl⟩

set_option maxRecDepth 100000 in
/-- Which of n things: some place below n. -/
theorem pick_any (c : Int) (n : Nat) (w : World) (hn : 0 < n) (h0 : -9223372036854775808 ≤ c) (h1 : c ≤ 9223372036854775807) (hs : n ≤ 1000000000) :
    Calls Tryz.prog 23 #[.int .i64 c, .int .i64 n] w fun e w' => ∃ k : Nat, k < n ∧ e = .returned (.int .i64 k) ∧ w' = w := by
  have hz : ((n : Int) == 0) = false := by simp; omega
  have hz' : ¬ ((n : Int) = 0) := by omega
  by_cases hc : c < 0
  · have e1 : IntKind.i64.wrap (-(c + 1)) = -(c + 1) := by rw [IntKind.wrap_i64]; omega
    have e2 : IntKind.i64.wrap (c + 1) = c + 1 := by rw [IntKind.wrap_i64]; omega
    have p1 : 0 ≤ (-(c + 1)) % (n : Int) := Int.emod_nonneg _ (by omega)
    have p2 : (-(c + 1)) % (n : Int) < n := Int.emod_lt_of_pos _ (by omega)
    have e3 : (-(c + 1)).tmod (n : Int) = (-(c + 1)) % (n : Int) := Int.tmod_eq_emod_of_nonneg (by omega)
    obtain ⟨k, hk⟩ : ∃ k : Nat, (k : Int) = (-(c + 1)) % (n : Int) := ⟨((-(c + 1)) % (n : Int)).toNat, by omega⟩
    rw [← hk] at e3 p1 p2
    clear hk
    go_enter Tryz.func23, Tryz.ntmps23
    go_wp2
    go_ret
    exact ⟨k, by omega, by first | rfl | (simp [e3]), rfl⟩
  · have p1 : 0 ≤ c % (n : Int) := Int.emod_nonneg _ (by omega)
    have p2 : c % (n : Int) < n := Int.emod_lt_of_pos _ (by omega)
    have e3 : c.tmod (n : Int) = c % (n : Int) := Int.tmod_eq_emod_of_nonneg (by omega)
    obtain ⟨k, hk⟩ : ∃ k : Nat, (k : Int) = c % (n : Int) := ⟨(c % (n : Int)).toNat, by omega⟩
    rw [← hk] at e3 p1 p2
    clear hk
    go_enter Tryz.func23, Tryz.ntmps23
    go_wp2
    go_ret
    exact ⟨k, by omega, by first | rfl | (simp [e3]), rfl⟩

set_option maxRecDepth 100000 in
set_option maxHeartbeats 400000 in
theorem sameT_nil (ao bo : Option Addr) (c d : Nat) (w : World) : Calls Tryz.prog 16 #[.slice ao 0 c, .slice bo 0 d] w fun e w' => e = .returned (.bool true) ∧ w' = w := by
  go_enter Tryz.func16, Tryz.ntmps16
  go_wp2
  go_loop [5] (fun i => i = .int .i64 0) (fun _ => 0)
  case atStart => exact rfl
  case round =>
    subst hrel
    go_wp2
    go_ret
    exact ⟨rfl, rfl⟩

set_option maxRecDepth 100000 in
set_option maxHeartbeats 1000000 in
theorem sameT_some (L : List ByteArray) (g h c d : Nat) (w : World) (hn : L.length ≤ 1000) (hc : L.length ≤ c) (hd : L.length ≤ d)
    (h1 : ∀ (i : Nat) (x : ByteArray), L[i]? = some x → w.cell? ⟨g, i, none⟩ = some (.string x)) (h2 : ∀ (i : Nat) (x : ByteArray), L[i]? = some x → w.cell? ⟨h, i, none⟩ = some (.string x)) :
    Calls Tryz.prog 16 #[.slice (some ⟨g, 0, none⟩) L.length c, .slice (some ⟨h, 0, none⟩) L.length d] w fun e w' => e = .returned (.bool true) ∧ Fr [] w w' := by
  have H1 : Hid _ := h1
  have H2 : Hid _ := h2
  clear h1 h2
  go_enter Tryz.func16, Tryz.ntmps16
  go_wp2
  go_loopw [5] (fun i wr => ∃ k : Nat, k ≤ L.length ∧ i = .int .i64 k ∧ Fr [] w wr ∧ wr.heap = w.heap) (fun i _ => L.length - (intOf i).toNat)
  case atStart => exact ⟨0, by omega, rfl, Fr.refl _ _, rfl⟩
  case round =>
    obtain ⟨k, hk, rfl, f1, hh⟩ := hrel
    by_cases hlt : k < L.length
    · have g1 : (k : Int) < L.length := by omega
      obtain ⟨x, hx⟩ : ∃ x, L[k]? = some x := ⟨_, List.getElem?_eq_getElem hlt⟩
      have c1 : wr.cell? ⟨g, k, none⟩ = some (.string x) := by rw [← H1.out k x hx]; unfold World.cell?; rw [hh]
      have c2 : wr.cell? ⟨h, k, none⟩ = some (.string x) := by rw [← H2.out k x hx]; unfold World.cell?; rw [hh]
      clear hx
      go_wp2
      go_region
      go_wp2
      exact ⟨⟨k + 1, by omega, by go_num, f1.drew, hh⟩, by simp [intOf]; omega⟩
    · have g1 : ¬ ((k : Int) < L.length) := by omega
      go_wp2
      go_ret
      exact ⟨rfl, f1⟩

/-- Two lists of the same texts are the same. -/
theorem sameT_any (L : List ByteArray) (v v' : Value) (w : World) (hn : L.length ≤ 1000) (h1 : StrsAt w v L) (h2 : StrsAt w v' L) : Calls Tryz.prog 16 #[v, v'] w fun e w' => e = .returned (.bool true) ∧ Fr [] w w' := by
  by_cases h0 : L = []
  · subst h0
    obtain ⟨a, c, rfl⟩ : ∃ a c, v = .slice a 0 c := by
      rcases h1 with ⟨_, h⟩ | ⟨g, cap, h, _⟩
      · exact ⟨_, _, h⟩
      · exact ⟨_, _, h⟩
    obtain ⟨b, d, rfl⟩ : ∃ a c, v' = .slice a 0 c := by
      rcases h2 with ⟨_, h⟩ | ⟨g, cap, h, _⟩
      · exact ⟨_, _, h⟩
      · exact ⟨_, _, h⟩
    refine (sameT_nil a b c d w).mono ?_
    rintro e w' ⟨rfl, rfl⟩
    exact ⟨rfl, Fr.refl _ _⟩
  · rcases h1 with ⟨h, _⟩ | ⟨g, c, rfl, hc, _, h1⟩
    · exact absurd h h0
    rcases h2 with ⟨h, _⟩ | ⟨h, d, rfl, hd, _, h2⟩
    · exact absurd h h0
    exact sameT_some L g h c d w hn hc hd h1 h2

/-- A list of which each text is m. -/
def AllAt (W : World) (v : Value) (m : ByteArray) : Prop :=
  v = .slice none 0 0 ∨ ∃ g n cap, v = .slice (some ⟨g, 0, none⟩) n cap ∧ n ≤ cap ∧ n ≤ 2000 ∧ g < W.heap.size ∧ ∀ i, i < n → W.cell? ⟨g, i, none⟩ = some (.string m)

set_option maxRecDepth 100000 in
set_option maxHeartbeats 1000000 in
theorem all_some (g n c : Nat) (m : ByteArray) (w : World) (hc : n ≤ c) (hn : n ≤ 2000) (h : ∀ i, i < n → w.cell? ⟨g, i, none⟩ = some (.string m)) :
    Calls Tryz.prog 20 #[.slice (some ⟨g, 0, none⟩) n c, .string m] w fun e w' => e = .returned (.bool true) ∧ w' = w := by
  have H1 : Hid _ := h
  clear h
  go_enter Tryz.func20, Tryz.ntmps20
  go_wp2
  go_loop [5] (fun i => ∃ k : Nat, k ≤ n ∧ i = .int .i64 k) (fun i => n - (intOf i).toNat)
  case atStart => exact ⟨0, by omega, rfl⟩
  case round =>
    obtain ⟨k, hk, rfl⟩ := hrel
    by_cases hlt : k < n
    · have g1 : (k : Int) < n := by omega
      have c1 := H1.out k hlt
      go_wp2
      go_round
      case rel => exact ⟨k + 1, by omega, by go_num⟩
      case measure => simp [intOf]; omega
    · have g1 : ¬ ((k : Int) < n) := by omega
      go_wp2
      go_ret
      exact ⟨rfl, rfl⟩

set_option maxRecDepth 100000 in
theorem all_nil (m : ByteArray) (w : World) :
    Calls Tryz.prog 20 #[.slice none 0 0, .string m] w fun e w' => e = .returned (.bool true) ∧ w' = w := by
  go_enter Tryz.func20, Tryz.ntmps20
  go_wp2
  go_loop [5] (fun i => i = .int .i64 0) (fun _ => 0)
  case atStart => exact rfl
  case round =>
    subst hrel
    go_wp2
    go_ret
    exact ⟨rfl, rfl⟩

theorem all_any (v : Value) (m : ByteArray) (w : World) (h : AllAt w v m) : Calls Tryz.prog 20 #[v, .string m] w fun e w' => e = .returned (.bool true) ∧ w' = w := by
  rcases h with rfl | ⟨g, n, cap, rfl, hc, hn, _, h⟩
  · exact all_nil m w
  · exact all_some g n cap m w hc hn h

end Go.Proofs.YtakbfoegkjaphaaGreatDoor

namespace Go.Proofs.YtakbfoegkjaphaaGreatDoor
open Go.RowKit

theorem own_base {W : World} {B B' : Nat} {e : TypeId} {k : Nat} {v : Value} {n : Nat} {xs : List Value} (h : W.ownsRow B e k v n xs) (hb : B' ≤ B) : W.ownsRow B' e k v n xs := by
  refine ⟨h.1, ?_⟩
  rcases h.2 with h' | ⟨g, cap, cur, hv, hg, r⟩
  · exact .inl h'
  · exact .inr ⟨g, cap, cur, hv, Nat.le_trans hb hg, r⟩
theorem OwnI.base {w w0 : World} {L : List ByteArray} {v : Value} {W : World} (h : OwnI w0 L v W) (hf : Fr [] w w0) : OwnI w L v W := ⟨own_base h.own hf.size, hf.trans h.fr⟩

set_option maxRecDepth 100000 in
set_option maxHeartbeats 2000000 in
theorem psplit_own (pb : Nat) (q : Piece) (tk : Nat → Nat) (fo : Nat → Nat → Nat) (x : ByteArray) (w : World) (hP : PatAt w pb (whF q) tk fo) (hT : Tab w) (lq : PB 50 q) (ltk : ∀ b, tk b < 1125899906842624) (lfo : ∀ s a, fo s a < 18446744073709551616) (hx : x.size ≤ 100) (hx0 : 0 < x.size) :
    Calls Tryz.prog 68 #[.pointer (some ⟨pb, 0, none⟩), .string x] w fun e w' => ∃ v, e = .returned v ∧ OwnI w (splitL (endF q tk fo x) x 0 0) v w' := by
  obtain ⟨i0, hi, hz0, hz1, hz2⟩ := info_parts info9
  have hen := ends_any pb q tk fo x w hP hT lq ltk lfo hx
  have hle := endF_le q tk fo x
  have hne := ne_empty hx0
  unfold EndsAt at hen
  generalize endF q tk fo x = E at *
  obtain ⟨R, hR⟩ : ∃ R, splitL E x 0 0 = R := ⟨_, rfl⟩
  rw [hR]
  have HR : Hid (_ = R) := hR
  have Hle : Hid _ := hle
  clear hR hle hP hT
  go_enter Tryz.func68, Tryz.ntmps68
  go_wp2_with fail
  refine hen.mono ?_
  rintro e w0 ⟨eb, rfl, ⟨heb, htg, hc⟩, f1⟩
  clear hen
  have hlt := htg.lt
  have J0 := OwnI.start w0
  have Hc : Hid _ := hc
  clear hc htg
  go_wp2
  go_loopw [5, 7, 8] (fun v bg pl wr => ∃ (k b : Nat) (L : List ByteArray), b ≤ k ∧ k ≤ x.size ∧ L.length ≤ k ∧ bg = .int .i64 b ∧ pl = .int .i64 k ∧ Hid (L ++ splitL E x b k = R) ∧ OwnI w0 L v wr) (fun _ _ pl _ => x.size - (intOf pl).toNat)
  case atStart => exact ⟨0, 0, [], by omega, by omega, by simp, rfl, rfl, HR, J0⟩
  case round =>
    clear J0
    obtain ⟨k, b, L, hb, hk, hl, rfl, rfl, hR, J⟩ := hrel
    have hR' := hR.out
    rw [splitL_eq] at hR'
    have hW := J.fr.size
    by_cases hks : k < x.size
    · have g1 : (k : Int) < x.size := by omega
      have g2 : (k : Int) < (x.size : Int) + 1 := by omega
      have c1 : wr.cell? ⟨eb, k, none⟩ = some (.int .i64 (E k)) := (J.fr.cell (p := ⟨eb, k, none⟩) hlt (by simp)).trans (Hc.out k hk)
      obtain ⟨hb1, hb2⟩ := Hle.out k
      rw [if_pos hks] at hR'
      by_cases hE : E k ≤ k
      · rw [if_pos hE] at hR'
        have HR' : Hid _ := hR'
        clear hR'
        go_wp2
        exact ⟨⟨k + 1, b, L, by omega, by omega, by omega, rfl, by go_num, HR', J⟩, by simp [intOf]; omega⟩
      · rw [if_neg hE] at hR'
        have e1 : L ++ (x.extract b k :: splitL E x (E k).toNat (E k).toNat) = (L ++ [x.extract b k]) ++ splitL E x (E k).toNat (E k).toNat := by simp
        rw [e1] at hR'
        have HR' : Hid _ := hR'
        clear hR' e1
        have g3 : (b : Int) ≤ k := by omega
        have hcl := clone_any (x.extract b k) wr (by rw [ByteArray.size_extract]; omega)
        have hE0 : ((E k).toNat : Int) = E k := by omega
        go_wp2_with fail
        refine hcl.mono ?_
        rintro e w2 ⟨rfl, f2⟩
        have J2 := J.kept f2
        have hs2 := f2.size
        have hown := J2.own
        clear hcl
        go_wp2_with (at_builtin; refine wpList_append_own _ rfl _ _ 27 rfl w0.heap.size 9 i0 (.string ⟨#[]⟩) 1 16 Tryz.underlying27 hi hz0 hz1 hz2 rfl (by decide) _ _ _ rfl (hown.alloc _) ⟨w2.heap.size, 0, none⟩ 1 1 [.string (x.extract b k)] rfl rfl ?c1 ?c2 ?c3 ?c4 ?c5 ?_)
        case c1 =>
          intro j u hj
          rcases j with _ | j
          · simp at hj; subst hj; simp [Addr.add]
          · simp at hj
        case c2 => intro u hu; simp at hu; subst hu; rfl
        case c3 => unfold maxLen; omega
        case c4 => omega
        case c5 => simp; omega
        intro v' w3 hown' hgrow _
        have J3 := J2.grown hown' hgrow
        have c3 : w3.cell? ⟨eb, k, none⟩ = some (.int .i64 (E k)) := (J3.fr.cell (p := ⟨eb, k, none⟩) hlt (by simp)).trans (Hc.out k hk)
        go_wp2
        exact ⟨⟨(E k).toNat, (E k).toNat, L ++ [x.extract b k], by omega, by omega, by rw [List.length_append]; simp; omega, by rw [hE0], by rw [hE0], HR', J3⟩, by simp [intOf]; omega⟩
    · have g1 : ¬ ((k : Int) < x.size) := by omega
      rw [if_neg hks] at hR'
      have HR' : Hid _ := hR'
      clear hR'
      have g3 : (b : Int) ≤ x.size := by omega
      have hcl := clone_any (x.extract b x.size) wr (by rw [ByteArray.size_extract]; omega)
      go_wp2_with fail
      refine hcl.mono ?_
      rintro e w2 ⟨rfl, f2⟩
      have J2 := J.kept f2
      have hs2 := f2.size
      have hown := J2.own
      clear hcl
      go_wp2_with (at_builtin; refine wpList_append_own _ rfl _ _ 27 rfl w0.heap.size 9 i0 (.string ⟨#[]⟩) 1 16 Tryz.underlying27 hi hz0 hz1 hz2 rfl (by decide) _ _ _ rfl (hown.alloc _) ⟨w2.heap.size, 0, none⟩ 1 1 [.string (x.extract b x.size)] rfl rfl ?c1 ?c2 ?c3 ?c4 ?c5 ?_)
      case c1 =>
        intro j u hj
        rcases j with _ | j
        · simp at hj; subst hj; simp [Addr.add]
        · simp at hj
      case c2 => intro u hu; simp at hu; subst hu; rfl
      case c3 => unfold maxLen; omega
      case c4 => omega
      case c5 => simp; omega
      intro v' w3 hown' hgrow _
      have J3 := J2.grown hown' hgrow
      go_wp2
      go_ret
      refine ⟨v', rfl, ?_⟩
      rw [← HR'.out]
      exact J3.base f1


theorem psplit_all_own (pb : Nat) (q : Piece) (tk : Nat → Nat) (fo : Nat → Nat → Nat) (x : ByteArray) (w : World) (hP : PatAt w pb (whF q) tk fo) (hT : Tab w) (lq : PB 50 q) (ltk : ∀ b, tk b < 1125899906842624) (lfo : ∀ s a, fo s a < 18446744073709551616) (hx : x.size ≤ 100) :
    Calls Tryz.prog 68 #[.pointer (some ⟨pb, 0, none⟩), .string x] w fun e w' => ∃ v, e = .returned v ∧ OwnI w (splitR (endF q tk fo x) x) v w' := by
  unfold splitR
  by_cases h0 : x.size = 0
  · obtain rfl : x = ⟨#[]⟩ := ByteArray.ext (Array.eq_empty_of_size_eq_zero h0)
    refine (psplit_empty pb w).mono ?_
    rintro e w' ⟨rfl, rfl⟩
    exact ⟨_, rfl, OwnI.start w'⟩
  · rw [if_neg h0]
    exact psplit_own pb q tk fo x w hP hT lq ltk lfo hx (by omega)

set_option maxRecDepth 100000 in
set_option maxHeartbeats 400000 in
theorem split_own (t x : ByteArray) (w : World) (hx : x.size ≤ 100) (ht : t.size ≤ 50) (hT : Tab w) (hok : readOk t = true) :
    Calls Tryz.prog 31 #[.string t, .string x] w fun e w' => ∃ v, e = .returned (.tuple #[v, .int .i64 0]) ∧ OwnI w (splitR (endF (readF t).1 (readF t).2.tk (readF t).2.fo x) x) v w' := by
  have f0 : Fr [] w (w.alloc (.cells #[.string x] 9)) := (Fr.refl [] w).alloc _
  obtain ⟨b1, b2, b3⟩ := read_bounds t ht
  have hf := fun (pb : Nat) (w1 : World) (hP : PatAt w1 pb (whF (readF t).1) (readF t).2.tk (readF t).2.fo) (hT1 : Tab w1) => psplit_all_own pb _ _ _ x w1 hP hT1 b1 b2 b3 hx
  generalize splitR (endF (readF t).1 (readF t).2.tk (readF t).2.fo x) x = R at *
  have Hf : Hid _ := hf
  clear hf b1 b2 b3
  have hr := readFor_ok t [x] w.heap.size _ (texts1 w x 9) (by simp) (by simpa using hx) ht (hT.fr f0 (by simp)) hok
  go_enter Tryz.func31, Tryz.ntmps31
  go_wp2_with fail
  refine hr.mono ?_
  clear hr
  generalize w.alloc (.cells #[.string x] 9) = W at *
  have hT1 := hT.fr f0 (by simp)
  rintro e w1 ⟨pb, rfl, _, hP, f1⟩
  have hf := Hf.out pb w1 hP (hT1.fr f1 (by simp))
  clear hP
  go_wp2_with fail
  refine hf.mono ?_
  rintro e w2 ⟨v, rfl, st⟩
  go_wp2
  go_ret2
  exact ⟨v, rfl, st.base (f0.trans f1)⟩


end Go.Proofs.YtakbfoegkjaphaaGreatDoor

