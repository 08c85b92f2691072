/-
  readFor: a pattern is read that is to be used with texts. Look.
-/
import Derived.Test.YticaoekmlaipnaaDoorWz
set_option linter.unusedSimpArgs false
set_option linter.unusedVariables false
namespace Go.Proofs.YticaoekmlaipnaaDoor
open Go.RowKit

theorem ReadPost.ok {w : World} {q : Piece} {s : St} {e : Ending} {w' : World} (h : ReadPost w true q s e w') : ∃ pb, e = .returned (.tuple #[.pointer (some ⟨pb, 0, none⟩), .int .i64 0, .int .i64 0]) ∧ w.heap.size ≤ pb ∧ PatAt w' pb (whF q) s.tk s.fo ∧ Fr [] w w' := by
  unfold ReadPost at h
  obtain ⟨f, h⟩ := h
  rw [if_pos rfl] at h
  obtain ⟨pb, h1, h2, h3⟩ := h
  exact ⟨pb, h2, h1, h3, f⟩
theorem ReadPost.bad {w : World} {q : Piece} {s : St} {e : Ending} {w' : World} (h : ReadPost w false q s e w') : e = .returned (.tuple #[.pointer none, .int .i64 s.pos, .int .i64 2]) ∧ Fr [] w w' := by
  unfold ReadPost at h
  obtain ⟨f, h⟩ := h
  rw [if_neg (by decide)] at h
  exact ⟨h, f⟩

def TextsAt (w : World) (tb : Nat) (L : List ByteArray) : Prop := ∀ (i : Nat) (x : ByteArray), L[i]? = some x → w.cell? ⟨tb, i, none⟩ = some (.string x)

set_option maxRecDepth 100000 in
set_option maxHeartbeats 400000 in
theorem readFor_long (t : ByteArray) (L : List ByteArray) (tb : Nat) (w : World) (hL : TextsAt w tb L) (hn : L.length ≤ 2) (hlong : ∃ x, x ∈ L ∧ 100 < x.size) (hm : ∀ x, x ∈ L → x.size ≤ maxLen) :
    Calls Tryd.prog 28 #[.string t, .slice (some ⟨tb, 0, none⟩) L.length L.length] w fun e w' => e = .returned (.tuple #[.pointer none, .int .i64 1]) ∧ w' = w := by
  have Hlong : Hid _ := hlong
  have Hm : Hid _ := hm
  have HL : Hid _ := hL
  clear hlong hm hL
  go_enter Tryd.func28, Tryd.ntmps28
  go_wp2
  go_loop [13] (fun i => ∃ k : Nat, k ≤ L.length ∧ i = .int .i64 k ∧ Hid (∀ j x, j < k → L[j]? = some x → x.size ≤ 100)) (fun i => L.length - (intOf i).toNat)
  case atStart => exact ⟨0, by omega, rfl, (fun j x hj => by omega : ∀ (j : Nat) (x : ByteArray), j < 0 → L[j]? = some x → x.size ≤ 100)⟩
  case round =>
    obtain ⟨k, hk, rfl, hs⟩ := hrel
    by_cases hlt : k < L.length
    · have g1 : (k : Int) < L.length := by omega
      obtain ⟨x, hx⟩ : ∃ x, L[k]? = some x := ⟨_, List.getElem?_eq_getElem hlt⟩
      have c1 := HL.out k x hx
      have hxm := Hm.out x (List.mem_of_getElem? hx)
      unfold maxLen at hxm
      have Hx : Hid _ := hx
      clear hx
      by_cases hc : 100 < x.size
      · have g2 : (100 : Int) < x.size := by omega
        go_wp2
        go_ret2
        exact ⟨rfl, rfl⟩
      · have g2 : ¬ ((100 : Int) < x.size) := by omega
        go_wp2
        go_round
        case rel => exact ⟨k + 1, by omega, by go_num, (fun j y hj hy => by
            by_cases e : j = k
            · subst e; rw [Hx.out] at hy; cases hy; omega
            · exact hs.out j y (by omega) hy : ∀ (j : Nat) (y : ByteArray), j < k + 1 → L[j]? = some y → y.size ≤ 100)⟩
        case measure => simp [intOf]; omega
    · exfalso
      obtain ⟨x, hx, h1⟩ := Hlong.out
      obtain ⟨j, hj⟩ := List.getElem?_of_mem hx
      have := hs.out j x (by have := (List.getElem?_eq_some_iff.1 hj).1; omega) hj
      omega

set_option maxRecDepth 100000 in
set_option maxHeartbeats 400000 in
theorem readFor_plong (t : ByteArray) (L : List ByteArray) (tb : Nat) (w : World) (hL : TextsAt w tb L) (hn : L.length ≤ 2) (hs : ∀ x, x ∈ L → x.size ≤ 100) (h : 50 < t.size) (hm : t.size ≤ maxLen) :
    Calls Tryd.prog 28 #[.string t, .slice (some ⟨tb, 0, none⟩) L.length L.length] w fun e w' => e = .returned (.tuple #[.pointer none, .int .i64 1]) ∧ w' = w := by
  have HL : Hid _ := hL
  have Hs : Hid _ := hs
  have hr := read_long t w h hm
  clear hL hs
  go_enter Tryd.func28, Tryd.ntmps28
  go_wp2
  go_loop [13] (fun i => ∃ k : Nat, k ≤ L.length ∧ i = .int .i64 k) (fun i => L.length - (intOf i).toNat)
  case atStart => exact ⟨0, by omega, rfl⟩
  case round =>
    obtain ⟨k, hk, rfl⟩ := hrel
    by_cases hlt : k < L.length
    · have g1 : (k : Int) < L.length := by omega
      obtain ⟨x, hx⟩ : ∃ x, L[k]? = some x := ⟨_, List.getElem?_eq_getElem hlt⟩
      have c1 := HL.out k x hx
      have hxm := Hs.out x (List.mem_of_getElem? hx)
      have g2 : ¬ ((100 : Int) < x.size) := by omega
      clear hx
      go_wp2
      go_round
      case rel => exact ⟨k + 1, by omega, by go_num⟩
      case measure => simp [intOf]; omega
    · have g1 : ¬ ((k : Int) < L.length) := by omega
      go_wp2_with fail
      refine hr.mono ?_
      rintro e w1 ⟨rfl, rfl⟩
      go_wp2
      go_ret2
      exact ⟨rfl, rfl⟩

set_option maxRecDepth 100000 in
set_option maxHeartbeats 400000 in
theorem readFor_ok (t : ByteArray) (L : List ByteArray) (tb : Nat) (w : World) (hL : TextsAt w tb L) (hn : L.length ≤ 2) (hs : ∀ x, x ∈ L → x.size ≤ 100) (ht : t.size ≤ 50) (hT : Tab w) (hok : readOk t = true) :
    Calls Tryd.prog 28 #[.string t, .slice (some ⟨tb, 0, none⟩) L.length L.length] w fun e w' => ∃ pb, e = .returned (.tuple #[.pointer (some ⟨pb, 0, none⟩), .int .i64 0]) ∧ w.heap.size ≤ pb ∧ PatAt w' pb (whF (readF t).1) (readF t).2.tk (readF t).2.fo ∧ Fr [] w w' := by
  have HL : Hid _ := hL
  have Hs : Hid _ := hs
  have hr := read_any t w ht hT
  rw [hok] at hr
  generalize (readF t).1 = q at *
  generalize (readF t).2 = s at *
  clear hL hs hok
  go_enter Tryd.func28, Tryd.ntmps28
  go_wp2
  go_loop [13] (fun i => ∃ k : Nat, k ≤ L.length ∧ i = .int .i64 k) (fun i => L.length - (intOf i).toNat)
  case atStart => exact ⟨0, by omega, rfl⟩
  case round =>
    obtain ⟨k, hk, rfl⟩ := hrel
    by_cases hlt : k < L.length
    · have g1 : (k : Int) < L.length := by omega
      obtain ⟨x, hx⟩ : ∃ x, L[k]? = some x := ⟨_, List.getElem?_eq_getElem hlt⟩
      have c1 := HL.out k x hx
      have hxm := Hs.out x (List.mem_of_getElem? hx)
      have g2 : ¬ ((100 : Int) < x.size) := by omega
      clear hx
      go_wp2
      go_round
      case rel => exact ⟨k + 1, by omega, by go_num⟩
      case measure => simp [intOf]; omega
    · have g1 : ¬ ((k : Int) < L.length) := by omega
      go_wp2_with fail
      refine hr.mono ?_
      intro e w1 hp
      obtain ⟨pb, rfl, h1, h2, h3⟩ := hp.ok
      clear hp
      go_wp2
      go_ret2
      exact ⟨pb, rfl, h1, h2, h3⟩

set_option maxRecDepth 100000 in
set_option maxHeartbeats 400000 in
theorem readFor_bad (t : ByteArray) (L : List ByteArray) (tb : Nat) (w : World) (hL : TextsAt w tb L) (hn : L.length ≤ 2) (hs : ∀ x, x ∈ L → x.size ≤ 100) (ht : t.size ≤ 50) (hT : Tab w) (hok : readOk t = false) :
    Calls Tryd.prog 28 #[.string t, .slice (some ⟨tb, 0, none⟩) L.length L.length] w fun e w' => e = .returned (.tuple #[.pointer none, .int .i64 2]) ∧ Fr [] w w' := by
  have HL : Hid _ := hL
  have Hs : Hid _ := hs
  have hr := read_any t w ht hT
  rw [hok] at hr
  generalize (readF t).1 = q at *
  generalize (readF t).2 = s at *
  clear hL hs hok
  go_enter Tryd.func28, Tryd.ntmps28
  go_wp2
  go_loop [13] (fun i => ∃ k : Nat, k ≤ L.length ∧ i = .int .i64 k) (fun i => L.length - (intOf i).toNat)
  case atStart => exact ⟨0, by omega, rfl⟩
  case round =>
    obtain ⟨k, hk, rfl⟩ := hrel
    by_cases hlt : k < L.length
    · have g1 : (k : Int) < L.length := by omega
      obtain ⟨x, hx⟩ : ∃ x, L[k]? = some x := ⟨_, List.getElem?_eq_getElem hlt⟩
      have c1 := HL.out k x hx
      have hxm := Hs.out x (List.mem_of_getElem? hx)
      have g2 : ¬ ((100 : Int) < x.size) := by omega
      clear hx
      go_wp2
      go_round
      case rel => exact ⟨k + 1, by omega, by go_num⟩
      case measure => simp [intOf]; omega
    · have g1 : ¬ ((k : Int) < L.length) := by omega
      go_wp2_with fail
      refine hr.mono ?_
      intro e w1 hp
      obtain ⟨rfl, h3⟩ := hp.bad
      clear hp
      go_wp2
      go_ret2
      exact ⟨rfl, h3⟩

/-! Look -/
set_option maxHeartbeats 400000 in
theorem look_long (t : ByteArray) (w : World) (h : 50 < t.size) (hm : t.size ≤ maxLen) :
    Calls Tryd.prog 9 #[.string t] w fun e w' => e = .returned (.tuple #[.int .i64 0, .int .i64 1]) ∧ w' = w := by
  have hr := read_long t w h hm
  go_enter Tryd.func9, Tryd.ntmps9
  go_wp2_with fail
  refine hr.mono ?_
  rintro e w1 ⟨rfl, rfl⟩
  go_wp2
  go_ret2
  exact ⟨rfl, rfl⟩
set_option maxHeartbeats 400000 in
theorem look_ok (t : ByteArray) (w : World) (ht : t.size ≤ 50) (hT : Tab w) (hok : readOk t = true) :
    Calls Tryd.prog 9 #[.string t] w fun e w' => e = .returned (.tuple #[.int .i64 0, .int .i64 0]) ∧ Fr [] w w' := by
  have hr := read_any t w ht hT
  rw [hok] at hr
  generalize (readF t).1 = q at *
  generalize (readF t).2 = s at *
  clear hok
  go_enter Tryd.func9, Tryd.ntmps9
  go_wp2_with fail
  refine hr.mono ?_
  intro e w1 hp
  obtain ⟨pb, rfl, h1, h2, h3⟩ := hp.ok
  clear hp
  go_wp2
  go_ret2
  exact ⟨rfl, h3⟩
set_option maxHeartbeats 400000 in
theorem look_bad (t : ByteArray) (w : World) (ht : t.size ≤ 50) (hT : Tab w) (hok : readOk t = false) :
    Calls Tryd.prog 9 #[.string t] w fun e w' => e = .returned (.tuple #[.int .i64 (readF t).2.pos, .int .i64 2]) ∧ Fr [] w w' := by
  have hr := read_any t w ht hT
  rw [hok] at hr
  generalize (readF t).1 = q at *
  generalize (readF t).2 = s at *
  clear hok
  go_enter Tryd.func9, Tryd.ntmps9
  go_wp2_with fail
  refine hr.mono ?_
  intro e w1 hp
  obtain ⟨rfl, h3⟩ := hp.bad
  clear hp
  go_wp2
  go_ret2
  exact ⟨rfl, h3⟩

end Go.Proofs.YticaoekmlaipnaaDoor
