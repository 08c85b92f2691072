/-
  parted, same: the statement's own small functions.
-/
import Derived.Test.YticaoekmlaipnaaDoorXg
set_option linter.unusedSimpArgs false
set_option linter.unusedVariables false
namespace Go.Proofs.YticaoekmlaipnaaDoor
open Go.RowKit

set_option maxRecDepth 100000 in
set_option maxHeartbeats 400000 in
theorem parted_empty (lit : ByteArray) (w : World) : Calls Tryd.prog 14 #[.string lit, .string ⟨#[]⟩] w fun e w' => e = .returned (.slice none 0 0) ∧ w' = w := by
  go_enter Tryd.func14, Tryd.ntmps14
  go_wp2
  go_ret
  exact ⟨rfl, rfl⟩

set_option maxRecDepth 100000 in
set_option maxHeartbeats 2000000 in
theorem parted_some (lit x : ByteArray) (w : World) (hl : lit.size ≤ 100) (hx : x.size ≤ 100) (hx0 : 0 < x.size) :
    Calls Tryd.prog 14 #[.string lit, .string x] w fun e w' => ∃ v, e = .returned v ∧ StrsAt w' v (partL lit x 0 0) ∧ Fr [] w w' := by
  obtain ⟨i0, hi, hz0, hz1, hz2⟩ := info_parts info9
  have hne := ne_empty hx0
  obtain ⟨R, hR⟩ : ∃ R, partL lit x 0 0 = R := ⟨_, rfl⟩
  rw [hR]
  have HR : Hid (_ = R) := hR
  clear hR
  have J0 := OwnI.start w
  go_enter Tryd.func14, Tryd.ntmps14
  go_wp2
  go_loopw [5, 6, 7] (fun v bg pl wr => ∃ (k b : Nat) (L : List ByteArray), b ≤ k ∧ k ≤ x.size ∧ L.length ≤ k ∧ bg = .int .i64 b ∧ pl = .int .i64 k ∧ Hid (L ++ partL lit x b k = R) ∧ OwnI w L v wr) (fun _ _ pl _ => x.size - (intOf pl).toNat)
  case atStart => exact ⟨0, 0, [], by omega, by omega, by simp, rfl, rfl, HR, J0⟩
  case round =>
    clear J0
    obtain ⟨k, b, L, hb, hk, hll, rfl, rfl, hR, J⟩ := hrel
    have hR' := hR.out
    rw [partL_eq] at hR'
    have hW := J.fr.size
    by_cases hks : k < x.size ∧ 0 < lit.size
    · have g1 : (k : Int) < x.size := by omega
      have hne2 := ne_empty hks.2
      have h0 := hks.2
      rw [if_pos hks] at hR'
      have hst := stands_any lit x k hl hx (by omega) wr
      clear hks
      by_cases hm : mt lit x 0 k
      · rw [if_pos hm] at hR'
        rw [show mtB lit x 0 k = true from hm] at hst
        have hm1 := (mt_iff.1 hm).1
        have e1 : L ++ (x.extract b k :: partL lit x (k + lit.size) (k + lit.size)) = (L ++ [x.extract b k]) ++ partL lit x (k + lit.size) (k + lit.size) := by simp
        rw [e1] at hR'
        have HR' : Hid _ := hR'
        clear hR' e1 hm
        have g3 : (b : Int) ≤ k := by omega
        have hown := J.own
        go_wp2_with fail
        refine hst.mono ?_
        rintro e w1 ⟨rfl, rfl⟩
        clear hst
        go_wp2_with (at_builtin; refine wpList_append_own _ rfl _ _ 31 rfl w.heap.size 9 i0 (.string ⟨#[]⟩) 1 16 Tryd.underlying31 hi hz0 hz1 hz2 rfl (by decide) _ _ _ rfl (hown.alloc _) ⟨w1.heap.size, 0, none⟩ 1 1 [.string (x.extract b k)] rfl rfl ?c1 ?c2 ?c3 ?c4 ?c5 ?_)
        case c1 =>
          intro j u hj
          rcases j with _ | j
          · simp at hj; subst hj; simp [Addr.add]
          · simp at hj
        case c2 => intro u hu; simp at hu; subst hu; rfl
        case c3 => unfold maxLen; omega
        case c4 => omega
        case c5 => simp; omega
        intro v' w3 hown' hgrow _
        have J3 := J.grown hown' hgrow
        go_wp2
        exact ⟨⟨k + lit.size, k + lit.size, L ++ [x.extract b k], by omega, by omega, by rw [List.length_append]; simp; omega, by go_num, by go_num, HR', J3⟩, by simp [intOf]; omega⟩
      · rw [if_neg hm] at hR'
        rw [Bool.eq_false_iff.2 hm] at hst
        have HR' : Hid _ := hR'
        clear hR' hm
        go_wp2_with fail
        refine hst.mono ?_
        rintro e w1 ⟨rfl, rfl⟩
        go_wp2
        exact ⟨⟨k + 1, b, L, by omega, by omega, by omega, rfl, by go_num, HR', J⟩, by simp [intOf]; omega⟩
    · rw [if_neg hks] at hR'
      have HR' : Hid _ := hR'
      clear hR'
      have g3 : (b : Int) ≤ x.size := by omega
      have hown := J.own
      have hfin : ∀ v' w3, w3.ownsRow w.heap.size 9 1 v' (L.length + 1) (L.map Value.string ++ [.string (x.extract b x.size)]) → (wr.alloc (.cells #[.string (x.extract b x.size)] 9)).grownBy w3 (Value.ownBlock _) → ∃ v, Ending.returned v' = .returned v ∧ StrsAt w3 v R ∧ Fr [] w w3 := fun v' w3 h1 h2 => by
        have J3 := J.grown h1 h2
        exact ⟨v', rfl, by rw [← HR'.out]; exact J3.strs, J3.fr⟩
      have Hfin : Hid _ := hfin
      clear hfin
      by_cases hkx : k < x.size
      · have hem : lit = ⟨#[]⟩ := ByteArray.ext (Array.eq_empty_of_size_eq_zero (by have : lit.size = lit.data.size := rfl; omega))
        have g1 : (k : Int) < x.size := by omega
        clear hks
        subst hem
        go_wp2_with (at_builtin; refine wpList_append_own _ rfl _ _ 31 rfl w.heap.size 9 i0 (.string ⟨#[]⟩) 1 16 Tryd.underlying31 hi hz0 hz1 hz2 rfl (by decide) _ _ _ rfl (hown.alloc _) ⟨wr.heap.size, 0, none⟩ 1 1 [.string (x.extract b x.size)] rfl rfl ?c1 ?c2 ?c3 ?c4 ?c5 ?_)
        case c1 =>
          intro j u hj
          rcases j with _ | j
          · simp at hj; subst hj; simp [Addr.add]
          · simp at hj
        case c2 => intro u hu; simp at hu; subst hu; rfl
        case c3 => unfold maxLen; omega
        case c4 => omega
        case c5 => simp; omega
        intro v' w3 hown' hgrow _
        go_wp2
        go_ret
        exact Hfin.out v' w3 hown' hgrow
      · have g1 : ¬ ((k : Int) < x.size) := by omega
        clear hks
        go_wp2_with (at_builtin; refine wpList_append_own _ rfl _ _ 31 rfl w.heap.size 9 i0 (.string ⟨#[]⟩) 1 16 Tryd.underlying31 hi hz0 hz1 hz2 rfl (by decide) _ _ _ rfl (hown.alloc _) ⟨wr.heap.size, 0, none⟩ 1 1 [.string (x.extract b x.size)] rfl rfl ?c1 ?c2 ?c3 ?c4 ?c5 ?_)
        case c2 => rfl
        case c3 => unfold maxLen; omega
        case c4 => omega
        case c5 => omega
        intro v' w3 hown' hgrow _
        go_wp2
        go_ret
        exact Hfin.out v' w3 hown' hgrow

/-- What plain search answers. -/
def partR (lit x : ByteArray) : List ByteArray := if x.size = 0 then [] else partL lit x 0 0
theorem parted_any (lit x : ByteArray) (w : World) (hl : lit.size ≤ 100) (hx : x.size ≤ 100) :
    Calls Tryd.prog 14 #[.string lit, .string x] w fun e w' => ∃ v, e = .returned v ∧ StrsAt w' v (partR lit x) ∧ Fr [] w w' := by
  unfold partR
  by_cases h0 : x.size = 0
  · obtain rfl : x = ⟨#[]⟩ := ByteArray.ext (Array.eq_empty_of_size_eq_zero h0)
    refine (parted_empty lit w).mono ?_
    rintro e w' ⟨rfl, rfl⟩
    exact ⟨_, rfl, .inl ⟨rfl, rfl⟩, Fr.refl _ _⟩
  · rw [if_neg h0]
    exact parted_some lit x w hl hx (by omega)

set_option maxRecDepth 100000 in
set_option maxHeartbeats 400000 in
theorem same_nil (ao bo : Option Addr) (c d : Nat) (w : World) : Calls Tryd.prog 15 #[.slice ao 0 c, .slice bo 0 d] w fun e w' => e = .returned (.bool true) ∧ w' = w := by
  go_enter Tryd.func15, Tryd.ntmps15
  go_wp2
  go_loop [5] (fun i => i = .int .i64 0) (fun _ => 0)
  case atStart => exact rfl
  case round =>
    subst hrel
    go_wp2
    go_ret
    exact ⟨rfl, rfl⟩

set_option maxRecDepth 100000 in
set_option maxHeartbeats 1000000 in
theorem same_some (L : List ByteArray) (g h c d : Nat) (w : World) (hn : L.length ≤ 1000) (hc : L.length ≤ c) (hd : L.length ≤ d)
    (h1 : ∀ (i : Nat) (x : ByteArray), L[i]? = some x → w.cell? ⟨g, i, none⟩ = some (.string x)) (h2 : ∀ (i : Nat) (x : ByteArray), L[i]? = some x → w.cell? ⟨h, i, none⟩ = some (.string x)) :
    Calls Tryd.prog 15 #[.slice (some ⟨g, 0, none⟩) L.length c, .slice (some ⟨h, 0, none⟩) L.length d] w fun e w' => e = .returned (.bool true) ∧ Fr [] w w' := by
  have H1 : Hid _ := h1
  have H2 : Hid _ := h2
  clear h1 h2
  go_enter Tryd.func15, Tryd.ntmps15
  go_wp2
  go_loopw [5] (fun i wr => ∃ k : Nat, k ≤ L.length ∧ i = .int .i64 k ∧ Fr [] w wr ∧ wr.heap = w.heap) (fun i _ => L.length - (intOf i).toNat)
  case atStart => exact ⟨0, by omega, rfl, Fr.refl _ _, rfl⟩
  case round =>
    obtain ⟨k, hk, rfl, f1, hh⟩ := hrel
    by_cases hlt : k < L.length
    · have g1 : (k : Int) < L.length := by omega
      obtain ⟨x, hx⟩ : ∃ x, L[k]? = some x := ⟨_, List.getElem?_eq_getElem hlt⟩
      have c1 : wr.cell? ⟨g, k, none⟩ = some (.string x) := by rw [← H1.out k x hx]; unfold World.cell?; rw [hh]
      have c2 : wr.cell? ⟨h, k, none⟩ = some (.string x) := by rw [← H2.out k x hx]; unfold World.cell?; rw [hh]
      clear hx
      go_wp2
      go_region
      go_wp2
      exact ⟨⟨k + 1, by omega, by go_num, f1.drew, hh⟩, by simp [intOf]; omega⟩
    · have g1 : ¬ ((k : Int) < L.length) := by omega
      go_wp2
      go_ret
      exact ⟨rfl, f1⟩

/-- Two lists of the same texts are the same. -/
theorem same_any (L : List ByteArray) (v v' : Value) (w : World) (hn : L.length ≤ 1000) (h1 : StrsAt w v L) (h2 : StrsAt w v' L) : Calls Tryd.prog 15 #[v, v'] w fun e w' => e = .returned (.bool true) ∧ Fr [] w w' := by
  by_cases h0 : L = []
  · subst h0
    obtain ⟨a, c, rfl⟩ : ∃ a c, v = .slice a 0 c := by
      rcases h1 with ⟨_, h⟩ | ⟨g, cap, h, _⟩
      · exact ⟨_, _, h⟩
      · exact ⟨_, _, h⟩
    obtain ⟨b, d, rfl⟩ : ∃ a c, v' = .slice a 0 c := by
      rcases h2 with ⟨_, h⟩ | ⟨g, cap, h, _⟩
      · exact ⟨_, _, h⟩
      · exact ⟨_, _, h⟩
    refine (same_nil a b c d w).mono ?_
    rintro e w' ⟨rfl, rfl⟩
    exact ⟨rfl, Fr.refl _ _⟩
  · rcases h1 with ⟨h, _⟩ | ⟨g, c, rfl, hc, _, h1⟩
    · exact absurd h h0
    rcases h2 with ⟨h, _⟩ | ⟨h, d, rfl, hd, _, h2⟩
    · exact absurd h h0
    exact same_some L g h c d w hn hc hd h1 h2

end Go.Proofs.YticaoekmlaipnaaDoor
