/-
  The program and the document answer the same: Look, Find, Swap, Split. The caller's own step, whichever it is. A step of the patterns: Look, Find, Swap. A step of the patterns: Split; both lists that came out wait.
-/
import Derived.Test.YtakbfoegkjaphaaGreatDoorM30
import Derived.Test.YtakbfoegkjaphaaGreatDoorM36
set_option linter.unusedSimpArgs false
set_option linter.unusedVariables false
namespace Go.Proofs.YtakbfoegkjaphaaGreatDoor
open Go.RowKit

set_option maxRecDepth 100000 in
set_option maxHeartbeats 2000000 in
theorem piecesR_own (t x : ByteArray) (w : World) (ht : t.size ≤ 50) (hx : x.size ≤ 100) (hx0 : 0 < x.size) (hok : readOk t = true) :
    Calls Tryz.prog 69 #[.string t, .string x] w fun e w' => ∃ v, e = .returned v ∧ OwnI w (splitL (Ef t x) x 0 0) v w' := by
  obtain ⟨i0, hi, hz0, hz1, hz2⟩ := info_parts info9
  have hen := endsR_any t x w ht hx hok
  have hle : ∀ k, Ef t x k ≤ x.size ∧ -1 ≤ Ef t x k := fun k => endF_le _ _ _ x k
  have hne := ne_empty hx0
  generalize Ef t x = E at *
  obtain ⟨R, hR⟩ : ∃ R, splitL E x 0 0 = R := ⟨_, rfl⟩
  rw [hR]
  have HR : Hid (_ = R) := hR
  have Hle : Hid _ := hle
  clear hR hle hok
  go_enter Tryz.func69, Tryz.ntmps69
  go_wp2_with fail
  refine hen.mono ?_
  rintro e w0 ⟨v, rfl, hI, f1⟩
  obtain ⟨eb, cap, rfl, hlt, hc⟩ := hI.out
  have J0 := OwnI.start w0
  have Hc : Hid _ := hc
  clear hc hen hI
  go_wp2
  go_loopw [6, 7, 8] (fun v bg pl wr => ∃ (k b : Nat) (L : List ByteArray), b ≤ k ∧ k ≤ x.size ∧ L.length ≤ k ∧ bg = .int .i64 b ∧ pl = .int .i64 k ∧ Hid (L ++ splitL E x b k = R) ∧ OwnI w0 L v wr) (fun _ _ pl _ => x.size - (intOf pl).toNat)
  case atStart => exact ⟨0, 0, [], by omega, by omega, by simp, rfl, rfl, HR, J0⟩
  case round =>
    clear J0
    obtain ⟨k, b, L, hb, hk, hl, rfl, rfl, hR, J⟩ := hrel
    have hR' := hR.out
    rw [splitL_eq] at hR'
    have hW := J.fr.size
    by_cases hks : k < x.size
    · have g1 : (k : Int) < x.size := by omega
      have g2 : (k : Int) < (x.size : Int) + 1 := by omega
      have c1 : wr.cell? ⟨eb, k, none⟩ = some (.int .i64 (E k)) := (J.fr.cell (p := ⟨eb, k, none⟩) hlt (by simp)).trans (Hc.out k (by omega))
      obtain ⟨hb1, hb2⟩ := Hle.out k
      rw [if_pos hks] at hR'
      by_cases hE : E k ≤ k
      · rw [if_pos hE] at hR'
        have HR' : Hid _ := hR'
        have gE : ¬ ((k : Int) < E k) := by omega
        clear hR'
        go_wp2
        exact ⟨⟨k + 1, b, L, by omega, by omega, by omega, rfl, by go_num, HR', J⟩, by simp [intOf]; omega⟩
      · rw [if_neg hE] at hR'
        have e1 : L ++ (x.extract b k :: splitL E x (E k).toNat (E k).toNat) = (L ++ [x.extract b k]) ++ splitL E x (E k).toNat (E k).toNat := by simp
        rw [e1] at hR'
        have HR' : Hid _ := hR'
        have gE : (k : Int) < E k := by omega
        clear hR' e1
        have g3 : (b : Int) ≤ k := by omega
        have hE0 : ((E k).toNat : Int) = E k := by omega
        have hown := J.own
        go_wp2_with (at_builtin; refine wpList_append_own _ rfl _ _ 27 rfl w0.heap.size 9 i0 (.string ⟨#[]⟩) 1 16 Tryz.underlying27 hi hz0 hz1 hz2 rfl (by decide) _ _ _ rfl (hown.alloc _) ⟨wr.heap.size, 0, none⟩ 1 1 [.string (x.extract b k)] rfl rfl ?c1 ?c2 ?c3 ?c4 ?c5 ?_)
        case c2 => rfl
        case c3 => unfold maxLen; omega
        case c4 => omega
        case c5 => omega
        intro v' w3 hown' hgrow _
        have J3 := J.grown hown' hgrow
        have c3 : w3.cell? ⟨eb, k, none⟩ = some (.int .i64 (E k)) := (J3.fr.cell (p := ⟨eb, k, none⟩) hlt (by simp)).trans (Hc.out k (by omega))
        go_wp2
        exact ⟨⟨(E k).toNat, (E k).toNat, L ++ [x.extract b k], by omega, by omega, by rw [List.length_append]; simp; omega, by rw [hE0], by rw [hE0], HR', J3⟩, by simp [intOf]; omega⟩
    · have g1 : ¬ ((k : Int) < x.size) := by omega
      rw [if_neg hks] at hR'
      have HR' : Hid _ := hR'
      clear hR'
      have g3 : (b : Int) ≤ x.size := by omega
      have hown := J.own
      go_wp2_with (at_builtin; refine wpList_append_own _ rfl _ _ 27 rfl w0.heap.size 9 i0 (.string ⟨#[]⟩) 1 16 Tryz.underlying27 hi hz0 hz1 hz2 rfl (by decide) _ _ _ rfl (hown.alloc _) ⟨wr.heap.size, 0, none⟩ 1 1 [.string (x.extract b x.size)] rfl rfl ?d1 ?d2 ?d3 ?d4 ?d5 ?_)
      case d2 => rfl
      case d3 => unfold maxLen; omega
      case d4 => omega
      case d5 => omega
      intro v' w3 hown' hgrow _
      have J3 := J.grown hown' hgrow
      go_wp2
      go_ret
      refine ⟨v', rfl, ?_⟩
      rw [← HR'.out]
      exact J3.base f1

theorem piecesR_all_own (t x : ByteArray) (w : World) (ht : t.size ≤ 50) (hx : x.size ≤ 100) (hok : readOk t = true) :
    Calls Tryz.prog 69 #[.string t, .string x] w fun e w' => ∃ v, e = .returned v ∧ OwnI w (splitR (Ef t x) x) v w' := by
  by_cases h0 : x.size = 0
  · unfold splitR
    rw [if_pos h0, empty_of_size h0]
    exact (piecesR_empty t w).mono fun e w' ⟨h1, h2⟩ => ⟨_, h1, by rw [h2]; exact OwnI.start w⟩
  · unfold splitR
    rw [if_neg h0]
    exact piecesR_own t x w ht hx (by omega) hok


set_option maxRecDepth 100000 in
set_option maxHeartbeats 2000000 in
theorem splitR_own (t x : ByteArray) (w : World) (ht : t.size ≤ 50) (hx : x.size ≤ 100) (hok : readOk t = true) :
    Calls Tryz.prog 32 #[.string t, .string x] w fun e w' => ∃ v, e = .returned (.tuple #[v, .int .i64 0]) ∧ OwnI w (splitR (Ef t x) x) v w' := by
  have hl := lookR_ok t w ht hok
  have hf := fun W => piecesR_all_own t x W ht hx hok
  generalize splitR (Ef t x) x = R at *
  have Hf : Hid _ := hf
  have g1 : ¬ ((50 : Int) < t.size) := by omega
  have g2 : ¬ ((100 : Int) < x.size) := by omega
  clear hok hf
  go_enter Tryz.func32, Tryz.ntmps32
  go_wp2_with fail
  refine hl.mono ?_
  rintro e w1 ⟨rfl, f1⟩
  clear hl
  go_wp2_with fail
  refine (Hf.out _).mono ?_
  rintro e w2 ⟨v, rfl, hs⟩
  go_wp2
  go_ret2
  exact ⟨v, rfl, hs.base f1⟩


theorem splitL_len_le (E : Nat → Int) (x : ByteArray) : ∀ n b k, x.size - k ≤ n → (splitL E x b k).length ≤ n + 1 := by
  intro n
  induction n with
  | zero =>
    intro b k h
    rw [splitL_eq, if_neg (by omega)]
    simp
  | succ n ih =>
    intro b k h
    rw [splitL_eq]
    by_cases hk : k < x.size
    · rw [if_pos hk]
      by_cases hE : E k ≤ k
      · rw [if_pos hE]
        have := ih b (k + 1) (by omega)
        omega
      · rw [if_neg hE]
        have := ih (E k).toNat (E k).toNat (by omega)
        simp
        omega
    · rw [if_neg hk]
      simp
theorem splitR_len_le (E : Nat → Int) (x : ByteArray) (hx : x.size ≤ 100) : (splitR E x).length ≤ 1000 := by
  unfold splitR
  split
  · simp
  · have := splitL_len_le E x x.size 0 0 (by omega)
    omega

theorem same_fr {P : Program} {f : Nat} {a : Array Value} {w : World} {r : Ending} (h : Calls P f a w fun e w' => e = r ∧ w' = w) : Calls P f a w fun e w' => e = r ∧ Fr [] w w' :=
  h.mono fun e w' ⟨h1, h2⟩ => ⟨h1, by rw [h2]; exact Fr.refl [] w⟩

theorem look_pair (t : ByteArray) (ht : t.size ≤ 2000000) : ∃ p e : Int,
    (∀ W, Tab W → Calls Tryz.prog 24 #[.string t] W fun r W' => r = .returned (.tuple #[.int .i64 p, .int .i64 e]) ∧ Fr [] W W') ∧
    (∀ W, Calls Tryz.prog 25 #[.string t] W fun r W' => r = .returned (.tuple #[.int .i64 p, .int .i64 e]) ∧ Fr [] W W') := by
  by_cases h : 50 < t.size
  · exact ⟨0, 1, fun W _ => same_fr (look_long t W h (by unfold maxLen; omega)), fun W => same_fr (lookR_long t W h (by omega))⟩
  · cases hok : readOk t with
    | true => exact ⟨0, 0, fun W hT => look_ok t W (by omega) hT hok, fun W => lookR_ok t W (by omega) hok⟩
    | false => exact ⟨_, 2, fun W hT => look_bad t W (by omega) hT hok, fun W => lookR_bad t W (by omega) hok⟩

theorem find_pair (t x : ByteArray) (fr : Int) (ht : t.size ≤ 2000000) (hx : x.size ≤ 2000000) : ∃ p n e : Int,
    (∀ W, Tab W → Calls Tryz.prog 27 #[.string t, .string x, .int .i64 fr] W fun r W' => r = .returned (.tuple #[.int .i64 p, .int .i64 n, .int .i64 e]) ∧ Fr [] W W') ∧
    (∀ W, Calls Tryz.prog 28 #[.string t, .string x, .int .i64 fr] W fun r W' => r = .returned (.tuple #[.int .i64 p, .int .i64 n, .int .i64 e]) ∧ Fr [] W W') := by
  by_cases h1 : 100 < x.size
  · exact ⟨0, 0, 1, fun W _ => find_long t x fr W h1 (by unfold maxLen; omega), fun W => same_fr (findR_long t x fr W (.inr h1) (by omega) (by omega))⟩
  · by_cases h2 : 50 < t.size
    · exact ⟨0, 0, 1, fun W _ => find_plong t x fr W (by omega) h2 (by unfold maxLen; omega), fun W => same_fr (findR_long t x fr W (.inl h2) (by omega) (by omega))⟩
    · cases hok : readOk t with
      | false => exact ⟨0, 0, 2, fun W hT => find_bad t x fr W (by omega) (by omega) hT hok, fun W => findR_bad t x fr W (by omega) (by omega) hok⟩
      | true =>
        by_cases hf : fr < 0 ∨ x.size < fr
        · exact ⟨0, 0, 3, fun W hT => find_arg t x fr W (by omega) (by omega) hT hok hf, fun W => findR_arg t x fr W (by omega) (by omega) hok hf⟩
        · obtain ⟨k, rfl⟩ : ∃ k : Nat, fr = k := ⟨fr.toNat, by omega⟩
          exact ⟨_, _, 0, fun W hT => find_ok t x k W (by omega) (by omega) hT hok (by omega), fun W => findR_ok t x k W (by omega) (by omega) hok (by omega)⟩

theorem swap_pair (t wi x : ByteArray) (ht : t.size ≤ 2000000) (hw : wi.size ≤ 2000000) (hx : x.size ≤ 2000000) : ∃ (s : ByteArray) (e : Int),
    (∀ W, Tab W → Calls Tryz.prog 29 #[.string t, .string wi, .string x] W fun r W' => r = .returned (.tuple #[.string s, .int .i64 e]) ∧ Fr [] W W') ∧
    (∀ W, Calls Tryz.prog 30 #[.string t, .string wi, .string x] W fun r W' => r = .returned (.tuple #[.string s, .int .i64 e]) ∧ Fr [] W W') := by
  by_cases h1 : 100 < wi.size ∨ 100 < x.size
  · exact ⟨⟨#[]⟩, 1, fun W _ => swap_long t wi x W h1 (by unfold maxLen; omega) (by unfold maxLen; omega), fun W => same_fr (swapR_long t wi x W (.inr h1) (by omega) (by omega) (by omega))⟩
  · by_cases h2 : 50 < t.size
    · exact ⟨⟨#[]⟩, 1, fun W _ => swap_plong t wi x W (by omega) (by omega) h2 (by unfold maxLen; omega), fun W => same_fr (swapR_long t wi x W (.inl h2) (by omega) (by omega) (by omega))⟩
    · cases hok : readOk t with
      | false => exact ⟨⟨#[]⟩, 2, fun W hT => swap_bad t wi x W (by omega) (by omega) (by omega) hT hok, fun W => swapR_bad t wi x W (by omega) (by omega) (by omega) hok⟩
      | true => exact ⟨_, 0, fun W hT => swap_ok t wi x W (by omega) (by omega) (by omega) hT hok, fun W => swapR_ok t wi x W (by omega) (by omega) (by omega) hok⟩

theorem split_pair (t x : ByteArray) (ht : t.size ≤ 2000000) (hx : x.size ≤ 2000000) :
    (∃ e : Int, (e = 1 ∨ e = 2) ∧ (∀ W, Tab W → Calls Tryz.prog 31 #[.string t, .string x] W fun r W' => r = .returned (.tuple #[.slice none 0 0, .int .i64 e]) ∧ Fr [] W W') ∧
      (∀ W, Calls Tryz.prog 32 #[.string t, .string x] W fun r W' => r = .returned (.tuple #[.slice none 0 0, .int .i64 e]) ∧ Fr [] W W')) ∨
    (∃ L : List ByteArray, L.length ≤ 1000 ∧ (∀ W, Tab W → Calls Tryz.prog 31 #[.string t, .string x] W fun r W' => ∃ v, r = .returned (.tuple #[v, .int .i64 0]) ∧ OwnI W L v W') ∧
      (∀ W, Calls Tryz.prog 32 #[.string t, .string x] W fun r W' => ∃ v, r = .returned (.tuple #[v, .int .i64 0]) ∧ OwnI W L v W')) := by
  by_cases h1 : 100 < x.size
  · exact .inl ⟨1, .inl rfl, fun W _ => split_long t x W h1 (by unfold maxLen; omega), fun W => same_fr (splitR_long t x W (.inr h1) (by omega) (by omega))⟩
  · by_cases h2 : 50 < t.size
    · exact .inl ⟨1, .inl rfl, fun W _ => split_plong t x W (by omega) h2 (by unfold maxLen; omega), fun W => same_fr (splitR_long t x W (.inl h2) (by omega) (by omega))⟩
    · cases hok : readOk t with
      | false => exact .inl ⟨2, .inr rfl, fun W hT => split_bad t x W (by omega) (by omega) hT hok, fun W => splitR_bad t x W (by omega) (by omega) hok⟩
      | true => exact .inr ⟨_, splitR_len_le _ x (by omega), fun W hT => split_own t x W (by omega) (by omega) hT hok, fun W => splitR_own t x W (by omega) (by omega) hok⟩

end Go.Proofs.YtakbfoegkjaphaaGreatDoor

namespace Go.Proofs.YtakbfoegkjaphaaGreatDoor
open Go.RowKit

theorem owner_up {w0 W : World} {b T : Nat} {bk : List Book} {wl el : List Value} {x : Array Value}
    (h : Calls Tryz.prog 10 x W fun e W' => e = .returned (.tuple #[]) ∧ ∃ tag' c', ScrI w0 W' b tag' c' T bk wl el ∧ Waits w0.heap.size W' tag' wl el 0) :
    Calls Tryz.prog 10 x W fun e W' => e = .returned (.tuple #[]) ∧ ∃ tag' c', ScrI w0 W' b tag' c' (T + 1) bk wl el ∧ Waits w0.heap.size W' tag' wl el 0 :=
  h.mono fun e W' ⟨h1, tag', c', h2, h3⟩ => ⟨h1, tag', c', h2.more (Nat.le_succ _), h3⟩

theorem owner_any (w0 W : World) (b : Nat) (tag : Nat → Nat) (c : Nat → Value) (T : Nat) (bk : List Book) (wl el : List Value) (k a b' : Int) (s t u : ByteArray) (I : ScrI w0 W b tag c T bk wl el) (Wt : Waits w0.heap.size W tag wl el 0) (hT : T ≤ 1000000000) (ok : OpOk ⟨k, a, b', s, t, u⟩) (hk : k < 8) :
    Calls Tryz.prog 10 #[.pointer (some ⟨b, 0, none⟩), .agg #[.int .i64 k, .int .i64 a, .int .i64 b', .string s, .string t, .string u]] W fun e W' => e = .returned (.tuple #[]) ∧ ∃ tag' c', ScrI w0 W' b tag' c' (T + 1) bk wl el ∧ Waits w0.heap.size W' tag' wl el 0 := by
  have hk' : k < 1 ∨ k = 1 ∨ k = 2 ∨ k = 3 ∨ k = 4 ∨ k = 5 ∨ k = 6 ∨ k = 7 := by omega
  rcases hk' with h | rfl | rfl | rfl | rfl | rfl | rfl | rfl
  · exact owner_up (owner_else w0 W b tag c T bk wl el k a b' s t u I Wt h)
  · exact owner_up (owner_bytes w0 W b tag c T bk wl el a b' s t u I Wt ok.s)
  · exact owner_up (owner_take w0 W b tag c T bk wl el a b' s t u I Wt)
  · obtain ⟨bs, e1, hs⟩ := I.n1
    by_cases h0 : bs.size = 0
    · exact owner_up (owner_mar0 w0 W b tag c T bk wl el a b' s t u bs I Wt e1 h0)
    · exact owner_up (owner_mar1 w0 W b tag c T bk wl el a b' s t u bs I Wt e1 (by omega) hs ok.a0 ok.a1 ok.b0 ok.b1)
  · exact owner_up (owner_made w0 W b tag c T bk wl el a b' s t u I Wt)
  · exact owner_record w0 W b tag c T bk wl el a b' s t u I Wt hT
  · exact owner_draw w0 W b tag c T bk wl el a b' s t u I Wt hT
  · exact owner_up (owner_none w0 W b tag c T bk wl el a b' s t u I Wt)

/-- One list more that waits. -/
theorem Waits.snoc {B : Nat} {W : World} {tag : Nat → Nat} {wl el : List Value} {v u : Value} {L : List ByteArray} (h : Waits B W tag wl el 0) (hw : WaitOk B W tag (9 + wl.length) v u L) : Waits B W tag (wl ++ [v]) (el ++ [u]) 0 := by
  refine ⟨by simp [h.len], fun i x y hi h1 h2 => ?_⟩
  by_cases hl : i < wl.length
  · rw [List.getElem?_append_left hl] at h1
    rw [List.getElem?_append_left (by rw [← h.len]; exact hl)] at h2
    exact h.at_ i x y hi h1 h2
  · have hi' : i = wl.length := by
      have := (List.getElem?_eq_some_iff.1 h1).1
      simp at this
      omega
    subst hi'
    simp at h1
    rw [h.len] at h2
    simp at h2
    subst h1 h2
    exact ⟨L, hw⟩

end Go.Proofs.YtakbfoegkjaphaaGreatDoor

namespace Go.Proofs.YtakbfoegkjaphaaGreatDoor
open Go.RowKit

theorem beq_self_int (p : Int) : (p == p) = true := by simp


set_option maxRecDepth 100000 in
set_option maxHeartbeats 2000000 in
theorem patterns_look (W : World) (b : Nat) (a b' : Int) (s t u : ByteArray) (hT : Tab W) (ok : OpOk ⟨8, a, b', s, t, u⟩) :
    Calls Tryz.prog 11 #[.pointer (some ⟨b, 0, none⟩), .agg #[.int .i64 8, .int .i64 a, .int .i64 b', .string s, .string t, .string u]] W fun e W' => e = .returned (.bool true) ∧ Fr [] W W' := by
  obtain ⟨p, e0, h1, h2⟩ := look_pair s ok.s
  have y0 := beq_self_int p
  have y1 := beq_self_int e0
  have H1 : Hid _ := h1
  have H2 : Hid _ := h2
  have fa : Fr [] W (W.alloc (Obj.cells #[.int .i64 8, .int .i64 a, .int .i64 b', .string s, .string t, .string u] 38)) := (Fr.refl [] W).alloc _
  have hTa := hT.fr fa (by simp)
  have hla : W.heap.size < (W.alloc (Obj.cells #[.int .i64 8, .int .i64 a, .int .i64 b', .string s, .string t, .string u] 38)).heap.size := by simp
  have c3 : (W.alloc (Obj.cells #[.int .i64 8, .int .i64 a, .int .i64 b', .string s, .string t, .string u] 38)).cell? ⟨W.heap.size, 3, none⟩ = some (.string s) := by simp
  clear h1 h2 ok
  go_enter Tryz.func11, Tryz.ntmps11
  go_wp2_with fail
  generalize W.alloc (Obj.cells #[.int .i64 8, .int .i64 a, .int .i64 b', .string s, .string t, .string u] 38) = Wa at *
  refine (H1.out Wa hTa).mono ?_
  rintro e W1 ⟨rfl, f1⟩
  have d3 : W1.cell? ⟨W.heap.size, 3, none⟩ = some (.string s) := (f1.cell (p := ⟨W.heap.size, 3, none⟩) hla (by simp)).trans c3
  clear H1 hTa c3
  go_wp2_with fail
  refine (H2.out W1).mono ?_
  rintro e W2 ⟨rfl, f2⟩
  have hn := num_any e0 W2
  clear H2
  go_wp2_with fail
  refine hn.mono ?_
  rintro e W3 ⟨rfl, rfl⟩
  go_wp2
  go_ret
  exact ⟨rfl, fa.trans (f1.trans f2)⟩

set_option maxRecDepth 100000 in
set_option maxHeartbeats 2000000 in
theorem patterns_find (W : World) (b : Nat) (a b' : Int) (s t u : ByteArray) (hT : Tab W) (ok : OpOk ⟨9, a, b', s, t, u⟩) :
    Calls Tryz.prog 11 #[.pointer (some ⟨b, 0, none⟩), .agg #[.int .i64 9, .int .i64 a, .int .i64 b', .string s, .string t, .string u]] W fun e W' => e = .returned (.bool true) ∧ Fr [] W W' := by
  obtain ⟨p, n, e0, h1, h2⟩ := find_pair s t a ok.s ok.t
  have y0 := beq_self_int p
  have y1 := beq_self_int n
  have y2 := beq_self_int e0
  have H1 : Hid _ := h1
  have H2 : Hid _ := h2
  have fa : Fr [] W (W.alloc (Obj.cells #[.int .i64 9, .int .i64 a, .int .i64 b', .string s, .string t, .string u] 38)) := (Fr.refl [] W).alloc _
  have hTa := hT.fr fa (by simp)
  have hla : W.heap.size < (W.alloc (Obj.cells #[.int .i64 9, .int .i64 a, .int .i64 b', .string s, .string t, .string u] 38)).heap.size := by simp
  have c3 : (W.alloc (Obj.cells #[.int .i64 9, .int .i64 a, .int .i64 b', .string s, .string t, .string u] 38)).cell? ⟨W.heap.size, 3, none⟩ = some (.string s) := by simp
  have c4 : (W.alloc (Obj.cells #[.int .i64 9, .int .i64 a, .int .i64 b', .string s, .string t, .string u] 38)).cell? ⟨W.heap.size, 4, none⟩ = some (.string t) := by simp
  have c1 : (W.alloc (Obj.cells #[.int .i64 9, .int .i64 a, .int .i64 b', .string s, .string t, .string u] 38)).cell? ⟨W.heap.size, 1, none⟩ = some (.int .i64 a) := by simp
  clear h1 h2 ok
  go_enter Tryz.func11, Tryz.ntmps11
  go_wp2_with fail
  generalize W.alloc (Obj.cells #[.int .i64 9, .int .i64 a, .int .i64 b', .string s, .string t, .string u] 38) = Wa at *
  refine (H1.out Wa hTa).mono ?_
  rintro e W1 ⟨rfl, f1⟩
  have d3 : W1.cell? ⟨W.heap.size, 3, none⟩ = some (.string s) := (f1.cell (p := ⟨W.heap.size, 3, none⟩) hla (by simp)).trans c3
  have d4 : W1.cell? ⟨W.heap.size, 4, none⟩ = some (.string t) := (f1.cell (p := ⟨W.heap.size, 4, none⟩) hla (by simp)).trans c4
  have d1 : W1.cell? ⟨W.heap.size, 1, none⟩ = some (.int .i64 a) := (f1.cell (p := ⟨W.heap.size, 1, none⟩) hla (by simp)).trans c1
  clear H1 hTa c3 c4 c1
  go_wp2_with fail
  refine (H2.out W1).mono ?_
  rintro e W2 ⟨rfl, f2⟩
  have hn := num_any e0 W2
  clear H2
  go_wp2_with fail
  refine hn.mono ?_
  rintro e W3 ⟨rfl, rfl⟩
  go_wp2
  go_ret
  exact ⟨rfl, fa.trans (f1.trans f2)⟩

set_option maxRecDepth 100000 in
set_option maxHeartbeats 2000000 in
theorem patterns_swap (W : World) (b : Nat) (a b' : Int) (s t u : ByteArray) (hT : Tab W) (ok : OpOk ⟨10, a, b', s, t, u⟩) :
    Calls Tryz.prog 11 #[.pointer (some ⟨b, 0, none⟩), .agg #[.int .i64 10, .int .i64 a, .int .i64 b', .string s, .string t, .string u]] W fun e W' => e = .returned (.bool true) ∧ Fr [] W W' := by
  obtain ⟨r, e0, h1, h2⟩ := swap_pair s u t ok.s ok.u ok.t
  have y0 := beq_self_int e0
  have H1 : Hid _ := h1
  have H2 : Hid _ := h2
  have fa : Fr [] W (W.alloc (Obj.cells #[.int .i64 10, .int .i64 a, .int .i64 b', .string s, .string t, .string u] 38)) := (Fr.refl [] W).alloc _
  have hTa := hT.fr fa (by simp)
  have hla : W.heap.size < (W.alloc (Obj.cells #[.int .i64 10, .int .i64 a, .int .i64 b', .string s, .string t, .string u] 38)).heap.size := by simp
  have c3 : (W.alloc (Obj.cells #[.int .i64 10, .int .i64 a, .int .i64 b', .string s, .string t, .string u] 38)).cell? ⟨W.heap.size, 3, none⟩ = some (.string s) := by simp
  have c4 : (W.alloc (Obj.cells #[.int .i64 10, .int .i64 a, .int .i64 b', .string s, .string t, .string u] 38)).cell? ⟨W.heap.size, 4, none⟩ = some (.string t) := by simp
  have c5 : (W.alloc (Obj.cells #[.int .i64 10, .int .i64 a, .int .i64 b', .string s, .string t, .string u] 38)).cell? ⟨W.heap.size, 5, none⟩ = some (.string u) := by simp
  clear h1 h2 ok
  go_enter Tryz.func11, Tryz.ntmps11
  go_wp2_with fail
  generalize W.alloc (Obj.cells #[.int .i64 10, .int .i64 a, .int .i64 b', .string s, .string t, .string u] 38) = Wa at *
  refine (H1.out Wa hTa).mono ?_
  rintro e W1 ⟨rfl, f1⟩
  have d3 : W1.cell? ⟨W.heap.size, 3, none⟩ = some (.string s) := (f1.cell (p := ⟨W.heap.size, 3, none⟩) hla (by simp)).trans c3
  have d4 : W1.cell? ⟨W.heap.size, 4, none⟩ = some (.string t) := (f1.cell (p := ⟨W.heap.size, 4, none⟩) hla (by simp)).trans c4
  have d5 : W1.cell? ⟨W.heap.size, 5, none⟩ = some (.string u) := (f1.cell (p := ⟨W.heap.size, 5, none⟩) hla (by simp)).trans c5
  clear H1 hTa c3 c4 c5
  go_wp2_with fail
  refine (H2.out W1).mono ?_
  rintro e W2 ⟨rfl, f2⟩
  have hn := num_any e0 W2
  clear H2
  go_wp2_with fail
  refine hn.mono ?_
  rintro e W3 ⟨rfl, rfl⟩
  go_wp2
  go_ret
  exact ⟨rfl, fa.trans (f1.trans f2)⟩

end Go.Proofs.YtakbfoegkjaphaaGreatDoor

namespace Go.Proofs.YtakbfoegkjaphaaGreatDoor
open Go.RowKit

/-- A row that was made behind A bears the mark of all blocks that were made there. -/
theorem row_new {B : Nat} {A A' C : World} {L : List ByteArray} {v : Value} {tag : Nat → Nat} {t : Nat} (h : OwnI A L v A') (hf : Fr [] A' C) (hB : B ≤ A.heap.size) (ht : ∀ k, A.heap.size ≤ k → k < A'.heap.size → tag k = t) :
    RowT B C tag t 9 1 v L.length (L.map Value.string) :=
  ⟨own_block (own_base h.own hB) (fun g hg => hf.block g (h.own.lt g hg).2 (by simp)), fun g hg => ht g (h.own.lt g hg).1 (h.own.lt g hg).2⟩

/-- What keep leaves: the list waits. -/
theorem kept_waits {B : Nat} {W W' : World} {tag tag' : Nat → Nat} {wl el : List Value} {v u' : Value} {L : List ByteArray} (Wt : Waits B W tag wl el 0) (hv : RowT B W tag (9 + wl.length) 9 1 v L.length (L.map Value.string)) (hL : L.length ≤ 1000)
    (hu : StrsAt W' u' L) (tu : Tg tag' u' 8) (hc : Chg tag [0, 4, 5] W W') (hr : ∀ k, k < W.heap.size → tag' k = tag k) : Waits B W' tag' (wl ++ [v]) (el ++ [u']) 0 := by
  have hc' : Chg tag' [0, 4, 5] W W' := ⟨hc.os, hc.tape, hc.output, hc.size, fun k hk hn => hc.block k hk (by rw [← hr k hk]; exact hn)⟩
  have w1 : Waits B W' tag' wl el 0 := (Wt.retag (tag' := tag') (fun k hk _ => hr k hk)).chg hc' (by intro x hx; simp at hx; omega)
  have r1 : RowT B W' tag' (9 + wl.length) 9 1 v L.length (L.map Value.string) := (hv.retag (tag' := tag') (fun k hk e => by rw [hr k hk]; exact e)).chg hc' (by simp; omega)
  exact w1.snoc ⟨r1, hu, tu, hL⟩

set_option maxRecDepth 100000 in
set_option maxHeartbeats 4000000 in
theorem patterns_split0 (w0 W : World) (b : Nat) (tag : Nat → Nat) (c : Nat → Value) (T : Nat) (bk : List Book) (wl el : List Value) (a b' : Int) (s t u : ByteArray) (L : List ByteArray) (hL : L.length ≤ 1000) (h1 : ∀ W, Tab W → Calls Tryz.prog 31 #[.string s, .string t] W fun r W' => ∃ v, r = .returned (.tuple #[v, .int .i64 0]) ∧ OwnI W L v W') (h2 : ∀ W, Calls Tryz.prog 32 #[.string s, .string t] W fun r W' => ∃ v, r = .returned (.tuple #[v, .int .i64 0]) ∧ OwnI W L v W') (I : ScrI w0 W b tag c T bk wl el) (Wt : Waits w0.heap.size W tag wl el 0) (hT : Tab w0) (hl : wl.length ≤ 900000000) :
    Calls Tryz.prog 11 #[.pointer (some ⟨b, 0, none⟩), .agg #[.int .i64 11, .int .i64 a, .int .i64 b', .string s, .string t, .string u]] W fun e W' => e = .returned (.bool true) ∧ ∃ tag' c' wl' el', ScrI w0 W' b tag' c' T bk wl' el' ∧ Waits w0.heap.size W' tag' wl' el' 0 ∧ wl'.length = wl.length + 2 := by
  have H1 : Hid _ := h1
  have H2 : Hid _ := h2
  have fa : Fr [] W (W.alloc (Obj.cells #[.int .i64 11, .int .i64 a, .int .i64 b', .string s, .string t, .string u] 38)) := (Fr.refl [] W).alloc _
  have hTa := hT.fr (I.core.fr.trans fa) (by simp)
  have hla : W.heap.size < (W.alloc (Obj.cells #[.int .i64 11, .int .i64 a, .int .i64 b', .string s, .string t, .string u] 38)).heap.size := by simp
  have c3 : (W.alloc (Obj.cells #[.int .i64 11, .int .i64 a, .int .i64 b', .string s, .string t, .string u] 38)).cell? ⟨W.heap.size, 3, none⟩ = some (.string s) := by simp
  have c4 : (W.alloc (Obj.cells #[.int .i64 11, .int .i64 a, .int .i64 b', .string s, .string t, .string u] 38)).cell? ⟨W.heap.size, 4, none⟩ = some (.string t) := by simp
  have HI : Hid _ := I
  have HW : Hid _ := Wt
  have hbase := I.core.fr.size
  clear h1 h2 I Wt
  have y0 : ((0 : Int) != 0) = false := rfl
  go_enter Tryz.func11, Tryz.ntmps11
  go_wp2_with fail
  generalize W.alloc (Obj.cells #[.int .i64 11, .int .i64 a, .int .i64 b', .string s, .string t, .string u] 38) = Wa at *
  refine (H1.out Wa hTa).mono ?_
  rintro e W1 ⟨v1, rfl, o1⟩
  obtain ⟨p1, q1, rfl⟩ := own_form o1.own
  have c3_1 : W1.cell? ⟨W.heap.size, 3, none⟩ = some (.string s) := (o1.fr.cell (p := ⟨W.heap.size, 3, none⟩) hla (by simp)).trans c3
  have c4_1 : W1.cell? ⟨W.heap.size, 4, none⟩ = some (.string t) := (o1.fr.cell (p := ⟨W.heap.size, 4, none⟩) hla (by simp)).trans c4
  have hl1 := Nat.lt_of_lt_of_le hla o1.fr.size
  have hT1 := hTa.fr o1.fr (by simp)
  clear c3 c4
  go_wp2_with fail
  refine (H1.out W1 hT1).mono ?_
  rintro e W2 ⟨v2, rfl, o2⟩
  obtain ⟨p2, q2, rfl⟩ := own_form o2.own
  have c3_2 : W2.cell? ⟨W.heap.size, 3, none⟩ = some (.string s) := (o2.fr.cell (p := ⟨W.heap.size, 3, none⟩) hl1 (by simp)).trans c3_1
  have c4_2 : W2.cell? ⟨W.heap.size, 4, none⟩ = some (.string t) := (o2.fr.cell (p := ⟨W.heap.size, 4, none⟩) hl1 (by simp)).trans c4_1
  have hl2 := Nat.lt_of_lt_of_le hl1 o2.fr.size
  clear c3_1 c4_1
  go_wp2_with fail
  refine (H2.out W2).mono ?_
  rintro e W3 ⟨v3, rfl, o3⟩
  obtain ⟨p3, q3, rfl⟩ := own_form o3.own
  have s1 : Hid (StrsAt W3 (.slice p1 L.length q1) L) := (o1.kept (o2.fr.trans o3.fr)).strs
  have s2 : Hid (StrsAt W3 (.slice p2 L.length q2) L) := (o2.kept o3.fr).strs
  have s3 : Hid (StrsAt W3 (.slice p3 L.length q3) L) := o3.strs
  clear c3_2 c4_2 hTa hT1 H1 H2
  have hs1 := sameT_any L (.slice p1 L.length q1) (.slice p3 L.length q3) W3 hL s1.out s3.out
  go_wp2_with fail
  refine hs1.mono ?_
  rintro e W4 ⟨rfl, g4⟩
  clear hs1
  have hs2 := sameT_any L (.slice p2 L.length q2) (.slice p3 L.length q3) W4 hL (StrsAt.chg (tag := fun _ => 0) (t := 0) s2.out (fun _ _ => rfl) (Chg.of_fr (S := []) g4) (by simp)) (StrsAt.chg (tag := fun _ => 0) (t := 0) s3.out (fun _ _ => rfl) (Chg.of_fr (S := []) g4) (by simp))
  go_wp2_with fail
  refine hs2.mono ?_
  rintro e W5 ⟨rfl, g5⟩
  clear hs2
  have hn := num_any 0 W5
  go_wp2_with fail
  refine hn.mono ?_
  rintro e W6 ⟨rfl, rfl⟩
  clear hn
  have g6 : Fr [] W3 W6 := g4.trans g5
  have m1 := o1.fr.size
  have m2 := o2.fr.size
  have m3 := o3.fr.size
  obtain ⟨tg, htg⟩ : ∃ tg : Nat → Nat, tg = fun k => if k < W.heap.size then tag k else if k < W1.heap.size then 9 + wl.length else if k < W2.heap.size then 10 + wl.length else 6 := ⟨_, rfl⟩
  have t0 : ∀ k, k < W.heap.size → tg k = tag k := fun k hk => by rw [htg]; simp [hk]
  have t1 : ∀ k, Wa.heap.size ≤ k → k < W1.heap.size → tg k = 9 + wl.length := fun k h1 h2 => by rw [htg]; simp [show ¬ k < W.heap.size by omega, h2]
  have t2 : ∀ k, W1.heap.size ≤ k → k < W2.heap.size → tg k = 10 + wl.length := fun k h1 h2 => by rw [htg]; simp [show ¬ k < W.heap.size by omega, show ¬ k < W1.heap.size by omega, h2]
  have t3 : ∀ k, W2.heap.size ≤ k → k < W3.heap.size → tg k = 6 := fun k h1 h2 => by rw [htg]; simp [show ¬ k < W.heap.size by omega, show ¬ k < W1.heap.size by omega, show ¬ k < W2.heap.size by omega]
  have fw : Fr [] W W6 := fa.trans (o1.fr.trans (o2.fr.trans (o3.fr.trans g6)))
  have I1 : ScrI w0 W6 b tg c T bk wl el := (HI.out.retag (tag' := tg) (fun k hk _ => t0 k hk)).frm fw
  have Wt1 : Waits w0.heap.size W6 tg wl el 0 := (HW.out.retag (tag' := tg) (fun k hk _ => t0 k hk)).chg (S := []) (Chg.of_fr fw) (by simp)
  have r1 : RowT w0.heap.size W6 tg (9 + wl.length) 9 1 (.slice p1 L.length q1) L.length (L.map Value.string) := row_new o1 (o2.fr.trans (o3.fr.trans g6)) (by omega) t1
  have r2 : RowT w0.heap.size W6 tg (10 + wl.length) 9 1 (.slice p2 L.length q2) L.length (L.map Value.string) := row_new o2 (o3.fr.trans g6) (by omega) t2
  have r3 : RowT w0.heap.size W6 tg 6 9 1 (.slice p3 L.length q3) L.length (L.map Value.string) := row_new o3 g6 (by omega) t3
  have su : StrsAt W6 (.slice p3 L.length q3) L := StrsAt.chg (tag := fun _ => 0) (t := 0) s3.out (fun _ _ => rfl) (Chg.of_fr (S := []) g6) (by simp)
  have hel := Wt1.len
  have hk1 := keep_any w0 W6 b tg c T bk wl el p1 L.length q1 (.slice p3 L.length q3) L I1 su hL r3.tg (by omega) (by omega)
  have Hp : Hid _ := And.intro Wt1 (And.intro r1 (And.intro r2 (And.intro r3 su)))
  clear I1 Wt1 r1 r2 r3 su htg t0 t1 t2 t3 fw s1 s2 s3 o1 o2 o3 g4 g5 g6 fa HI HW
  go_wp2_with fail
  refine hk1.mono ?_
  rintro e W7 ⟨rfl, tag7, c7, u7, I7, su7, tu7, ch7, re7⟩
  obtain ⟨Wt1, r1, r2, r3, su⟩ := Hp.out
  have Wt7 := kept_waits Wt1 r1 hL su7 tu7 ch7 re7
  have ch7' : Chg tag7 [0, 4, 5] W6 W7 := ⟨ch7.os, ch7.tape, ch7.output, ch7.size, fun k hk hn => ch7.block k hk (by rw [← re7 k hk]; exact hn)⟩
  have r2' := (r2.retag (tag' := tag7) (fun k hk e => by rw [re7 k hk]; exact e)).chg ch7' (by simp; omega)
  have r3' := (r3.retag (tag' := tag7) (fun k hk e => by rw [re7 k hk]; exact e)).chg ch7' (by simp)
  have su' := StrsAt.chg su r3.tg ch7 (by simp)
  have hlen : (wl ++ [Value.slice p1 L.length q1]).length = wl.length + 1 := by simp
  have hel7 := Wt7.len
  have hk2 := keep_any w0 W7 b tag7 c7 T bk _ _ p2 L.length q2 (.slice p3 L.length q3) L I7 su' hL r3'.tg (by omega) (by omega)
  have Hq : Hid _ := And.intro Wt7 r2'
  clear Wt1 r1 r2 r3 su Wt7 ch7' r2' r3' su' I7 su7 tu7 ch7 re7 hk1 Hp
  go_wp2_with fail
  refine hk2.mono ?_
  rintro e W8 ⟨rfl, tag8, c8, u8, I8, su8, tu8, ch8, re8⟩
  obtain ⟨Wt7, r2'⟩ := Hq.out
  have Wt8 := kept_waits Wt7 (by rw [hlen, show 9 + (wl.length + 1) = 10 + wl.length by omega]; exact r2') hL su8 tu8 ch8 re8
  clear Hq Wt7 r2' hk2 su8 tu8 ch8 re8
  have Hz : Hid _ := And.intro I8 Wt8
  clear I8 Wt8
  go_wp2
  go_ret
  exact ⟨rfl, tag8, c8, _, _, Hz.out.1, Hz.out.2, by simp⟩

set_option maxRecDepth 100000 in
set_option maxHeartbeats 4000000 in
theorem patterns_split1 (w0 W : World) (b : Nat) (tag : Nat → Nat) (c : Nat → Value) (T : Nat) (bk : List Book) (wl el : List Value) (a b' : Int) (s t u : ByteArray) (e0 : Int) (he : e0 = 1 ∨ e0 = 2) (h1 : ∀ W, Tab W → Calls Tryz.prog 31 #[.string s, .string t] W fun r W' => r = .returned (.tuple #[.slice none 0 0, .int .i64 e0]) ∧ Fr [] W W') (h2 : ∀ W, Calls Tryz.prog 32 #[.string s, .string t] W fun r W' => r = .returned (.tuple #[.slice none 0 0, .int .i64 e0]) ∧ Fr [] W W') (I : ScrI w0 W b tag c T bk wl el) (Wt : Waits w0.heap.size W tag wl el 0) (hT : Tab w0) (hl : wl.length ≤ 900000000) :
    Calls Tryz.prog 11 #[.pointer (some ⟨b, 0, none⟩), .agg #[.int .i64 11, .int .i64 a, .int .i64 b', .string s, .string t, .string u]] W fun e W' => e = .returned (.bool true) ∧ ∃ tag' c' wl' el', ScrI w0 W' b tag' c' T bk wl' el' ∧ Waits w0.heap.size W' tag' wl' el' 0 ∧ wl'.length = wl.length + 2 := by
  have H1 : Hid _ := h1
  have H2 : Hid _ := h2
  have fa : Fr [] W (W.alloc (Obj.cells #[.int .i64 11, .int .i64 a, .int .i64 b', .string s, .string t, .string u] 38)) := (Fr.refl [] W).alloc _
  have hTa := hT.fr (I.core.fr.trans fa) (by simp)
  have hla : W.heap.size < (W.alloc (Obj.cells #[.int .i64 11, .int .i64 a, .int .i64 b', .string s, .string t, .string u] 38)).heap.size := by simp
  have c3 : (W.alloc (Obj.cells #[.int .i64 11, .int .i64 a, .int .i64 b', .string s, .string t, .string u] 38)).cell? ⟨W.heap.size, 3, none⟩ = some (.string s) := by simp
  have c4 : (W.alloc (Obj.cells #[.int .i64 11, .int .i64 a, .int .i64 b', .string s, .string t, .string u] 38)).cell? ⟨W.heap.size, 4, none⟩ = some (.string t) := by simp
  have HI : Hid _ := I
  have HW : Hid _ := Wt
  have hbase := I.core.fr.size
  clear h1 h2 I Wt
  have y0 : (e0 != 0) = true := by rcases he with rfl | rfl <;> rfl
  have y1 : (e0 != e0) = false := by simp
  go_enter Tryz.func11, Tryz.ntmps11
  go_wp2_with fail
  generalize W.alloc (Obj.cells #[.int .i64 11, .int .i64 a, .int .i64 b', .string s, .string t, .string u] 38) = Wa at *
  refine (H1.out Wa hTa).mono ?_
  rintro e W1 ⟨rfl, f1⟩
  have o1 := (OwnI.start Wa).kept f1
  have c3_1 : W1.cell? ⟨W.heap.size, 3, none⟩ = some (.string s) := (o1.fr.cell (p := ⟨W.heap.size, 3, none⟩) hla (by simp)).trans c3
  have c4_1 : W1.cell? ⟨W.heap.size, 4, none⟩ = some (.string t) := (o1.fr.cell (p := ⟨W.heap.size, 4, none⟩) hla (by simp)).trans c4
  have hl1 := Nat.lt_of_lt_of_le hla o1.fr.size
  have hT1 := hTa.fr o1.fr (by simp)
  clear c3 c4
  go_wp2_with fail
  refine (H1.out W1 hT1).mono ?_
  rintro e W2 ⟨rfl, f2⟩
  have o2 := (OwnI.start W1).kept f2
  have c3_2 : W2.cell? ⟨W.heap.size, 3, none⟩ = some (.string s) := (o2.fr.cell (p := ⟨W.heap.size, 3, none⟩) hl1 (by simp)).trans c3_1
  have c4_2 : W2.cell? ⟨W.heap.size, 4, none⟩ = some (.string t) := (o2.fr.cell (p := ⟨W.heap.size, 4, none⟩) hl1 (by simp)).trans c4_1
  have hl2 := Nat.lt_of_lt_of_le hl1 o2.fr.size
  clear c3_1 c4_1
  go_wp2_with fail
  refine (H2.out W2).mono ?_
  rintro e W3 ⟨rfl, f3⟩
  have o3 := (OwnI.start W2).kept f3
  have s1 : Hid (StrsAt W3 (.slice none 0 0) ([] : List ByteArray)) := (o1.kept (o2.fr.trans o3.fr)).strs
  have s2 : Hid (StrsAt W3 (.slice none 0 0) ([] : List ByteArray)) := (o2.kept o3.fr).strs
  have s3 : Hid (StrsAt W3 (.slice none 0 0) ([] : List ByteArray)) := o3.strs
  clear c3_2 c4_2 hTa hT1 H1 H2
  have hs1 := sameT_any ([] : List ByteArray) (.slice none 0 0) (.slice none 0 0) W3 (by simp) s1.out s3.out
  go_wp2_with fail
  refine hs1.mono ?_
  rintro e W4 ⟨rfl, g4⟩
  clear hs1
  have hs2 := sameT_any ([] : List ByteArray) (.slice none 0 0) (.slice none 0 0) W4 (by simp) (StrsAt.chg (tag := fun _ => 0) (t := 0) s2.out (fun _ _ => rfl) (Chg.of_fr (S := []) g4) (by simp)) (StrsAt.chg (tag := fun _ => 0) (t := 0) s3.out (fun _ _ => rfl) (Chg.of_fr (S := []) g4) (by simp))
  go_wp2_with fail
  refine hs2.mono ?_
  rintro e W5 ⟨rfl, g5⟩
  clear hs2
  have hn := num_any e0 W5
  go_wp2_with fail
  refine hn.mono ?_
  rintro e W6 ⟨rfl, rfl⟩
  clear hn
  have g6 : Fr [] W3 W6 := g4.trans g5
  have m1 := o1.fr.size
  have m2 := o2.fr.size
  have m3 := o3.fr.size
  obtain ⟨tg, htg⟩ : ∃ tg : Nat → Nat, tg = fun k => if k < W.heap.size then tag k else if k < W1.heap.size then 9 + wl.length else if k < W2.heap.size then 10 + wl.length else 6 := ⟨_, rfl⟩
  have t0 : ∀ k, k < W.heap.size → tg k = tag k := fun k hk => by rw [htg]; simp [hk]
  have t1 : ∀ k, Wa.heap.size ≤ k → k < W1.heap.size → tg k = 9 + wl.length := fun k h1 h2 => by rw [htg]; simp [show ¬ k < W.heap.size by omega, h2]
  have t2 : ∀ k, W1.heap.size ≤ k → k < W2.heap.size → tg k = 10 + wl.length := fun k h1 h2 => by rw [htg]; simp [show ¬ k < W.heap.size by omega, show ¬ k < W1.heap.size by omega, h2]
  have t3 : ∀ k, W2.heap.size ≤ k → k < W3.heap.size → tg k = 6 := fun k h1 h2 => by rw [htg]; simp [show ¬ k < W.heap.size by omega, show ¬ k < W1.heap.size by omega, show ¬ k < W2.heap.size by omega]
  have fw : Fr [] W W6 := fa.trans (o1.fr.trans (o2.fr.trans (o3.fr.trans g6)))
  have I1 : ScrI w0 W6 b tg c T bk wl el := (HI.out.retag (tag' := tg) (fun k hk _ => t0 k hk)).frm fw
  have Wt1 : Waits w0.heap.size W6 tg wl el 0 := (HW.out.retag (tag' := tg) (fun k hk _ => t0 k hk)).chg (S := []) (Chg.of_fr fw) (by simp)
  have r1 : RowT w0.heap.size W6 tg (9 + wl.length) 9 1 (.slice none 0 0) ([] : List ByteArray).length (([] : List ByteArray).map Value.string) := row_new o1 (o2.fr.trans (o3.fr.trans g6)) (by omega) t1
  have r2 : RowT w0.heap.size W6 tg (10 + wl.length) 9 1 (.slice none 0 0) ([] : List ByteArray).length (([] : List ByteArray).map Value.string) := row_new o2 (o3.fr.trans g6) (by omega) t2
  have r3 : RowT w0.heap.size W6 tg 6 9 1 (.slice none 0 0) ([] : List ByteArray).length (([] : List ByteArray).map Value.string) := row_new o3 g6 (by omega) t3
  have su : StrsAt W6 (.slice none 0 0) ([] : List ByteArray) := StrsAt.chg (tag := fun _ => 0) (t := 0) s3.out (fun _ _ => rfl) (Chg.of_fr (S := []) g6) (by simp)
  have hel := Wt1.len
  have hk1 := keep_any w0 W6 b tg c T bk wl el none 0 0 (.slice none 0 0) ([] : List ByteArray) I1 su (by simp) r3.tg (by omega) (by omega)
  have Hp : Hid _ := And.intro Wt1 (And.intro r1 (And.intro r2 (And.intro r3 su)))
  clear I1 Wt1 r1 r2 r3 su htg t0 t1 t2 t3 fw s1 s2 s3 o1 o2 o3 g4 g5 g6 fa HI HW
  go_wp2_with fail
  refine hk1.mono ?_
  rintro e W7 ⟨rfl, tag7, c7, u7, I7, su7, tu7, ch7, re7⟩
  obtain ⟨Wt1, r1, r2, r3, su⟩ := Hp.out
  have Wt7 := kept_waits Wt1 r1 (by simp) su7 tu7 ch7 re7
  have ch7' : Chg tag7 [0, 4, 5] W6 W7 := ⟨ch7.os, ch7.tape, ch7.output, ch7.size, fun k hk hn => ch7.block k hk (by rw [← re7 k hk]; exact hn)⟩
  have r2' := (r2.retag (tag' := tag7) (fun k hk e => by rw [re7 k hk]; exact e)).chg ch7' (by simp; omega)
  have r3' := (r3.retag (tag' := tag7) (fun k hk e => by rw [re7 k hk]; exact e)).chg ch7' (by simp)
  have su' := StrsAt.chg su r3.tg ch7 (by simp)
  have hlen : (wl ++ [Value.slice none 0 0]).length = wl.length + 1 := by simp
  have hel7 := Wt7.len
  have hk2 := keep_any w0 W7 b tag7 c7 T bk _ _ none 0 0 (.slice none 0 0) ([] : List ByteArray) I7 su' (by simp) r3'.tg (by omega) (by omega)
  have Hq : Hid _ := And.intro Wt7 r2'
  clear Wt1 r1 r2 r3 su Wt7 ch7' r2' r3' su' I7 su7 tu7 ch7 re7 hk1 Hp
  go_wp2_with fail
  refine hk2.mono ?_
  rintro e W8 ⟨rfl, tag8, c8, u8, I8, su8, tu8, ch8, re8⟩
  obtain ⟨Wt7, r2'⟩ := Hq.out
  have Wt8 := kept_waits Wt7 (by rw [hlen, show 9 + (wl.length + 1) = 10 + wl.length by omega]; exact r2') (by simp) su8 tu8 ch8 re8
  clear Hq Wt7 r2' hk2 su8 tu8 ch8 re8
  have Hz : Hid _ := And.intro I8 Wt8
  clear I8 Wt8
  go_wp2
  go_ret
  exact ⟨rfl, tag8, c8, _, _, Hz.out.1, Hz.out.2, by simp⟩

end Go.Proofs.YtakbfoegkjaphaaGreatDoor

