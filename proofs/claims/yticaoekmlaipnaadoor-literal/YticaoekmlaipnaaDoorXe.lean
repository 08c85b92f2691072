/-
  Split, of a pattern.
-/
import Derived.Test.YticaoekmlaipnaaDoorXd
set_option linter.unusedSimpArgs false
set_option linter.unusedVariables false
namespace Go.Proofs.YticaoekmlaipnaaDoor
open Go.RowKit

theorem info9 : (Tryd.prog.info? 9).map (fun i => (i.zero, i.size, i.bytes)) = some (some (.string ⟨#[]⟩), 1, 16) := by kernel_rfl

/-- A list of texts that the call has made of its own. -/
structure OwnI (w0 : World) (L : List ByteArray) (v : Value) (W : World) : Prop where
  own : W.ownsRow w0.heap.size 9 1 v L.length (L.map Value.string)
  fr : Fr [] w0 W

theorem Fr.grownBy {w w' : World} (h : Fr [] w w') : w.grownBy w' none := ⟨h.os, h.tape, h.output, h.size, fun k hk _ => h.block k hk (by simp)⟩
theorem OwnI.start (w0 : World) : OwnI w0 [] (.slice none 0 0) w0 := ⟨World.ownsRow_nil _ _ _ _, Fr.refl _ _⟩
theorem OwnI.kept {w0 : World} {L : List ByteArray} {v : Value} {W W' : World} (h : OwnI w0 L v W) (hf : Fr [] W W') : OwnI w0 L v W' :=
  ⟨h.own.kept hf.grownBy (by cases hv : v.ownBlock <;> simp), h.fr.trans hf⟩
theorem OwnI.grown {w0 : World} {L : List ByteArray} {v v' : Value} {W W' : World} {o : Obj} {s : ByteArray} (h : OwnI w0 L v W) (hown : W'.ownsRow w0.heap.size 9 1 v' (L.length + 1) (L.map Value.string ++ [.string s])) (hg : (W.alloc o).grownBy W' v.ownBlock) : OwnI w0 (L ++ [s]) v' W' := by
  refine ⟨by rw [List.length_append, List.map_append]; exact hown, ?_⟩
  have ha : Fr [] W (W.alloc o) := (Fr.refl [] W).alloc o
  refine ⟨hg.os.trans (ha.os.trans h.fr.os), hg.tape.trans (ha.tape.trans h.fr.tape), hg.output.trans (ha.output.trans h.fr.output), Nat.le_trans h.fr.size (Nat.le_trans ha.size hg.size), fun k hk _ => ?_⟩
  have h1 := h.fr.size
  have h2 := ha.size
  rw [hg.block k (by omega) (fun e => by have := (h.own.lt k e.symm).1; omega), ha.block k (by omega) (by simp), h.fr.block k hk (by simp)]

/-- A list of texts as a caller sees it. -/
def StrsAt (W : World) (v : Value) (L : List ByteArray) : Prop :=
  (L = [] ∧ v = .slice none 0 0) ∨ ∃ g cap, v = .slice (some ⟨g, 0, none⟩) L.length cap ∧ L.length ≤ cap ∧ g < W.heap.size ∧ ∀ (i : Nat) (x : ByteArray), L[i]? = some x → W.cell? ⟨g, i, none⟩ = some (.string x)
theorem OwnI.strs {w0 : World} {L : List ByteArray} {v : Value} {W : World} (h : OwnI w0 L v W) : StrsAt W v L := by
  rcases h.own.2 with ⟨hv, h0⟩ | ⟨g, cap, cur, hv, hb, hg, hn, _⟩
  · exact .inl ⟨List.eq_nil_of_length_eq_zero h0, hv⟩
  · refine .inr ⟨g, cap, hv, hn, (Array.getElem?_eq_some_iff.1 hg).1, fun i x hx => ?_⟩
    have := h.own.cells (g := g) (by rw [hv]; rfl) i (.string x) (by rw [List.getElem?_map, hx]; rfl)
    rcases i with _ | i
    · simpa [Addr.add] using this
    · simpa [Addr.add] using this
theorem StrsAt.fr {W W' : World} {v : Value} {L : List ByteArray} (h : StrsAt W v L) (hf : Fr [] W W') : StrsAt W' v L := by
  rcases h with h | ⟨g, cap, hv, hc, hg, hx⟩
  · exact .inl h
  · exact .inr ⟨g, cap, hv, hc, Nat.lt_of_lt_of_le hg hf.size, fun i x hi => (hf.cell (p := ⟨g, i, none⟩) hg (by simp)).trans (hx i x hi)⟩

/-- The pieces from the place k on, the piece at hand begun at bg. The first number is a bound on the steps. -/
def splitG (E : Nat → Int) (x : ByteArray) : Nat → Nat → Nat → List ByteArray
  | 0, bg, _ => [x.extract bg x.size]
  | f + 1, bg, k =>
    if k < x.size then
      if E k ≤ k then splitG E x f bg (k + 1) else x.extract bg k :: splitG E x f (E k).toNat (E k).toNat
    else [x.extract bg x.size]
theorem splitG_s (E : Nat → Int) (x : ByteArray) (f bg k : Nat) : splitG E x (f + 1) bg k =
    if k < x.size then
      if E k ≤ k then splitG E x f bg (k + 1) else x.extract bg k :: splitG E x f (E k).toNat (E k).toNat
    else [x.extract bg x.size] := rfl
theorem splitG_more (E : Nat → Int) (x : ByteArray) : ∀ f bg k, x.size - k ≤ f → splitG E x (f + 1) bg k = splitG E x f bg k
  | 0, bg, k, h => by rw [splitG_s E x 0 bg k, if_neg (by omega)]; rfl
  | f + 1, bg, k, h => by
    rw [splitG_s E x (f + 1) bg k, splitG_s E x f bg k]
    by_cases hk : k < x.size
    · rw [if_pos hk, if_pos hk]
      by_cases hE : E k ≤ k
      · rw [if_pos hE, if_pos hE, splitG_more E x f _ _ (by omega)]
      · rw [if_neg hE, if_neg hE, splitG_more E x f _ _ (by omega)]
    · rw [if_neg hk, if_neg hk]
theorem splitG_enough (E : Nat → Int) (x : ByteArray) (bg k : Nat) : ∀ d, splitG E x (x.size - k + d) bg k = splitG E x (x.size - k) bg k
  | 0 => rfl
  | d + 1 => by rw [← Nat.add_assoc, splitG_more _ _ _ _ _ (by omega), splitG_enough E x bg k d]
def splitL (E : Nat → Int) (x : ByteArray) (bg k : Nat) : List ByteArray := splitG E x (x.size - k) bg k
theorem splitL_eq (E : Nat → Int) (x : ByteArray) (bg k : Nat) : splitL E x bg k =
    if k < x.size then
      if E k ≤ k then splitL E x bg (k + 1) else x.extract bg k :: splitL E x (E k).toNat (E k).toNat
    else [x.extract bg x.size] := by
  by_cases hk : k < x.size
  · rw [if_pos hk]
    unfold splitL
    rw [show x.size - k = (x.size - (k + 1)) + 1 by omega, splitG_s, if_pos hk]
    by_cases hE : E k ≤ k
    · rw [if_pos hE, if_pos hE]
    · rw [if_neg hE, if_neg hE, show x.size - (k + 1) = x.size - (E k).toNat + (x.size - (k + 1) - (x.size - (E k).toNat)) by omega, splitG_enough]
  · rw [if_neg hk]
    unfold splitL
    rw [show x.size - k = 0 by omega]
    rfl

theorem splitL_len (E : Nat → Int) (x : ByteArray) : ∀ d bg k, x.size - k ≤ d → (splitL E x bg k).length ≤ x.size - k + 1
  | 0, bg, k, h => by rw [splitL_eq, if_neg (by omega)]; simp
  | d + 1, bg, k, h => by
    rw [splitL_eq]
    by_cases hk : k < x.size
    · rw [if_pos hk]
      by_cases hE : E k ≤ k
      · rw [if_pos hE]; have := splitL_len E x d bg (k + 1) (by omega); omega
      · rw [if_neg hE, List.length_cons]; have := splitL_len E x d (E k).toNat (E k).toNat (by omega); omega
    · rw [if_neg hk]; simp

set_option maxHeartbeats 400000 in
theorem clone_any (s : ByteArray) (w : World) (hs : s.size ≤ 1000) : Calls Tryd.prog 44 #[.string s] w fun e w' => e = .returned (.string s) ∧ Fr [] w w' := by
  have hc := Tryd.stringslite_Clone s w (by omega)
  go_enter Tryd.func44, Tryd.ntmps44
  go_wp2_with fail
  refine hc.mono ?_
  rintro e w1 ⟨rfl, lo⟩
  go_wp2
  go_ret
  exact ⟨rfl, below_fr lo⟩

set_option maxRecDepth 100000 in
set_option maxHeartbeats 400000 in
theorem psplit_empty (pb : Nat) (w : World) :
    Calls Tryd.prog 30 #[.pointer (some ⟨pb, 0, none⟩), .string ⟨#[]⟩] w fun e w' => e = .returned (.slice none 0 0) ∧ w' = w := by
  go_enter Tryd.func30, Tryd.ntmps30
  go_wp2
  go_ret
  exact ⟨rfl, rfl⟩

theorem ne_empty {x : ByteArray} (h : 0 < x.size) : x.toList.isEmpty = false := by
  rw [ByteArray.toList_eq]
  cases x with
  | mk d =>
    have hd : 0 < d.size := h
    cases hl : d.toList with
    | nil => have e : d.toList.length = d.size := Array.length_toList; rw [hl] at e; simp at e; omega
    | cons a r => rfl

set_option maxRecDepth 100000 in
set_option maxHeartbeats 2000000 in
theorem psplit_any (pb : Nat) (q : Piece) (tk : Nat → Nat) (fo : Nat → Nat → Nat) (x : ByteArray) (w : World) (hP : PatAt w pb (whF q) tk fo) (hT : Tab w) (lq : PB 50 q) (ltk : ∀ b, tk b < 1125899906842624) (lfo : ∀ s a, fo s a < 18446744073709551616) (hx : x.size ≤ 100) (hx0 : 0 < x.size) :
    Calls Tryd.prog 30 #[.pointer (some ⟨pb, 0, none⟩), .string x] w fun e w' => ∃ v, e = .returned v ∧ StrsAt w' v (splitL (endF q tk fo x) x 0 0) ∧ Fr [] w w' := by
  obtain ⟨i0, hi, hz0, hz1, hz2⟩ := info_parts info9
  have hen := ends_any pb q tk fo x w hP hT lq ltk lfo hx
  have hle := endF_le q tk fo x
  have hne := ne_empty hx0
  unfold EndsAt at hen
  generalize endF q tk fo x = E at *
  obtain ⟨R, hR⟩ : ∃ R, splitL E x 0 0 = R := ⟨_, rfl⟩
  rw [hR]
  have HR : Hid (_ = R) := hR
  have Hle : Hid _ := hle
  clear hR hle hP hT
  go_enter Tryd.func30, Tryd.ntmps30
  go_wp2_with fail
  refine hen.mono ?_
  rintro e w0 ⟨eb, rfl, ⟨heb, htg, hc⟩, f1⟩
  clear hen
  have hlt := htg.lt
  have J0 := OwnI.start w0
  have Hc : Hid _ := hc
  clear hc htg
  go_wp2
  go_loopw [5, 7, 8] (fun v bg pl wr => ∃ (k b : Nat) (L : List ByteArray), b ≤ k ∧ k ≤ x.size ∧ L.length ≤ k ∧ bg = .int .i64 b ∧ pl = .int .i64 k ∧ Hid (L ++ splitL E x b k = R) ∧ OwnI w0 L v wr) (fun _ _ pl _ => x.size - (intOf pl).toNat)
  case atStart => exact ⟨0, 0, [], by omega, by omega, by simp, rfl, rfl, HR, J0⟩
  case round =>
    clear J0
    obtain ⟨k, b, L, hb, hk, hl, rfl, rfl, hR, J⟩ := hrel
    have hR' := hR.out
    rw [splitL_eq] at hR'
    have hW := J.fr.size
    by_cases hks : k < x.size
    · have g1 : (k : Int) < x.size := by omega
      have g2 : (k : Int) < (x.size : Int) + 1 := by omega
      have c1 : wr.cell? ⟨eb, k, none⟩ = some (.int .i64 (E k)) := (J.fr.cell (p := ⟨eb, k, none⟩) hlt (by simp)).trans (Hc.out k hk)
      obtain ⟨hb1, hb2⟩ := Hle.out k
      rw [if_pos hks] at hR'
      by_cases hE : E k ≤ k
      · rw [if_pos hE] at hR'
        have HR' : Hid _ := hR'
        clear hR'
        go_wp2
        exact ⟨⟨k + 1, b, L, by omega, by omega, by omega, rfl, by go_num, HR', J⟩, by simp [intOf]; omega⟩
      · rw [if_neg hE] at hR'
        have e1 : L ++ (x.extract b k :: splitL E x (E k).toNat (E k).toNat) = (L ++ [x.extract b k]) ++ splitL E x (E k).toNat (E k).toNat := by simp
        rw [e1] at hR'
        have HR' : Hid _ := hR'
        clear hR' e1
        have g3 : (b : Int) ≤ k := by omega
        have hcl := clone_any (x.extract b k) wr (by rw [ByteArray.size_extract]; omega)
        have hE0 : ((E k).toNat : Int) = E k := by omega
        go_wp2_with fail
        refine hcl.mono ?_
        rintro e w2 ⟨rfl, f2⟩
        have J2 := J.kept f2
        have hs2 := f2.size
        have hown := J2.own
        clear hcl
        go_wp2_with (at_builtin; refine wpList_append_own _ rfl _ _ 31 rfl w0.heap.size 9 i0 (.string ⟨#[]⟩) 1 16 Tryd.underlying31 hi hz0 hz1 hz2 rfl (by decide) _ _ _ rfl (hown.alloc _) ⟨w2.heap.size, 0, none⟩ 1 1 [.string (x.extract b k)] rfl rfl ?c1 ?c2 ?c3 ?c4 ?c5 ?_)
        case c1 =>
          intro j u hj
          rcases j with _ | j
          · simp at hj; subst hj; simp [Addr.add]
          · simp at hj
        case c2 => intro u hu; simp at hu; subst hu; rfl
        case c3 => unfold maxLen; omega
        case c4 => omega
        case c5 => simp; omega
        intro v' w3 hown' hgrow _
        have J3 := J2.grown hown' hgrow
        have c3 : w3.cell? ⟨eb, k, none⟩ = some (.int .i64 (E k)) := (J3.fr.cell (p := ⟨eb, k, none⟩) hlt (by simp)).trans (Hc.out k hk)
        go_wp2
        exact ⟨⟨(E k).toNat, (E k).toNat, L ++ [x.extract b k], by omega, by omega, by rw [List.length_append]; simp; omega, by rw [hE0], by rw [hE0], HR', J3⟩, by simp [intOf]; omega⟩
    · have g1 : ¬ ((k : Int) < x.size) := by omega
      rw [if_neg hks] at hR'
      have HR' : Hid _ := hR'
      clear hR'
      have g3 : (b : Int) ≤ x.size := by omega
      have hcl := clone_any (x.extract b x.size) wr (by rw [ByteArray.size_extract]; omega)
      go_wp2_with fail
      refine hcl.mono ?_
      rintro e w2 ⟨rfl, f2⟩
      have J2 := J.kept f2
      have hs2 := f2.size
      have hown := J2.own
      clear hcl
      go_wp2_with (at_builtin; refine wpList_append_own _ rfl _ _ 31 rfl w0.heap.size 9 i0 (.string ⟨#[]⟩) 1 16 Tryd.underlying31 hi hz0 hz1 hz2 rfl (by decide) _ _ _ rfl (hown.alloc _) ⟨w2.heap.size, 0, none⟩ 1 1 [.string (x.extract b x.size)] rfl rfl ?c1 ?c2 ?c3 ?c4 ?c5 ?_)
      case c1 =>
        intro j u hj
        rcases j with _ | j
        · simp at hj; subst hj; simp [Addr.add]
        · simp at hj
      case c2 => intro u hu; simp at hu; subst hu; rfl
      case c3 => unfold maxLen; omega
      case c4 => omega
      case c5 => simp; omega
      intro v' w3 hown' hgrow _
      have J3 := J2.grown hown' hgrow
      go_wp2
      go_ret
      refine ⟨v', rfl, ?_, f1.trans J3.fr⟩
      rw [← HR'.out]
      exact J3.strs

end Go.Proofs.YticaoekmlaipnaaDoor
