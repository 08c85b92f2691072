/-
  Split, of a pattern. Swap and Split, the calls. The reader as plain functions: a fault stays; a bound that is great enough may be greater.
-/
import Derived.Test.YtakbfoegkjaphaaGreatDoorM15
import Derived.Test.YtakbfoegkjaphaaGreatDoorM07
set_option linter.unusedSimpArgs false
set_option linter.unusedVariables false
namespace Go.Proofs.YtakbfoegkjaphaaGreatDoor
open Go.RowKit

theorem info9 : (Tryz.prog.info? 9).map (fun i => (i.zero, i.size, i.bytes)) = some (some (.string ⟨#[]⟩), 1, 16) := by kernel_rfl

/-- A list of texts that the call has made of its own. -/
structure OwnI (w0 : World) (L : List ByteArray) (v : Value) (W : World) : Prop where
  own : W.ownsRow w0.heap.size 9 1 v L.length (L.map Value.string)
  fr : Fr [] w0 W

theorem Fr.grownBy {w w' : World} (h : Fr [] w w') : w.grownBy w' none := ⟨h.os, h.tape, h.output, h.size, fun k hk _ => h.block k hk (by simp)⟩
theorem OwnI.start (w0 : World) : OwnI w0 [] (.slice none 0 0) w0 := ⟨World.ownsRow_nil _ _ _ _, Fr.refl _ _⟩
theorem OwnI.kept {w0 : World} {L : List ByteArray} {v : Value} {W W' : World} (h : OwnI w0 L v W) (hf : Fr [] W W') : OwnI w0 L v W' :=
  ⟨h.own.kept hf.grownBy (by cases hv : v.ownBlock <;> simp), h.fr.trans hf⟩
theorem OwnI.grown {w0 : World} {L : List ByteArray} {v v' : Value} {W W' : World} {o : Obj} {s : ByteArray} (h : OwnI w0 L v W) (hown : W'.ownsRow w0.heap.size 9 1 v' (L.length + 1) (L.map Value.string ++ [.string s])) (hg : (W.alloc o).grownBy W' v.ownBlock) : OwnI w0 (L ++ [s]) v' W' := by
  refine ⟨by rw [List.length_append, List.map_append]; exact hown, ?_⟩
  have ha : Fr [] W (W.alloc o) := (Fr.refl [] W).alloc o
  refine ⟨hg.os.trans (ha.os.trans h.fr.os), hg.tape.trans (ha.tape.trans h.fr.tape), hg.output.trans (ha.output.trans h.fr.output), Nat.le_trans h.fr.size (Nat.le_trans ha.size hg.size), fun k hk _ => ?_⟩
  have h1 := h.fr.size
  have h2 := ha.size
  rw [hg.block k (by omega) (fun e => by have := (h.own.lt k e.symm).1; omega), ha.block k (by omega) (by simp), h.fr.block k hk (by simp)]

/-- A list of texts as a caller sees it. -/
def StrsAt (W : World) (v : Value) (L : List ByteArray) : Prop :=
  (L = [] ∧ v = .slice none 0 0) ∨ ∃ g cap, v = .slice (some ⟨g, 0, none⟩) L.length cap ∧ L.length ≤ cap ∧ g < W.heap.size ∧ ∀ (i : Nat) (x : ByteArray), L[i]? = some x → W.cell? ⟨g, i, none⟩ = some (.string x)
theorem OwnI.strs {w0 : World} {L : List ByteArray} {v : Value} {W : World} (h : OwnI w0 L v W) : StrsAt W v L := by
  rcases h.own.2 with ⟨hv, h0⟩ | ⟨g, cap, cur, hv, hb, hg, hn, _⟩
  · exact .inl ⟨List.eq_nil_of_length_eq_zero h0, hv⟩
  · refine .inr ⟨g, cap, hv, hn, (Array.getElem?_eq_some_iff.1 hg).1, fun i x hx => ?_⟩
    have := h.own.cells (g := g) (by rw [hv]; rfl) i (.string x) (by rw [List.getElem?_map, hx]; rfl)
    rcases i with _ | i
    · simpa [Addr.add] using this
    · simpa [Addr.add] using this
theorem StrsAt.fr {W W' : World} {v : Value} {L : List ByteArray} (h : StrsAt W v L) (hf : Fr [] W W') : StrsAt W' v L := by
  rcases h with h | ⟨g, cap, hv, hc, hg, hx⟩
  · exact .inl h
  · exact .inr ⟨g, cap, hv, hc, Nat.lt_of_lt_of_le hg hf.size, fun i x hi => (hf.cell (p := ⟨g, i, none⟩) hg (by simp)).trans (hx i x hi)⟩

/-- The pieces from the place k on, the piece at hand begun at bg. The first number is a bound on the steps. -/
def splitG (E : Nat → Int) (x : ByteArray) : Nat → Nat → Nat → List ByteArray
  | 0, bg, _ => [x.extract bg x.size]
  | f + 1, bg, k =>
    if k < x.size then
      if E k ≤ k then splitG E x f bg (k + 1) else x.extract bg k :: splitG E x f (E k).toNat (E k).toNat
    else [x.extract bg x.size]
theorem splitG_s (E : Nat → Int) (x : ByteArray) (f bg k : Nat) : splitG E x (f + 1) bg k =
    if k < x.size then
      if E k ≤ k then splitG E x f bg (k + 1) else x.extract bg k :: splitG E x f (E k).toNat (E k).toNat
    else [x.extract bg x.size] := rfl
theorem splitG_more (E : Nat → Int) (x : ByteArray) : ∀ f bg k, x.size - k ≤ f → splitG E x (f + 1) bg k = splitG E x f bg k
  | 0, bg, k, h => by rw [splitG_s E x 0 bg k, if_neg (by omega)]; rfl
  | f + 1, bg, k, h => by
    rw [splitG_s E x (f + 1) bg k, splitG_s E x f bg k]
    by_cases hk : k < x.size
    · rw [if_pos hk, if_pos hk]
      by_cases hE : E k ≤ k
      · rw [if_pos hE, if_pos hE, splitG_more E x f _ _ (by omega)]
      · rw [if_neg hE, if_neg hE, splitG_more E x f _ _ (by omega)]
    · rw [if_neg hk, if_neg hk]
theorem splitG_enough (E : Nat → Int) (x : ByteArray) (bg k : Nat) : ∀ d, splitG E x (x.size - k + d) bg k = splitG E x (x.size - k) bg k
  | 0 => rfl
  | d + 1 => by rw [← Nat.add_assoc, splitG_more _ _ _ _ _ (by omega), splitG_enough E x bg k d]
def splitL (E : Nat → Int) (x : ByteArray) (bg k : Nat) : List ByteArray := splitG E x (x.size - k) bg k
theorem splitL_eq (E : Nat → Int) (x : ByteArray) (bg k : Nat) : splitL E x bg k =
    if k < x.size then
      if E k ≤ k then splitL E x bg (k + 1) else x.extract bg k :: splitL E x (E k).toNat (E k).toNat
    else [x.extract bg x.size] := by
  by_cases hk : k < x.size
  · rw [if_pos hk]
    unfold splitL
    rw [show x.size - k = (x.size - (k + 1)) + 1 by omega, splitG_s, if_pos hk]
    by_cases hE : E k ≤ k
    · rw [if_pos hE, if_pos hE]
    · rw [if_neg hE, if_neg hE, show x.size - (k + 1) = x.size - (E k).toNat + (x.size - (k + 1) - (x.size - (E k).toNat)) by omega, splitG_enough]
  · rw [if_neg hk]
    unfold splitL
    rw [show x.size - k = 0 by omega]
    rfl

theorem splitL_len (E : Nat → Int) (x : ByteArray) : ∀ d bg k, x.size - k ≤ d → (splitL E x bg k).length ≤ x.size - k + 1
  | 0, bg, k, h => by rw [splitL_eq, if_neg (by omega)]; simp
  | d + 1, bg, k, h => by
    rw [splitL_eq]
    by_cases hk : k < x.size
    · rw [if_pos hk]
      by_cases hE : E k ≤ k
      · rw [if_pos hE]; have := splitL_len E x d bg (k + 1) (by omega); omega
      · rw [if_neg hE, List.length_cons]; have := splitL_len E x d (E k).toNat (E k).toNat (by omega); omega
    · rw [if_neg hk]; simp

set_option maxHeartbeats 400000 in
theorem clone_any (s : ByteArray) (w : World) (hs : s.size ≤ 1000) : Calls Tryz.prog 101 #[.string s] w fun e w' => e = .returned (.string s) ∧ Fr [] w w' := by
  have hc := Tryz.stringslite_Clone s w (by omega)
  go_enter Tryz.func101, Tryz.ntmps101
  go_wp2_with fail
  refine hc.mono ?_
  rintro e w1 ⟨rfl, lo⟩
  go_wp2
  go_ret
  exact ⟨rfl, below_fr lo⟩

set_option maxRecDepth 100000 in
set_option maxHeartbeats 400000 in
theorem psplit_empty (pb : Nat) (w : World) :
    Calls Tryz.prog 68 #[.pointer (some ⟨pb, 0, none⟩), .string ⟨#[]⟩] w fun e w' => e = .returned (.slice none 0 0) ∧ w' = w := by
  go_enter Tryz.func68, Tryz.ntmps68
  go_wp2
  go_ret
  exact ⟨rfl, rfl⟩

theorem ne_empty {x : ByteArray} (h : 0 < x.size) : x.toList.isEmpty = false := by
  rw [ByteArray.toList_eq]
  cases x with
  | mk d =>
    have hd : 0 < d.size := h
    cases hl : d.toList with
    | nil => have e : d.toList.length = d.size := Array.length_toList; rw [hl] at e; simp at e; omega
    | cons a r => rfl

set_option maxRecDepth 100000 in
set_option maxHeartbeats 2000000 in
theorem psplit_any (pb : Nat) (q : Piece) (tk : Nat → Nat) (fo : Nat → Nat → Nat) (x : ByteArray) (w : World) (hP : PatAt w pb (whF q) tk fo) (hT : Tab w) (lq : PB 50 q) (ltk : ∀ b, tk b < 1125899906842624) (lfo : ∀ s a, fo s a < 18446744073709551616) (hx : x.size ≤ 100) (hx0 : 0 < x.size) :
    Calls Tryz.prog 68 #[.pointer (some ⟨pb, 0, none⟩), .string x] w fun e w' => ∃ v, e = .returned v ∧ StrsAt w' v (splitL (endF q tk fo x) x 0 0) ∧ Fr [] w w' := by
  obtain ⟨i0, hi, hz0, hz1, hz2⟩ := info_parts info9
  have hen := ends_any pb q tk fo x w hP hT lq ltk lfo hx
  have hle := endF_le q tk fo x
  have hne := ne_empty hx0
  unfold EndsAt at hen
  generalize endF q tk fo x = E at *
  obtain ⟨R, hR⟩ : ∃ R, splitL E x 0 0 = R := ⟨_, rfl⟩
  rw [hR]
  have HR : Hid (_ = R) := hR
  have Hle : Hid _ := hle
  clear hR hle hP hT
  go_enter Tryz.func68, Tryz.ntmps68
  go_wp2_with fail
  refine hen.mono ?_
  rintro e w0 ⟨eb, rfl, ⟨heb, htg, hc⟩, f1⟩
  clear hen
  have hlt := htg.lt
  have J0 := OwnI.start w0
  have Hc : Hid _ := hc
  clear hc htg
  go_wp2
  go_loopw [5, 7, 8] (fun v bg pl wr => ∃ (k b : Nat) (L : List ByteArray), b ≤ k ∧ k ≤ x.size ∧ L.length ≤ k ∧ bg = .int .i64 b ∧ pl = .int .i64 k ∧ Hid (L ++ splitL E x b k = R) ∧ OwnI w0 L v wr) (fun _ _ pl _ => x.size - (intOf pl).toNat)
  case atStart => exact ⟨0, 0, [], by omega, by omega, by simp, rfl, rfl, HR, J0⟩
  case round =>
    clear J0
    obtain ⟨k, b, L, hb, hk, hl, rfl, rfl, hR, J⟩ := hrel
    have hR' := hR.out
    rw [splitL_eq] at hR'
    have hW := J.fr.size
    by_cases hks : k < x.size
    · have g1 : (k : Int) < x.size := by omega
      have g2 : (k : Int) < (x.size : Int) + 1 := by omega
      have c1 : wr.cell? ⟨eb, k, none⟩ = some (.int .i64 (E k)) := (J.fr.cell (p := ⟨eb, k, none⟩) hlt (by simp)).trans (Hc.out k hk)
      obtain ⟨hb1, hb2⟩ := Hle.out k
      rw [if_pos hks] at hR'
      by_cases hE : E k ≤ k
      · rw [if_pos hE] at hR'
        have HR' : Hid _ := hR'
        clear hR'
        go_wp2
        exact ⟨⟨k + 1, b, L, by omega, by omega, by omega, rfl, by go_num, HR', J⟩, by simp [intOf]; omega⟩
      · rw [if_neg hE] at hR'
        have e1 : L ++ (x.extract b k :: splitL E x (E k).toNat (E k).toNat) = (L ++ [x.extract b k]) ++ splitL E x (E k).toNat (E k).toNat := by simp
        rw [e1] at hR'
        have HR' : Hid _ := hR'
        clear hR' e1
        have g3 : (b : Int) ≤ k := by omega
        have hcl := clone_any (x.extract b k) wr (by rw [ByteArray.size_extract]; omega)
        have hE0 : ((E k).toNat : Int) = E k := by omega
        go_wp2_with fail
        refine hcl.mono ?_
        rintro e w2 ⟨rfl, f2⟩
        have J2 := J.kept f2
        have hs2 := f2.size
        have hown := J2.own
        clear hcl
        go_wp2_with (at_builtin; refine wpList_append_own _ rfl _ _ 27 rfl w0.heap.size 9 i0 (.string ⟨#[]⟩) 1 16 Tryz.underlying27 hi hz0 hz1 hz2 rfl (by decide) _ _ _ rfl (hown.alloc _) ⟨w2.heap.size, 0, none⟩ 1 1 [.string (x.extract b k)] rfl rfl ?c1 ?c2 ?c3 ?c4 ?c5 ?_)
        case c1 =>
          intro j u hj
          rcases j with _ | j
          · simp at hj; subst hj; simp [Addr.add]
          · simp at hj
        case c2 => intro u hu; simp at hu; subst hu; rfl
        case c3 => unfold maxLen; omega
        case c4 => omega
        case c5 => simp; omega
        intro v' w3 hown' hgrow _
        have J3 := J2.grown hown' hgrow
        have c3 : w3.cell? ⟨eb, k, none⟩ = some (.int .i64 (E k)) := (J3.fr.cell (p := ⟨eb, k, none⟩) hlt (by simp)).trans (Hc.out k hk)
        go_wp2
        exact ⟨⟨(E k).toNat, (E k).toNat, L ++ [x.extract b k], by omega, by omega, by rw [List.length_append]; simp; omega, by rw [hE0], by rw [hE0], HR', J3⟩, by simp [intOf]; omega⟩
    · have g1 : ¬ ((k : Int) < x.size) := by omega
      rw [if_neg hks] at hR'
      have HR' : Hid _ := hR'
      clear hR'
      have g3 : (b : Int) ≤ x.size := by omega
      have hcl := clone_any (x.extract b x.size) wr (by rw [ByteArray.size_extract]; omega)
      go_wp2_with fail
      refine hcl.mono ?_
      rintro e w2 ⟨rfl, f2⟩
      have J2 := J.kept f2
      have hs2 := f2.size
      have hown := J2.own
      clear hcl
      go_wp2_with (at_builtin; refine wpList_append_own _ rfl _ _ 27 rfl w0.heap.size 9 i0 (.string ⟨#[]⟩) 1 16 Tryz.underlying27 hi hz0 hz1 hz2 rfl (by decide) _ _ _ rfl (hown.alloc _) ⟨w2.heap.size, 0, none⟩ 1 1 [.string (x.extract b x.size)] rfl rfl ?c1 ?c2 ?c3 ?c4 ?c5 ?_)
      case c1 =>
        intro j u hj
        rcases j with _ | j
        · simp at hj; subst hj; simp [Addr.add]
        · simp at hj
      case c2 => intro u hu; simp at hu; subst hu; rfl
      case c3 => unfold maxLen; omega
      case c4 => omega
      case c5 => simp; omega
      intro v' w3 hown' hgrow _
      have J3 := J2.grown hown' hgrow
      go_wp2
      go_ret
      refine ⟨v', rfl, ?_, f1.trans J3.fr⟩
      rw [← HR'.out]
      exact J3.strs

end Go.Proofs.YtakbfoegkjaphaaGreatDoor

namespace Go.Proofs.YtakbfoegkjaphaaGreatDoor
open Go.RowKit

set_option maxRecDepth 100000 in
set_option maxHeartbeats 400000 in
theorem swap_long (t wi x : ByteArray) (w : World) (h : 100 < wi.size ∨ 100 < x.size) (hm1 : wi.size ≤ maxLen) (hm2 : x.size ≤ maxLen) :
    Calls Tryz.prog 29 #[.string t, .string wi, .string x] w fun e w' => e = .returned (.tuple #[.string ⟨#[]⟩, .int .i64 1]) ∧ Fr [] w w' := by
  have f0 : Fr [] w (w.alloc (.cells #[.string wi, .string x] 9)) := (Fr.refl [] w).alloc _
  have hr := readFor_long t [wi, x] w.heap.size _ (texts2 w wi x 9) (by simp) (h.elim (fun h => ⟨wi, by simp, h⟩) (fun h => ⟨x, by simp, h⟩)) (by simp; exact ⟨hm1, hm2⟩)
  go_enter Tryz.func29, Tryz.ntmps29
  go_wp2_with fail
  refine hr.mono ?_
  clear hr
  generalize w.alloc (.cells #[.string wi, .string x] 9) = W at *
  rintro e w1 ⟨rfl, rfl⟩
  go_wp2
  go_ret2
  exact ⟨rfl, f0⟩

set_option maxRecDepth 100000 in
set_option maxHeartbeats 400000 in
theorem swap_plong (t wi x : ByteArray) (w : World) (hx : x.size ≤ 100) (hw : wi.size ≤ 100) (h : 50 < t.size) (hm : t.size ≤ maxLen) :
    Calls Tryz.prog 29 #[.string t, .string wi, .string x] w fun e w' => e = .returned (.tuple #[.string ⟨#[]⟩, .int .i64 1]) ∧ Fr [] w w' := by
  have f0 : Fr [] w (w.alloc (.cells #[.string wi, .string x] 9)) := (Fr.refl [] w).alloc _
  have hr := readFor_plong t [wi, x] w.heap.size _ (texts2 w wi x 9) (by simp) (by simp; exact ⟨hw, hx⟩) h hm
  go_enter Tryz.func29, Tryz.ntmps29
  go_wp2_with fail
  refine hr.mono ?_
  clear hr
  generalize w.alloc (.cells #[.string wi, .string x] 9) = W at *
  rintro e w1 ⟨rfl, rfl⟩
  go_wp2
  go_ret2
  exact ⟨rfl, f0⟩

set_option maxRecDepth 100000 in
set_option maxHeartbeats 400000 in
theorem swap_bad (t wi x : ByteArray) (w : World) (hx : x.size ≤ 100) (hw : wi.size ≤ 100) (ht : t.size ≤ 50) (hT : Tab w) (hok : readOk t = false) :
    Calls Tryz.prog 29 #[.string t, .string wi, .string x] w fun e w' => e = .returned (.tuple #[.string ⟨#[]⟩, .int .i64 2]) ∧ Fr [] w w' := by
  have f0 : Fr [] w (w.alloc (.cells #[.string wi, .string x] 9)) := (Fr.refl [] w).alloc _
  have hr := readFor_bad t [wi, x] w.heap.size _ (texts2 w wi x 9) (by simp) (by simp; exact ⟨hw, hx⟩) ht (hT.fr f0 (by simp)) hok
  go_enter Tryz.func29, Tryz.ntmps29
  go_wp2_with fail
  refine hr.mono ?_
  clear hr
  generalize w.alloc (.cells #[.string wi, .string x] 9) = W at *
  rintro e w1 ⟨rfl, f1⟩
  go_wp2
  go_ret2
  exact ⟨rfl, f0.trans f1⟩

set_option maxRecDepth 100000 in
set_option maxHeartbeats 400000 in
theorem swap_ok (t wi x : ByteArray) (w : World) (hx : x.size ≤ 100) (hw : wi.size ≤ 100) (ht : t.size ≤ 50) (hT : Tab w) (hok : readOk t = true) :
    Calls Tryz.prog 29 #[.string t, .string wi, .string x] w fun e w' => e = .returned (.tuple #[.string ⟨(swapL (endF (readF t).1 (readF t).2.tk (readF t).2.fo x) wi.data.toList x 0 (-1)).toArray⟩, .int .i64 0]) ∧ Fr [] w w' := by
  have f0 : Fr [] w (w.alloc (.cells #[.string wi, .string x] 9)) := (Fr.refl [] w).alloc _
  obtain ⟨b1, b2, b3⟩ := read_bounds t ht
  have hf := fun (pb : Nat) (w1 : World) (hP : PatAt w1 pb (whF (readF t).1) (readF t).2.tk (readF t).2.fo) (hT1 : Tab w1) => pswap_any pb _ _ _ wi x w1 hP hT1 b1 b2 b3 hx hw
  generalize swapL (endF (readF t).1 (readF t).2.tk (readF t).2.fo x) wi.data.toList x 0 (-1) = R at *
  have Hf : Hid _ := hf
  clear hf b1 b2 b3
  have hr := readFor_ok t [wi, x] w.heap.size _ (texts2 w wi x 9) (by simp) (by simp; exact ⟨hw, hx⟩) ht (hT.fr f0 (by simp)) hok
  go_enter Tryz.func29, Tryz.ntmps29
  go_wp2_with fail
  refine hr.mono ?_
  clear hr
  generalize w.alloc (.cells #[.string wi, .string x] 9) = W at *
  have hT1 := hT.fr f0 (by simp)
  rintro e w1 ⟨pb, rfl, _, hP, f1⟩
  have hf := Hf.out pb w1 hP (hT1.fr f1 (by simp))
  clear hP
  go_wp2_with fail
  refine hf.mono ?_
  rintro e w2 ⟨rfl, f2⟩
  go_wp2
  go_ret2
  exact ⟨rfl, (f0.trans f1).trans f2⟩

set_option maxRecDepth 100000 in
set_option maxHeartbeats 400000 in
theorem split_long (t x : ByteArray) (w : World) (hx : 100 < x.size) (hm : x.size ≤ maxLen) :
    Calls Tryz.prog 31 #[.string t, .string x] w fun e w' => e = .returned (.tuple #[.slice none 0 0, .int .i64 1]) ∧ Fr [] w w' := by
  have f0 : Fr [] w (w.alloc (.cells #[.string x] 9)) := (Fr.refl [] w).alloc _
  have hr := readFor_long t [x] w.heap.size _ (texts1 w x 9) (by simp) ⟨x, by simp, hx⟩ (by simpa using hm)
  go_enter Tryz.func31, Tryz.ntmps31
  go_wp2_with fail
  refine hr.mono ?_
  clear hr
  generalize w.alloc (.cells #[.string x] 9) = W at *
  rintro e w1 ⟨rfl, rfl⟩
  go_wp2
  go_ret2
  exact ⟨rfl, f0⟩

set_option maxRecDepth 100000 in
set_option maxHeartbeats 400000 in
theorem split_plong (t x : ByteArray) (w : World) (hx : x.size ≤ 100) (h : 50 < t.size) (hm : t.size ≤ maxLen) :
    Calls Tryz.prog 31 #[.string t, .string x] w fun e w' => e = .returned (.tuple #[.slice none 0 0, .int .i64 1]) ∧ Fr [] w w' := by
  have f0 : Fr [] w (w.alloc (.cells #[.string x] 9)) := (Fr.refl [] w).alloc _
  have hr := readFor_plong t [x] w.heap.size _ (texts1 w x 9) (by simp) (by simpa using hx) h hm
  go_enter Tryz.func31, Tryz.ntmps31
  go_wp2_with fail
  refine hr.mono ?_
  clear hr
  generalize w.alloc (.cells #[.string x] 9) = W at *
  rintro e w1 ⟨rfl, rfl⟩
  go_wp2
  go_ret2
  exact ⟨rfl, f0⟩

set_option maxRecDepth 100000 in
set_option maxHeartbeats 400000 in
theorem split_bad (t x : ByteArray) (w : World) (hx : x.size ≤ 100) (ht : t.size ≤ 50) (hT : Tab w) (hok : readOk t = false) :
    Calls Tryz.prog 31 #[.string t, .string x] w fun e w' => e = .returned (.tuple #[.slice none 0 0, .int .i64 2]) ∧ Fr [] w w' := by
  have f0 : Fr [] w (w.alloc (.cells #[.string x] 9)) := (Fr.refl [] w).alloc _
  have hr := readFor_bad t [x] w.heap.size _ (texts1 w x 9) (by simp) (by simpa using hx) ht (hT.fr f0 (by simp)) hok
  go_enter Tryz.func31, Tryz.ntmps31
  go_wp2_with fail
  refine hr.mono ?_
  clear hr
  generalize w.alloc (.cells #[.string x] 9) = W at *
  rintro e w1 ⟨rfl, f1⟩
  go_wp2
  go_ret2
  exact ⟨rfl, f0.trans f1⟩

/-- What Split is to answer. -/
def splitR (E : Nat → Int) (x : ByteArray) : List ByteArray := if x.size = 0 then [] else splitL E x 0 0

theorem psplit_all (pb : Nat) (q : Piece) (tk : Nat → Nat) (fo : Nat → Nat → Nat) (x : ByteArray) (w : World) (hP : PatAt w pb (whF q) tk fo) (hT : Tab w) (lq : PB 50 q) (ltk : ∀ b, tk b < 1125899906842624) (lfo : ∀ s a, fo s a < 18446744073709551616) (hx : x.size ≤ 100) :
    Calls Tryz.prog 68 #[.pointer (some ⟨pb, 0, none⟩), .string x] w fun e w' => ∃ v, e = .returned v ∧ StrsAt w' v (splitR (endF q tk fo x) x) ∧ Fr [] w w' := by
  unfold splitR
  by_cases h0 : x.size = 0
  · obtain rfl : x = ⟨#[]⟩ := ByteArray.ext (Array.eq_empty_of_size_eq_zero h0)
    refine (psplit_empty pb w).mono ?_
    rintro e w' ⟨rfl, rfl⟩
    exact ⟨_, rfl, .inl ⟨rfl, rfl⟩, Fr.refl _ _⟩
  · rw [if_neg h0]
    exact psplit_any pb q tk fo x w hP hT lq ltk lfo hx (by omega)

set_option maxRecDepth 100000 in
set_option maxHeartbeats 400000 in
theorem split_ok (t x : ByteArray) (w : World) (hx : x.size ≤ 100) (ht : t.size ≤ 50) (hT : Tab w) (hok : readOk t = true) :
    Calls Tryz.prog 31 #[.string t, .string x] w fun e w' => ∃ v, e = .returned (.tuple #[v, .int .i64 0]) ∧ StrsAt w' v (splitR (endF (readF t).1 (readF t).2.tk (readF t).2.fo x) x) ∧ Fr [] w w' := by
  have f0 : Fr [] w (w.alloc (.cells #[.string x] 9)) := (Fr.refl [] w).alloc _
  obtain ⟨b1, b2, b3⟩ := read_bounds t ht
  have hf := fun (pb : Nat) (w1 : World) (hP : PatAt w1 pb (whF (readF t).1) (readF t).2.tk (readF t).2.fo) (hT1 : Tab w1) => psplit_all pb _ _ _ x w1 hP hT1 b1 b2 b3 hx
  generalize splitR (endF (readF t).1 (readF t).2.tk (readF t).2.fo x) x = R at *
  have Hf : Hid _ := hf
  clear hf b1 b2 b3
  have hr := readFor_ok t [x] w.heap.size _ (texts1 w x 9) (by simp) (by simpa using hx) ht (hT.fr f0 (by simp)) hok
  go_enter Tryz.func31, Tryz.ntmps31
  go_wp2_with fail
  refine hr.mono ?_
  clear hr
  generalize w.alloc (.cells #[.string x] 9) = W at *
  have hT1 := hT.fr f0 (by simp)
  rintro e w1 ⟨pb, rfl, _, hP, f1⟩
  have hf := Hf.out pb w1 hP (hT1.fr f1 (by simp))
  clear hP
  go_wp2_with fail
  refine hf.mono ?_
  rintro e w2 ⟨v, rfl, st, f2⟩
  go_wp2
  go_ret2
  exact ⟨v, rfl, st, (f0.trans f1).trans f2⟩


end Go.Proofs.YtakbfoegkjaphaaGreatDoor

namespace Go.Proofs.YtakbfoegkjaphaaGreatDoor

variable {t : ByteArray}

theorem plain_fault {s : St} (h : s.fault = true) : (plainF t s).2.fault = true := by
  have e : skipF t s 92 = (false, s) := by unfold skipF; rw [if_neg (by rw [peek_fault' h]; decide)]
  unfold plainF
  rw [e, if_pos (peek_fault' h)]
  rfl
theorem plain_end {s : St} (h : peekF t s = -1) : (plainF t s).2.fault = true := by
  have e : skipF t s 92 = (false, s) := by unfold skipF; rw [if_neg (by rw [h]; decide)]
  unfold plainF
  rw [e, if_pos h]
  rfl
theorem takeOf_fault {s : St} (P : Nat → Bool) : (takeOfF s P).2.fault = s.fault := rfl
theorem take_fault {s : St} (a b : Int) : (takeF s a b).2.fault = s.fault := rfl
theorem need_fault {s : St} {b : Int} (hb : b ≠ -1) (h : s.fault = true) : (needF t s b).fault = true := by
  unfold needF
  rw [if_neg (by rw [peek_fault' h]; exact fun e => hb e.symm)]
  rfl
theorem skip_fault {s : St} {b : Int} (hb : b ≠ -1) (h : s.fault = true) : skipF t s b = (false, s) := by
  unfold skipF
  rw [if_neg (by rw [peek_fault' h]; exact fun e => hb e.symm)]
theorem bound_fault {s : St} {least : Int} (hl : 0 ≤ least) (h : s.fault = true) : (boundF t s least).2.fault = true := by
  unfold boundF
  rw [if_neg (by rw [peek_fault' h]; decide), skip_fault (by decide) h, if_pos (by rw [peek_fault' h]; omega)]
  rfl
theorem item_fault {s : St} (P : Nat → Bool) (h : s.fault = true) : (itemF t s P).2.fault = true := by
  have hb := bound_fault (t := t) (least := 0) (by decide) h
  unfold itemF
  rw [if_neg (fun e => by rw [peek_fault' hb] at e; exact absurd e.1 (by decide))]
  exact hb
theorem classL_fault : ∀ (n : Nat) (P : Nat → Bool) (s : St), s.fault = true → (classLF t n P s).2.fault = true
  | 0, P, s, h => h
  | n + 1, P, s, h => by rw [classLF, if_pos (.inl h)]; exact h
theorem class_fault (n : Nat) {s : St} (h : s.fault = true) : (classF t n s).2.fault = true := by
  unfold classF
  simp only
  rw [takeOf_fault, skip_fault (by decide) h]
  exact need_fault (by decide) (classL_fault n _ _ (item_fault _ h))

structure FaultAll (t : ByteArray) (n : Nat) : Prop where
  alt : ∀ s, s.fault = true → (altF t n s).2.fault = true
  altL : ∀ q s, s.fault = true → (altLF t n q s).2.fault = true
  seq : ∀ s, s.fault = true → (seqF t n s).2.fault = true
  seqL : ∀ q s, s.fault = true → (seqLF t n q s).2.fault = true
  part : ∀ s, s.fault = true → (partF t n s).2.fault = true
  partL : ∀ q s, s.fault = true → (partLF t n q s).2.fault = true
  atom : ∀ s, s.fault = true → (atomF t n s).2.fault = true

theorem faultAll (t : ByteArray) : ∀ n, FaultAll t n
  | 0 => ⟨fun _ h => h, fun _ _ h => h, fun _ h => h, fun _ _ h => h, fun _ h => h, fun _ _ h => h, fun _ h => h⟩
  | n + 1 => by
    have ih := faultAll t n
    refine ⟨fun s h => ?_, fun q s h => ?_, fun s h => ?_, fun q s h => ?_, fun s h => ?_, fun q s h => ?_, fun s h => ?_⟩
    · rw [altF_s]; exact ih.altL _ _ (ih.seq _ h)
    · rw [altLF_s, if_neg (by rw [peek_fault' h]; decide)]; exact h
    · rw [seqF_s]; exact ih.seqL _ _ h
    · rw [seqLF_s, if_pos (.inl (peek_fault' h))]; exact h
    · rw [partF_s]; exact ih.partL _ _ (ih.atom _ h)
    · rw [partLF_s, peek_fault' h, if_neg (by decide), if_neg (by decide), if_neg (by decide)]; exact h
    · rw [atomF_s, peek_fault' h, if_neg (by decide), if_neg (by decide), if_neg (by decide), if_neg (by decide), if_neg (by decide), take_fault]
      exact plain_fault h

theorem FaultAll.altL' {n : Nat} {q : Piece} {s : St} (h : (altLF t n q s).2.fault = false) : s.fault = false := by
  cases hf : s.fault with
  | false => rfl
  | true => rw [(faultAll t n).altL q s hf] at h; cases h
theorem FaultAll.seqL' {n : Nat} {q : Piece} {s : St} (h : (seqLF t n q s).2.fault = false) : s.fault = false := by
  cases hf : s.fault with
  | false => rfl
  | true => rw [(faultAll t n).seqL q s hf] at h; cases h
theorem FaultAll.partL' {n : Nat} {q : Piece} {s : St} (h : (partLF t n q s).2.fault = false) : s.fault = false := by
  cases hf : s.fault with
  | false => rfl
  | true => rw [(faultAll t n).partL q s hf] at h; cases h
theorem FaultAll.atom' {n : Nat} {s : St} (h : (atomF t n s).2.fault = false) : s.fault = false := by
  cases hf : s.fault with
  | false => rfl
  | true => rw [(faultAll t n).atom s hf] at h; cases h
theorem FaultAll.alt' {n : Nat} {s : St} (h : (altF t n s).2.fault = false) : s.fault = false := by
  cases hf : s.fault with
  | false => rfl
  | true => rw [(faultAll t n).alt s hf] at h; cases h
theorem FaultAll.seq' {n : Nat} {s : St} (h : (seqF t n s).2.fault = false) : s.fault = false := by
  cases hf : s.fault with
  | false => rfl
  | true => rw [(faultAll t n).seq s hf] at h; cases h
theorem FaultAll.part' {n : Nat} {s : St} (h : (partF t n s).2.fault = false) : s.fault = false := by
  cases hf : s.fault with
  | false => rfl
  | true => rw [(faultAll t n).part s hf] at h; cases h

/-! a greater bound -/
theorem classL_more : ∀ (n : Nat) (P : Nat → Bool) (s : St), (s.fault = true ∨ t.size - s.pos < n) → s.pos ≤ t.size → classLF t (n + 1) P s = classLF t n P s
  | 0, P, s, h, hp => by
    have hf := h.elim id (fun h => by omega)
    rw [show classLF t (0 + 1) P s = if s.fault = true ∨ peekF t s = 93 then (P, s) else classLF t 0 (itemF t s P).1 (itemF t s P).2 from rfl, if_pos (.inl hf)]
    rfl
  | n + 1, P, s, h, hp => by
    rw [show classLF t (n + 1 + 1) P s = if s.fault = true ∨ peekF t s = 93 then (P, s) else classLF t (n + 1) (itemF t s P).1 (itemF t s P).2 from rfl, show classLF t (n + 1) P s = if s.fault = true ∨ peekF t s = 93 then (P, s) else classLF t n (itemF t s P).1 (itemF t s P).2 from rfl]
    by_cases hc : s.fault = true ∨ peekF t s = 93
    · rw [if_pos hc, if_pos hc]
    · rw [if_neg hc, if_neg hc]
      have hn := item_near (t := t) s P
      refine classL_more n _ _ ?_ (hn.pos hp)
      rcases item_prog (t := t) s P with e | e
      · exact .inl e
      · right
        have := h.elim (fun e => absurd (Or.inl e) hc) id
        have := hn.pos hp
        omega
theorem class_more (n : Nat) (s : St) (h : t.size - s.pos < n) (hp : s.pos ≤ t.size) : classF t (n + 1) s = classF t n s := by
  unfold classF
  simp only
  have n1 := skip_near (t := t) s 94 (by decide)
  have n2 := item_near (t := t) (skipF t s 94).2 (fun _ => false)
  have := n1.le
  have := n2.le
  rw [classL_more n _ _ (.inr (by omega)) (n2.pos (n1.pos hp))]

structure MoreAll (t : ByteArray) (n : Nat) : Prop where
  alt : ∀ s, Inv t s → 6 * (t.size - s.pos) + 3 ≤ n → altF t (n + 1) s = altF t n s
  altL : ∀ q s, Inv t s → PB s.atoms q → 6 * (t.size - s.pos) + 2 ≤ n → altLF t (n + 1) q s = altLF t n q s
  seq : ∀ s, Inv t s → 6 * (t.size - s.pos) + 2 ≤ n → seqF t (n + 1) s = seqF t n s
  seqL : ∀ q s, Inv t s → PB s.atoms q → 6 * (t.size - s.pos) + 1 ≤ n → seqLF t (n + 1) q s = seqLF t n q s
  part : ∀ s, Inv t s → peekF t s ≠ -1 → 6 * (t.size - s.pos) ≤ n + 1 → partF t (n + 1) s = partF t n s
  partL : ∀ q s, Inv t s → PB s.atoms q → 6 * (t.size - s.pos) + 1 ≤ n → partLF t (n + 1) q s = partLF t n q s
  atom : ∀ s, Inv t s → peekF t s ≠ -1 → 6 * (t.size - s.pos) ≤ n + 2 → atomF t (n + 1) s = atomF t n s

theorem moreAll (t : ByteArray) : ∀ n, MoreAll t n
  | 0 => ⟨fun _ _ h => by omega, fun _ _ _ _ h => by omega, fun _ _ h => by omega, fun _ _ _ _ h => by omega, fun s hi hp h => by have := (peek_ne hp).2; omega, fun _ _ _ _ h => by omega, fun s hi hp h => by have := (peek_ne hp).2; omega⟩
  | n + 1 => by
    have ih := moreAll t n
    have gv := givesAll t n
    refine ⟨fun s hi h => ?_, fun q s hi hq h => ?_, fun s hi h => ?_, fun q s hi hq h => ?_, fun s hi hp h => ?_, fun q s hi hq h => ?_, fun s hi hp h => ?_⟩
    · rw [altF_s t (n + 1) s, altF_s t n s, ih.seq s hi (by omega)]
      have g := gv.seq s hi
      have := g.le
      exact ih.altL _ _ g.inv g.pb (by omega)
    · rw [altLF_s t (n + 1) q s, altLF_s t n q s]
      by_cases hc : peekF t s = 124
      · have hp : peekF t s ≠ -1 := by rw [hc]; decide
        have hl := (peek_ne hp).2
        have ha := hi.adv hp
        have e1 : (advF s).pos = s.pos + 1 := rfl
        rw [if_pos hc, if_pos hc, ih.seq _ ha (by omega)]
        have g := gv.seq _ ha
        have := g.le
        exact ih.altL _ _ g.inv ((hq.mono g.al).either g.pb) (by omega)
      · rw [if_neg hc, if_neg hc]
    · rw [seqF_s t (n + 1) s, seqF_s t n s]
      exact ih.seqL _ _ hi (PB.nothing _) (by omega)
    · rw [seqLF_s t (n + 1) q s, seqLF_s t n q s]
      by_cases hc : peekF t s = -1 ∨ peekF t s = 41 ∨ peekF t s = 124 ∨ peekF t s = 42 ∨ peekF t s = 43 ∨ peekF t s = 63
      · rw [if_pos hc, if_pos hc]
      · have hp : peekF t s ≠ -1 := fun e => hc (.inl e)
        have hl := (peek_ne hp).2
        rw [if_neg hc, if_neg hc, ih.part s hi hp (by omega)]
        have g := gv.part s hi hp
        obtain ⟨m, rfl⟩ : ∃ m, n = m + 2 := ⟨n - 2, by omega⟩
        have hpr := part_prog (n := m) hi hp
        refine ih.seqL _ _ (g.inv.tie g.pb) ((hq.mono g.al).join g.pb) ?_
        show 6 * (t.size - (partF t (m + 2) s).2.pos) + 1 ≤ m + 2
        omega
    · have hl := (peek_ne hp).2
      rw [partF_s t (n + 1) s, partF_s t n s, ih.atom s hi hp (by omega)]
      have g := gv.atom s hi hp
      obtain ⟨m, rfl⟩ : ∃ m, n = m + 1 := ⟨n - 1, by omega⟩
      have hpr := atom_prog (n := m) hi hp
      exact ih.partL _ _ g.inv g.pb (by omega)
    · rw [partLF_s t (n + 1) q s, partLF_s t n q s]
      by_cases c1 : peekF t s = 42
      · have hl := (peek_ne (t := t) (s := s) (by rw [c1]; decide)).2
        rw [if_pos c1, if_pos c1]
        have hi2 := hi.tie (q := q) hq
        have ha := hi2.adv (s := { s with fo := tieP s.fo q q }) (by rw [peek_tie, c1]; decide)
        refine ih.partL _ _ ha (hq.either (PB.nothing _)) ?_
        show 6 * (t.size - (s.pos + 1)) + 1 ≤ n
        omega
      · rw [if_neg c1, if_neg c1]
        by_cases c2 : peekF t s = 43
        · have hl := (peek_ne (t := t) (s := s) (by rw [c2]; decide)).2
          rw [if_pos c2, if_pos c2]
          have hi2 := hi.tie (q := q) hq
          have ha := hi2.adv (s := { s with fo := tieP s.fo q q }) (by rw [peek_tie, c2]; decide)
          refine ih.partL _ _ ha hq ?_
          show 6 * (t.size - (s.pos + 1)) + 1 ≤ n
          omega
        · rw [if_neg c2, if_neg c2]
          by_cases c3 : peekF t s = 63
          · have hl := (peek_ne (t := t) (s := s) (by rw [c3]; decide)).2
            rw [if_pos c3, if_pos c3]
            have ha := hi.adv (by rw [c3]; decide)
            refine ih.partL _ _ ha (hq.either (PB.nothing _)) ?_
            show 6 * (t.size - (s.pos + 1)) + 1 ≤ n
            omega
          · rw [if_neg c3, if_neg c3]
    · have hl := (peek_ne hp).2
      have ha := hi.adv hp
      rw [atomF_s t (n + 1) s, atomF_s t n s, ih.alt _ ha (by show 6 * (t.size - (s.pos + 1)) + 3 ≤ n; omega), class_more n _ (by show t.size - (s.pos + 1) < n; omega) ha.pos]

/-- The bound that Read takes may be any that is great enough. -/
theorem alt_fuel {s : St} (hi : Inv t s) (n : Nat) (hn : 6 * (t.size - s.pos) + 3 ≤ n) : ∀ d, altF t (n + d) s = altF t n s
  | 0 => rfl
  | d + 1 => by rw [← Nat.add_assoc, (moreAll t (n + d)).alt s hi (by omega), alt_fuel hi n hn d]
theorem alt_fuel' {s : St} (hi : Inv t s) (n m : Nat) (hn : 6 * (t.size - s.pos) + 3 ≤ n) (hm : 6 * (t.size - s.pos) + 3 ≤ m) : altF t n s = altF t m s := by
  rcases Nat.le_total n m with h | h
  · obtain ⟨d, rfl⟩ := Nat.exists_eq_add_of_le h
    exact (alt_fuel hi n hn d).symm
  · obtain ⟨d, rfl⟩ := Nat.exists_eq_add_of_le h
    exact alt_fuel hi m hm d

end Go.Proofs.YtakbfoegkjaphaaGreatDoor

