/-
  Swap, of a pattern.
-/
import Derived.Test.YticaoekmlaipnaaDoorXc
set_option linter.unusedSimpArgs false
set_option linter.unusedVariables false
namespace Go.Proofs.YticaoekmlaipnaaDoor
open Go.RowKit

/-- The byte at a place, as a list. -/
def atL (x : ByteArray) (k : Nat) : List UInt8 := if h : k < x.size then [x[k]] else []

/-- What Swap lays down from the place k on, where E tells the ends; sw: where the last match ended that was swapped and not empty. The first number is a bound on the steps. -/
def swapG (E : Nat → Int) (wi : List UInt8) (x : ByteArray) : Nat → Nat → Int → List UInt8
  | 0, _, _ => []
  | f + 1, k, sw =>
    if k ≤ x.size then
      if (k : Int) < E k then wi ++ swapG E wi x f (E k).toNat (E k)
      else (if E k = k ∧ sw ≠ k then wi else []) ++ (atL x k ++ swapG E wi x f (k + 1) sw)
    else []
theorem swapG_s (E : Nat → Int) (wi : List UInt8) (x : ByteArray) (f k : Nat) (sw : Int) : swapG E wi x (f + 1) k sw =
    if k ≤ x.size then
      if (k : Int) < E k then wi ++ swapG E wi x f (E k).toNat (E k)
      else (if E k = k ∧ sw ≠ k then wi else []) ++ (atL x k ++ swapG E wi x f (k + 1) sw)
    else [] := rfl
theorem swapG_more (E : Nat → Int) (wi : List UInt8) (x : ByteArray) : ∀ f k sw, x.size + 1 - k ≤ f → swapG E wi x (f + 1) k sw = swapG E wi x f k sw
  | 0, k, sw, h => by rw [swapG_s E wi x 0 k sw, if_neg (by omega)]; rfl
  | f + 1, k, sw, h => by
    rw [swapG_s E wi x (f + 1) k sw, swapG_s E wi x f k sw]
    by_cases hk : k ≤ x.size
    · rw [if_pos hk, if_pos hk]
      by_cases hE : (k : Int) < E k
      · rw [if_pos hE, if_pos hE, swapG_more E wi x f _ _ (by omega)]
      · rw [if_neg hE, if_neg hE, swapG_more E wi x f _ _ (by omega)]
    · rw [if_neg hk, if_neg hk]
theorem swapG_enough (E : Nat → Int) (wi : List UInt8) (x : ByteArray) (k : Nat) (sw : Int) : ∀ d, swapG E wi x (x.size + 1 - k + d) k sw = swapG E wi x (x.size + 1 - k) k sw
  | 0 => rfl
  | d + 1 => by rw [← Nat.add_assoc, swapG_more _ _ _ _ _ _ (by omega), swapG_enough E wi x k sw d]
def swapL (E : Nat → Int) (wi : List UInt8) (x : ByteArray) (k : Nat) (sw : Int) : List UInt8 := swapG E wi x (x.size + 1 - k) k sw
theorem swapL_eq (E : Nat → Int) (wi : List UInt8) (x : ByteArray) (k : Nat) (sw : Int) : swapL E wi x k sw =
    if k ≤ x.size then
      if (k : Int) < E k then wi ++ swapL E wi x (E k).toNat (E k)
      else (if E k = k ∧ sw ≠ k then wi else []) ++ (atL x k ++ swapL E wi x (k + 1) sw)
    else [] := by
  by_cases hk : k ≤ x.size
  · rw [if_pos hk]
    unfold swapL
    rw [show x.size + 1 - k = (x.size + 1 - (k + 1)) + 1 by omega, swapG_s, if_pos hk]
    by_cases hE : (k : Int) < E k
    · rw [if_pos hE, if_pos hE, show x.size + 1 - (k + 1) = x.size + 1 - (E k).toNat + (x.size + 1 - (k + 1) - (x.size + 1 - (E k).toNat)) by omega, swapG_enough]
    · rw [if_neg hE, if_neg hE]
  · rw [if_neg hk]
    unfold swapL
    rw [show x.size + 1 - k = 0 by omega]
    rfl

structure SwapI (w : World) (b eb : Nat) (E : Nat → Int) (x : ByteArray) (l : List UInt8) (W : World) : Prop where
  bui : Lib.IsBuilderF 84 5 b b (Lib.byteCells l) W
  ec : ∀ j, j ≤ x.size → W.cell? ⟨eb, j, none⟩ = some (.int .i64 (E j))
  tg : Tagged W eb 3
  low : Below b w W
  ne : eb ≠ b
  bl : b ≤ W.heap.size

theorem byteCells_append (l l' : List UInt8) : Lib.byteCells (l ++ l') = Lib.byteCells l ++ Lib.byteCells l' := by simp [Lib.byteCells]
theorem strCells_eq (s : ByteArray) : Lib.strCells s = Lib.byteCells s.data.toList := rfl

theorem SwapI.wrote {w : World} {b eb : Nat} {E : Nat → Int} {x : ByteArray} {l l' : List UInt8} {W W' : World} (h : SwapI w b eb E x l W) (k : Wrote b (Lib.byteCells l ++ Lib.byteCells l') W W') : SwapI w b eb E x (l ++ l') W' := by
  obtain ⟨c, fz, hb⟩ := h.tg
  have e : W'.heap[eb]? = W.heap[eb]? := by
    rw [hb]
    exact k.oth eb _ hb (by simpa using h.ne) (fun c' fz' e => by cases e)
  refine ⟨by rw [byteCells_append]; exact .inr k.bui, fun j hj => ?_, h.tg.of_block e, h.low.trans k.low, h.ne, Nat.le_trans h.bl k.low.size⟩
  rw [← h.ec j hj]
  unfold World.cell?
  rw [e]

theorem below_fr {w W : World} (h : Below w.heap.size w W) : Fr [] w W := ⟨h.os, h.tape, h.output, h.size, fun k hk _ => h.block k hk⟩
theorem byteCells_len (l : List UInt8) : (Lib.byteCells l).length = l.length := by simp [Lib.byteCells]

set_option maxRecDepth 100000 in
set_option maxHeartbeats 2000000 in
theorem pswap_any (pb : Nat) (q : Piece) (tk : Nat → Nat) (fo : Nat → Nat → Nat) (wi x : ByteArray) (w : World) (hP : PatAt w pb (whF q) tk fo) (hT : Tab w) (lq : PB 50 q) (ltk : ∀ b, tk b < 1125899906842624) (lfo : ∀ s a, fo s a < 18446744073709551616) (hx : x.size ≤ 100) (hw : wi.size ≤ 100) :
    Calls Tryd.prog 29 #[.pointer (some ⟨pb, 0, none⟩), .string wi, .string x] w fun e w' => e = .returned (.string ⟨(swapL (endF q tk fo x) wi.data.toList x 0 (-1)).toArray⟩) ∧ Fr [] w w' := by
  have f0 : Fr [] w (w.alloc (.cells #[.pointer none, .slice none 0 0] 84)) := (Fr.refl [] w).alloc _
  have hen := ends_any pb q tk fo x _ (hP.fr f0 (by simp)) (hT.fr f0 (by simp)) lq ltk lfo hx
  have hle := endF_le q tk fo x
  have hbk := World.alloc_heap_new w (.cells #[.pointer none, .slice none 0 0] 84)
  have hbs : (w.alloc (.cells #[.pointer none, .slice none 0 0] 84)).heap.size = w.heap.size + 1 := World.size_alloc _ _
  unfold EndsAt at hen
  generalize endF q tk fo x = E at *
  have hwl : wi.data.toList.length = wi.size := by cases wi; rfl
  obtain ⟨R, hR⟩ : ∃ R, swapL E wi.data.toList x 0 (-1) = R := ⟨_, rfl⟩
  rw [hR]
  have HR : Hid (_ = R) := hR
  have Hle : Hid _ := hle
  clear hR hle hP hT
  go_enter Tryd.func29, Tryd.ntmps29
  go_wp2_with fail
  refine hen.mono ?_
  rintro e w1 ⟨eb, rfl, ⟨heb, htg, hc⟩, f1⟩
  clear hen
  have J0 : SwapI w w.heap.size eb E x [] w1 := by
    have hb1 : w1.heap[w.heap.size]? = some (.cells #[.pointer none, .slice none 0 0] 84 (0, 0)) := by
      rw [f1.block _ (by omega) (by simp)]; exact hbk
    exact ⟨.inl ⟨Nat.le_refl _, _, hb1, World.ownsRowF_nil _ _ _ _, by simp [Value.ownBlock]⟩, hc, htg,
      ⟨f1.os.trans f0.os, f1.tape.trans f0.tape, f1.output.trans f0.output, Nat.le_trans f0.size f1.size, fun k hk => (f1.block k (by omega) (by simp)).trans (f0.block k hk (by simp))⟩, by omega, by have := f1.size; omega⟩
  have Hfin : Hid (∀ W, Below w.heap.size w W → Fr [] w W) := fun W h => below_fr h
  generalize w.heap.size = b at *
  clear hc htg hbk f0 f1
  go_wp2
  go_loopw [9, 10] (fun sw pl wr => ∃ (k : Nat) (sv : Int) (l : List UInt8), k ≤ x.size + 1 ∧ l.length ≤ 101 * k ∧ sw = .int .i64 sv ∧ pl = .int .i64 k ∧ Hid (l ++ swapL E wi.data.toList x k sv = R) ∧ SwapI w b eb E x l wr) (fun _ pl _ => x.size + 1 - (intOf pl).toNat)
  case atStart => exact ⟨0, -1, [], by omega, by simp, rfl, rfl, HR, J0⟩
  case round =>
    clear J0
    obtain ⟨k, sv, l, hk, hl, rfl, rfl, hR, J⟩ := hrel
    have hbl := J.bl
    have hR' := hR.out
    rw [swapL_eq] at hR'
    have hbc := byteCells_len l
    by_cases hlt : k ≤ x.size
    · have g1 : (k : Int) ≤ x.size := by omega
      have g2 : (k : Int) < (x.size : Int) + 1 := by omega
      have c1 := J.ec k hlt
      obtain ⟨hb1, hb2⟩ := Hle.out k
      rw [if_pos hlt] at hR'
      by_cases hE : (k : Int) < E k
      · rw [if_pos hE, ← List.append_assoc] at hR'
        have HR' : Hid _ := hR'
        clear hR'
        have hws := writeString_any b _ wi wr J.bui (by omega) (by omega) hbl
        have hE0 : ((E k).toNat : Int) = E k := by omega
        go_wp2_with fail
        refine hws.mono ?_
        rintro e w2 ⟨rfl, wr2⟩
        have J2 := J.wrote (l' := wi.data.toList) wr2
        have c2 := J2.ec k hlt
        go_wp2
        exact ⟨⟨(E k).toNat, E k, l ++ wi.data.toList, by omega, by rw [List.length_append, hwl]; omega, rfl, by rw [hE0], HR', J2⟩, by simp [intOf]; omega⟩
      · rw [if_neg hE] at hR'
        by_cases hsw : E k = k ∧ sv ≠ k
        · rw [if_pos hsw, ← List.append_assoc] at hR'
          have e1 : (E k == (k : Int)) = true := by simp [hsw.1]
          have e2 : (sv != (k : Int)) = true := by simp [hsw.2]
          have hws := writeString_any b _ wi wr J.bui (by omega) (by omega) hbl
          by_cases hks : k < x.size
          · have g3 : (k : Int) < x.size := by omega
            have ea : atL x k = [x[k]] := by unfold atL; rw [dif_pos hks]
            rw [ea, ← List.append_assoc] at hR'
            have HR' : Hid _ := hR'
            clear hR' hsw ea
            go_wp2_with fail
            refine hws.mono ?_
            rintro e w2 ⟨rfl, wr2⟩
            have J2 := J.wrote (l' := wi.data.toList) wr2
            have hwb := writeByte_any b _ (x[k].toNat : Int) w2 J2.bui (by rw [byteCells_len, List.length_append, hwl]; omega) J2.bl
            clear hws wr2
            go_wp2_with fail
            refine hwb.mono ?_
            rintro e w3 ⟨rfl, wr3⟩
            have J3 := J2.wrote (l' := [x[k]]) wr3
            go_wp2
            exact ⟨⟨k + 1, sv, (l ++ wi.data.toList) ++ [x[k]], by omega, by rw [List.length_append, List.length_append, hwl]; simp; omega, rfl, by go_num, HR', J3⟩, by simp [intOf]; omega⟩
          · have g3 : ¬ ((k : Int) < x.size) := by omega
            have ea : atL x k = [] := by unfold atL; rw [dif_neg hks]
            rw [ea, List.nil_append] at hR'
            have HR' : Hid _ := hR'
            clear hR' hsw ea
            go_wp2_with fail
            refine hws.mono ?_
            rintro e w2 ⟨rfl, wr2⟩
            have J2 := J.wrote (l' := wi.data.toList) wr2
            clear hws wr2
            go_wp2
            exact ⟨⟨k + 1, sv, l ++ wi.data.toList, by omega, by rw [List.length_append, hwl]; omega, rfl, by go_num, HR', J2⟩, by simp [intOf]; omega⟩
        · rw [if_neg hsw, List.nil_append] at hR'
          by_cases hks : k < x.size
          · have g3 : (k : Int) < x.size := by omega
            have ea : atL x k = [x[k]] := by unfold atL; rw [dif_pos hks]
            rw [ea, ← List.append_assoc] at hR'
            have HR' : Hid _ := hR'
            clear hR' ea
            have hwb := writeByte_any b _ (x[k].toNat : Int) wr J.bui (by omega) J.bl
            by_cases hek : E k = k
            · have hsv : sv = k := Classical.byContradiction fun hh => hsw ⟨hek, hh⟩
              have e1 : (E k == (k : Int)) = true := by simp [hek]
              have e2 : (sv != (k : Int)) = false := by simp [hsv]
              clear hsw hek hsv
              go_wp2_with fail
              refine hwb.mono ?_
              rintro e w3 ⟨rfl, wr3⟩
              have J3 := J.wrote (l' := [x[k]]) wr3
              go_wp2
              exact ⟨⟨k + 1, sv, l ++ [x[k]], by omega, by rw [List.length_append]; simp; omega, rfl, by go_num, HR', J3⟩, by simp [intOf]; omega⟩
            · have e1 : (E k == (k : Int)) = false := by simp [hek]
              clear hsw hek
              go_wp2_with fail
              refine hwb.mono ?_
              rintro e w3 ⟨rfl, wr3⟩
              have J3 := J.wrote (l' := [x[k]]) wr3
              go_wp2
              exact ⟨⟨k + 1, sv, l ++ [x[k]], by omega, by rw [List.length_append]; simp; omega, rfl, by go_num, HR', J3⟩, by simp [intOf]; omega⟩
          · have g3 : ¬ ((k : Int) < x.size) := by omega
            have ea : atL x k = [] := by unfold atL; rw [dif_neg hks]
            rw [ea, List.nil_append] at hR'
            have HR' : Hid _ := hR'
            clear hR' ea
            by_cases hek : E k = k
            · have hsv : sv = k := Classical.byContradiction fun hh => hsw ⟨hek, hh⟩
              have e1 : (E k == (k : Int)) = true := by simp [hek]
              have e2 : (sv != (k : Int)) = false := by simp [hsv]
              clear hsw hek hsv
              go_wp2
              exact ⟨⟨k + 1, sv, l, by omega, by omega, rfl, by go_num, HR', J⟩, by simp [intOf]; omega⟩
            · have e1 : (E k == (k : Int)) = false := by simp [hek]
              clear hsw hek
              go_wp2
              exact ⟨⟨k + 1, sv, l, by omega, by omega, rfl, by go_num, HR', J⟩, by simp [intOf]; omega⟩
    · have g1 : ¬ ((k : Int) ≤ x.size) := by omega
      rw [if_neg hlt, List.append_nil] at hR'
      have HR' : Hid _ := hR'
      clear hR'
      have hst := Tryd.Builder_String_any_k b b l wr J.bui hbl
      have hlow := J.low
      go_wp2_with fail
      refine hst.mono ?_
      rintro e w2 ⟨rfl, _, lo2, _⟩
      go_wp2
      go_ret
      rw [← HR'.out]
      exact ⟨rfl, Hfin.out _ (hlow.trans lo2)⟩

end Go.Proofs.YticaoekmlaipnaaDoor
