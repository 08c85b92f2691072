import Derived.Lib.FieldsP
import Derived.Test.YtmolfmgchbjnbaaGreatDoorM31
set_option linter.unusedSimpArgs false
set_option linter.unusedVariables false
namespace Go.Proofs.YtmolfmgchbjnbaaGreatDoor
open Go.RowKit
open Wire Flow Mach
theorem get_bang {s : ByteArray} {i : Nat} (h : i < s.size) : s.get! i = s[i] := by
 have := get_at s i h
 rwa [Nat.add_zero] at this
theorem decode_span {s : ByteArray} {i : Nat} (h : i < s.size) (hb : 128 ≤ (s.get! i).toNat) : i + (Utf8.decode s i).2 ≤ s.size ∧ ∀ k, k < (Utf8.decode s i).2 → 128 ≤ (s.get! (i + k)).toNat := by
 have hn : ¬ (s.get! (i + 0)).toNat < 0x80 := by rw [Nat.add_zero]; omega
 have h0 : ∀ k, k < 1 → 128 ≤ (s.get! (i + k)).toNat := fun k hk => by
  have : k = 0 := by omega
  subst this
  rw [Nat.add_zero]; exact hb
 unfold Utf8.decode
 simp only [if_neg hn]
 split
 ·rename_i c1
  simp only [Bool.and_eq_true, decide_eq_true_eq, beq_iff_eq] at c1
  split
  ·refine ⟨by omega, fun k hk => ?_⟩
   rcases (by omega : k = 0 ∨ k = 1) with rfl | rfl
   ·exact h0 0 (by omega)
   ·omega
  ·exact ⟨by omega, h0⟩
 ·split
  ·rename_i c1
   simp only [Bool.and_eq_true, decide_eq_true_eq, beq_iff_eq] at c1
   split
   ·refine ⟨by omega, fun k hk => ?_⟩
    rcases (by omega : k = 0 ∨ k = 1 ∨ k = 2) with rfl | rfl | rfl
    ·exact h0 0 (by omega)
    ·omega
    ·omega
   ·exact ⟨by omega, h0⟩
  ·split
   ·rename_i c1
    simp only [Bool.and_eq_true, decide_eq_true_eq, beq_iff_eq] at c1
    split
    ·refine ⟨by omega, fun k hk => ?_⟩
     rcases (by omega : k = 0 ∨ k = 1 ∨ k = 2 ∨ k = 3) with rfl | rfl | rfl | rfl
     ·exact h0 0 (by omega)
     ·omega
     ·omega
     ·omega
    ·exact ⟨by omega, h0⟩
   ·exact ⟨by omega, h0⟩
theorem fieldsL_skip (u : List UInt8) : ∀ (f l : List UInt8), (∀ c ∈ u, blankB c = false) → fieldsL f (u ++ l) = fieldsL (f ++ u) l := by
 induction u with
 | nil => intro f l _; simp
 | cons a u ih =>
  intro f l hu
  have ha := hu a (by simp)
  rw [List.cons_append, fieldsL, if_neg (by rw [ha]; simp), ih _ _ (fun c hc => hu c (by simp [hc]))]
  simp
def seg (s : ByteArray) (a b : Nat) : List UInt8 := ((bl s).drop a).take (b - a)
theorem seg_extract (s : ByteArray) (a b : Nat) : s.extract a b = ⟨(seg s a b).toArray⟩ := by
 apply ByteArray.ext
 rw [ByteArray.data_extract]
 apply Array.toList_inj.1
 rw [Array.toList_extract]
 show _ = seg s a b
 unfold seg bl
 rw [List.extract_eq_take_drop]
theorem seg_join (s : ByteArray) {a b c : Nat} (h1 : a ≤ b) (h2 : b ≤ c) : seg s a b ++ seg s b c = seg s a c := by
 unfold seg
 rw [show c - a = (b - a) + (c - b) by omega, List.take_add, List.drop_drop, show a + (b - a) = b by omega]
theorem seg_drop (s : ByteArray) {b c : Nat} (h : b ≤ c) : (bl s).drop b = seg s b c ++ (bl s).drop c := by
 unfold seg
 rw [show (bl s).drop c = ((bl s).drop b).drop (c - b) by rw [List.drop_drop, show b + (c - b) = c by omega], List.take_append_drop]
theorem seg_ne (s : ByteArray) {a b : Nat} (h1 : a < b) (h2 : b ≤ s.size) : seg s a b ≠ [] := by
 intro h
 have := congrArg List.length h
 unfold seg at this
 rw [List.length_take, List.length_drop, bl_length] at this
 simp at this
 omega
theorem seg_mem (s : ByteArray) {a b : Nat} {c : UInt8} (hb : b ≤ s.size) (h : c ∈ seg s a b) : ∃ k, k < b - a ∧ c = s.get! (a + k) := by
 obtain ⟨k, hk, e⟩ := List.mem_iff_getElem.1 h
 have hl : k < b - a ∧ a + k < s.size := by
  unfold seg at hk
  rw [List.length_take, List.length_drop, bl_length] at hk
  omega
 refine ⟨k, hl.1, ?_⟩
 rw [get_bang hl.2, ← e]
 simp [seg, bl]
 rfl
theorem seg_one (s : ByteArray) {a : Nat} (h : a < s.size) : seg s a (a + 1) = [s.get! a] := by
 have hne := seg_ne s (Nat.lt_succ_self a) h
 have hl : (seg s a (a + 1)).length ≤ 1 := by
  unfold seg
  rw [List.length_take]
  omega
 rcases hq : seg s a (a + 1) with _ | ⟨c, _ | ⟨d, q⟩⟩
 ·exact absurd hq hne
 ·obtain ⟨k, hk, e⟩ := seg_mem s (a := a) (b := a + 1) (c := c) h (by rw [hq]; simp)
  have : k = 0 := by omega
  rw [e, this, Nat.add_zero]
 ·rw [hq] at hl
  simp at hl
theorem blank_eq (c : UInt8) : blankR c.toNat = blankB c := by
 unfold blankR blankB
 have e := fun (d : UInt8) => UInt8.toNat_inj (a := c) (b := d)
 rw [Bool.eq_iff_iff]
 simp only [decide_eq_true_eq, Bool.or_eq_true, beq_iff_eq]
 rw [← e 32, ← e 9, ← e 10]
 constructor
 ·rintro (h | h | h)
  ·exact .inl (.inl h)
  ·exact .inl (.inr h)
  ·exact .inr h
 ·rintro ((h | h) | h)
  ·exact .inl h
  ·exact .inr (.inl h)
  ·exact .inr (.inr h)
abbrev opn (s : ByteArray) (st : Option Nat) (pos : Nat) : List UInt8 := match st with | none => [] | some a => seg s a pos
theorem close_end (s : ByteArray) (st : Option Nat) (acc : List (Nat × Nat)) (hst : ∀ a, st = some a → a < s.size) :
  (Lib.closeSpans s (acc, st)).map (fun x => s.extract x.1 x.2) = acc.map (fun x => s.extract x.1 x.2) ++ fieldsL (opn s st s.size) [] := by
 cases st with
 | none => simp [Lib.closeSpans, fieldsL, opn]
 | some a =>
  have := seg_ne s (hst a rfl) (Nat.le_refl _)
  simp [Lib.closeSpans, fieldsL, opn, this, seg_extract]
theorem spans_eq (s : ByteArray) : ∀ (f pos : Nat) (st : Option Nat) (acc : List (Nat × Nat)), s.size - pos ≤ f → pos ≤ s.size → (∀ a, st = some a → a < pos) →
    (Lib.closeSpans s (Lib.spansFromP blankR s f pos st acc)).map (fun x => s.extract x.1 x.2) = acc.map (fun x => s.extract x.1 x.2) ++ fieldsL (opn s st pos) ((bl s).drop pos) := by
  intro f
  induction f with
  | zero =>
    intro pos st acc h1 h2 h3
    have : pos = s.size := by omega
    subst this
    rw [List.drop_eq_nil_of_le (by rw [bl_length]; exact Nat.le_refl _)]
    exact close_end s st acc h3
  | succ f ih =>
    intro pos st acc h1 h2 h3
    rcases Nat.lt_or_ge pos s.size with c | c
    · unfold Lib.spansFromP
      rw [if_pos c]
      rcases hb : blankR (Utf8.decode s pos).1 with _ | _
      · -- no blank
        obtain ⟨hn1, hn2, hn3⟩ : 1 ≤ (Utf8.decode s pos).2 ∧ pos + (Utf8.decode s pos).2 ≤ s.size ∧ ∀ c ∈ seg s pos (pos + (Utf8.decode s pos).2), blankB c = false := by
          rcases Nat.lt_or_ge (s.get! pos).toNat 128 with d | d
          · have e := decode_ascii s pos c (by rw [← get_bang c]; exact d)
            rw [e] at hb ⊢
            refine ⟨Nat.le_refl _, c, fun x hx => ?_⟩
            obtain ⟨k, hk, ex⟩ := seg_mem s (b := pos + 1) c hx
            have : k = 0 := by omega
            rw [this, Nat.add_zero, get_bang c] at ex
            rw [ex, ← blank_eq]
            exact hb
          · obtain ⟨e1, e2⟩ := decode_span c d
            refine ⟨(decode_high s pos c (by rw [← get_bang c]; exact d)).2, e1, fun x hx => ?_⟩
            obtain ⟨k, hk, ex⟩ := seg_mem s e1 hx
            have := e2 k (by omega)
            rw [← blank_eq, ex]
            unfold blankR
            simp
            omega
        generalize (Utf8.decode s pos).2 = n at hn1 hn2 hn3 ⊢
        rw [seg_drop s (show pos ≤ pos + n by omega), fieldsL_skip _ _ _ hn3]
        cases st with
        | none =>
          simp only [Bool.false_eq_true, if_false]
          rw [ih (pos + n) (some pos) acc (by omega) hn2 (by intro a ha; cases ha; omega)]
          rfl
        | some a =>
          simp only [Bool.false_eq_true, if_false]
          rw [ih (pos + n) (some a) acc (by omega) hn2 (by intro b hb; cases hb; have := h3 a rfl; omega)]
          show _ ++ fieldsL (seg s a (pos + n)) _ = _ ++ fieldsL (seg s a pos ++ seg s pos (pos + n)) _
          rw [seg_join s (Nat.le_of_lt (h3 a rfl)) (by omega)]
      · -- a blank
        have d : (s.get! pos).toNat < 128 := by
          apply Nat.lt_of_not_le
          intro d
          have := (decode_high s pos c (by rw [← get_bang c]; exact d)).1
          unfold blankR at hb
          simp at hb
          omega
        have e := decode_ascii s pos c (by rw [← get_bang c]; exact d)
        rw [e] at hb ⊢
        simp only at hb ⊢
        rw [← get_bang c, blank_eq] at hb
        rw [seg_drop s (show pos ≤ pos + 1 by omega), seg_one s c]
        cases st with
        | none =>
          simp only [if_true]
          rw [ih (pos + 1) none acc (by omega) c (by intro a ha; cases ha)]
          simp only [opn, List.cons_append, List.nil_append, fieldsL, hb, if_true]
        | some a =>
          simp only [if_true]
          rw [ih (pos + 1) none (acc ++ [(a, pos)]) (by omega) c (by intro a ha; cases ha)]
          have hne := seg_ne s (h3 a rfl) h2
          simp only [opn, List.cons_append, List.nil_append, fieldsL, hb, if_true, if_neg hne]
          rw [List.map_append, List.append_assoc]
          congr 1
          simp [seg_extract]
    · have : pos = s.size := by omega
      subst this
      rw [Lib.spansFromP_end _ _ _ _ _ _ (by omega), List.drop_eq_nil_of_le (by rw [bl_length]; exact Nat.le_refl _)]
      exact close_end s st acc h3
theorem fields_cut (s : ByteArray) : Lib.goFieldsP blankR s = cutF s := by
 unfold Lib.goFieldsP Lib.spansOfP
 rw [spans_eq s s.size 0 none [] (by omega) (Nat.zero_le _) (by intro a ha; cases ha)]
 simp [opn, cutF]
end Go.Proofs.YtmolfmgchbjnbaaGreatDoor
namespace Go.Proofs.YtmolfmgchbjnbaaGreatDoor
open Go.RowKit
open Wire Flow Mach
set_option maxRecDepth 100000 in
set_option maxHeartbeats 4000000 in
theorem fields_any (s : ByteArray) (hs : s.size ≤ 4294967296) (W : World) :
  Calls Tryz.prog 289 #[.string s] W fun e W' => ∃ v', e = .returned v' ∧ Fr [] W W' ∧ W'.ownsRow W.heap.size 9 1 v' (cutF s).length ((cutF s).map .string) := by
 have HF : Hid _ := fun (_ : Unit) => Tryz.strings_FieldsFunc_grows 321 #[] (by intro args w; rfl) blankR s W hs (blank_grows W)
 rw [fields_cut] at HF
 generalize (cutF s).length = n at HF ⊢
 generalize (cutF s).map Value.string = xs at HF ⊢
 clear hs
 go_enter Tryz.func289, Tryz.ntmps289
 go_wp2_with fail
 refine (HF.out ()).mono ?_
 rintro e W1 ⟨A, rfl, -, ow, hB⟩
 have HO : Hid _ := And.intro ow hB
 clear ow hB HF
 go_wp2_with fail
 go_ret
 exact ⟨_, rfl, Fr.of_below HO.out.2, HO.out.1⟩
theorem build76 (s : ByteArray) (vo : Option Addr) (n c : Nat) (w : World) : (Instr.build 132 #[(0, .string s), (1, .slice vo n c)]).run Tryz.prog w = .ok (.agg #[.string s, .slice vo n c]) w := by
 kernel_rfl
theorem cells2 {w : World} {b : Nat} {x y : Value} {t : TypeId} (h : w.heap[b]? = some (.cells #[x, y] t)) : (w.cell? ⟨b, 0, none⟩ = some x ∧ w.cell? ⟨b, 1, none⟩ = some y) ∧ w.frozen? ⟨b, 0, none⟩ = false ∧ w.frozen? ⟨b, 1, none⟩ = false := by
 refine ⟨⟨?_, ?_⟩, ?_, ?_⟩ <;> first | (unfold World.cell?; rw [h]; rfl) | (unfold World.frozen?; rw [h]; simp)
theorem set2 {w : World} {b : Nat} {x y x' y' : Value} (h : w.cell? ⟨b, 0, none⟩ = some x ∧ w.cell? ⟨b, 1, none⟩ = some y) : ∃ w', (w.setCell ⟨b, 0, none⟩ x').setCell ⟨b, 1, none⟩ y' = w' ∧ w'.cell? ⟨b, 0, none⟩ = some x' ∧ w'.cell? ⟨b, 1, none⟩ = some y' ∧ Fr [b] w w' := by
 obtain ⟨h0, h1⟩ := h
 refine ⟨_, rfl, ?_, ?_, ((Fr.refl [b] w).setCell (.inl (by simp)) _).setCell (.inl (by simp)) _⟩
 ·rw [setCell_off (by decide)]; exact cell_setA h0
 ·exact cell_setA (by rw [setCell_off (by decide)]; exact h1)
set_option maxRecDepth 100000 in
set_option maxHeartbeats 4000000 in
theorem newRec_any (s : ByteArray) (hs : s.size ≤ 4294967296) (W : World) :
  Calls Tryz.prog 228 #[.string s] W fun e W' => ∃ v', e = .returned (.agg #[.string s, v']) ∧ Fr [] W W' ∧ W'.ownsRow W.heap.size 9 1 v' (cutF s).length ((cutF s).map .string) := by
 have HF : Hid _ := fun (W1 : World) => fields_any s hs W1
 generalize (cutF s).length = n at HF ⊢
 generalize (cutF s).map Value.string = xs at HF ⊢
 obtain ⟨W1, hW1⟩ : ∃ W1, W.alloc (.cells #[.string ⟨#[]⟩, .slice none 0 0] 132) = W1 := ⟨_, rfl⟩
 have F1 : Fr [] W W1 := by rw [← hW1]; exact (Fr.refl [] W).alloc _
 have k1 := World.alloc_heap_new W (.cells #[.string ⟨#[]⟩, .slice none 0 0] 132)
 rw [hW1] at k1
 have l1 := (Array.getElem?_eq_some_iff.1 k1).1
 have HF1 : Hid _ := And.intro F1 (And.intro k1 l1)
 clear hs F1 k1 l1
 go_enter Tryz.func228, Tryz.ntmps228
 go_wp2_with fail
 refine (HF.out W1).mono ?_
 rintro e W2 ⟨v', rfl, F2, ow⟩
 obtain ⟨vo, vc, rfl⟩ := own_form ow
 obtain ⟨F1, k1, l1⟩ := HF1.out
 obtain ⟨hy, z0, z1⟩ := cells2 ((F2.block _ l1 (by simp)).trans k1)
 obtain ⟨W7, hW7, r0, r1, F7⟩ := set2 (x' := .string s) (y' := .slice vo n vc) hy
 obtain ⟨y0, y1⟩ := hy
 have hbd := build76 s vo n vc
 have ow7 : W7.ownsRow W.heap.size 9 1 (.slice vo n vc) n xs := by
  have ow' : W2.ownsRow W.heap.size 9 1 (.slice vo n vc) n xs := by
   refine ⟨ow.1, ow.2.imp id ?_⟩
   rintro ⟨g, cap, cur, e1, e2, e3⟩
   exact ⟨g, cap, cur, e1, Nat.le_trans F1.size e2, e3⟩
  exact own_of_block ow' fun g hg => F7.block g (ow.lt g hg).2 (by
   simp
   rintro rfl
   have := (ow.lt _ hg).1
   omega)
 have HO : Hid _ := And.intro ((F1.trans F2).trans' F7 (by simp)) ow7
 clear ow ow7 F7 F2 F1 k1 l1 HF1 HF
 go_wp2_with fail
 refine bodyPost_ret (v := .agg #[.string s, .slice vo n vc]) (by simp [results, Tryz.results228, go_sem, r0, r1]) rfl ?_
 exact ⟨_, rfl, HO.out.1, HO.out.2⟩
end Go.Proofs.YtmolfmgchbjnbaaGreatDoor
namespace Go.Proofs.YtmolfmgchbjnbaaGreatDoor
open Go.RowKit
open Wire Flow Mach
section
variable {E : Env} {X : Nat} {g : Pl} {s : Ms} {W W' : World} {tag : Nat → Nat}
def onRec (s : Ms) (t : ByteArray) (fl : List ByteArray) : Ms := { s with w := { s.w with rcd := t, flds := fl } }
def onNr (s : Ms) : Ms := { s with w := { s.w with nr := s.w.nr + 1 } }
theorem MM.setRec (h : MM E X g s W tag) {W2 : World} (F : Fr [] W W2) {v' : Value} {fl : List ByteArray} (ow : W2.ownsRow W.heap.size 9 1 v' fl.length (fl.map .string)) (t : ByteArray) :
  (W2.frozen? ⟨X, 6, none⟩ = false ∧ W2.frozen? ⟨X, 7, none⟩ = false) ∧ (∃ u, W2.cell? ⟨X, 6, none⟩ = some u) ∧ (∃ u, W2.cell? ⟨X, 7, none⟩ = some u) ∧
  ∃ t', MM E X g (onRec s t fl) ((W2.setCell ⟨X, 6, none⟩ (.string t)).setCell ⟨X, 7, none⟩ v') t' ∧ Kp tag t' W ((W2.setCell ⟨X, 6, none⟩ (.string t)).setCell ⟨X, 7, none⟩ v') := by
 obtain ⟨h6, lv, R, mp, x, hx, h⟩ := h
 have S2 := h.S.frm F 9
 have K2 : Kp tag (newTag tag W.heap.size 9) W W2 := Kp.new F 9
 have o := (S2.rows 10 h.lX).1
 rw [h.rX] at o
 have hro : RoL W2 (newTag tag W.heap.size 9) v' (fl.map .string) := RoL.of_own ow fun q hq _ => newTag_new hq
 obtain ⟨S3, K3⟩ := S2.put h.lX h.rX (j := 6) (by omega) (.string t)
 obtain ⟨S4, K4⟩ := S3.put h.lX (up_same _ _ _) (j := 7) (by omega) v'
 have K := K2.trans (K3.trans K4)
 refine ⟨⟨own_thaw o _, own_thaw o _⟩, ⟨.string s.w.rcd, own_cell o rfl⟩, ⟨x.flv, own_cell o rfl⟩, _, ⟨Nat.le_trans h6 K.size, lv, _, mp, onL x x.rv x.dv v', hx, h.rex h6 (s' := onRec s t fl) K S4 rfl rfl rfl rfl ?_ ?_ (h.rcs.kp K) (h.drw.kp K) (hro.kp (K3.trans K4))⟩, K⟩
 ·rw [up_same]
  rfl
 ·intro i hi
  rw [up_off _ _ hi, up_off _ _ hi]
theorem MM.noRec (h : MM E X g s W tag) (hd : s.w.recs[s.w.nr]? = none) : ∃ o c, W.cell? ⟨X, 3, none⟩ = some (.slice o 0 c) := by
 obtain ⟨h6, lv, R, mp, x, hx, h⟩ := h
 obtain ⟨o, c, e1, -⟩ := h.rcs
 have : s.w.recs.drop s.w.nr = [] := List.drop_eq_nil_of_le (List.getElem?_eq_none_iff.1 hd)
 rw [this] at e1
 exact ⟨o, c, h.xc (by rw [show (Value.slice o 0 c) = x.rv from e1.symm]; rfl)⟩
theorem MM.setNr (h : MM E X g s W tag) {t : ByteArray} (hd : s.w.recs[s.w.nr]? = some t) : ∃ gt off m c, W.cell? ⟨X, 3, none⟩ = some (.slice (some ⟨gt, off, none⟩) (m + 1) c) ∧ m + 1 ≤ c ∧ c ≤ 9223372036854775807 ∧ W.cell? ⟨gt, off, none⟩ = some (.string t) ∧ W.frozen? ⟨X, 3, none⟩ = false ∧
  ∀ o', (c ≠ 1 → o' = some ⟨gt, off + 1, none⟩) → (W.setCell ⟨X, 3, none⟩ (.slice o' m (c - 1))).cell? ⟨X, 5, none⟩ = some (.int .i64 (s.w.nr : Nat)) ∧ (W.setCell ⟨X, 3, none⟩ (.slice o' m (c - 1))).frozen? ⟨X, 5, none⟩ = false ∧
   MM E X g (onNr s) ((W.setCell ⟨X, 3, none⟩ (.slice o' m (c - 1))).setCell ⟨X, 5, none⟩ (.int .i64 ((s.w.nr + 1 : Nat) : Int))) tag ∧ Kp tag tag W ((W.setCell ⟨X, 3, none⟩ (.slice o' m (c - 1))).setCell ⟨X, 5, none⟩ (.int .i64 ((s.w.nr + 1 : Nat) : Int))) := by
 obtain ⟨h6, lv, R, mp, x, hx, h⟩ := h
 obtain ⟨o, c, e1, e2, e2', e3⟩ := h.rcs
 have hl := (List.getElem?_eq_some_iff.1 hd).1
 have hc : s.w.recs.drop s.w.nr = t :: s.w.recs.drop (s.w.nr + 1) := by
  rw [List.drop_eq_getElem_cons hl, (List.getElem?_eq_some_iff.1 hd).2]
 rw [hc] at e1 e2 e3
 simp only [List.map_cons, List.length_cons] at e1 e2 e3
 obtain ⟨gt, off, e4, e5, e6, e7⟩ := e3 (by omega)
 have ow := (h.S.rows 10 h.lX).1
 rw [h.rX] at ow
 refine ⟨gt, off, ((s.w.recs.drop (s.w.nr + 1)).map Value.string).length, c, h.xc (by rw [← e4, ← e1]; rfl), e2, e2', by have := e7 0 _ rfl; exact this, own_thaw ow _, fun o' ho => ?_⟩
 obtain ⟨S1, k1⟩ := h.S.put h.lX h.rX (j := 3) (by omega) (.slice o' ((s.w.recs.drop (s.w.nr + 1)).map Value.string).length (c - 1))
 have ow1 := (S1.rows 10 h.lX).1
 rw [up_same] at ow1
 simp only at ow1
 obtain ⟨S2, k2⟩ := S1.put h.lX (up_same _ _ _) (j := 5) (by omega) (.int .i64 ((s.w.nr + 1 : Nat) : Int))
 have k := k1.trans k2
 refine ⟨own_cell ow1 rfl, own_thaw ow1 _, ⟨Nat.le_trans h6 k.size, lv, _, mp, onL x (.slice o' ((s.w.recs.drop (s.w.nr + 1)).map Value.string).length (c - 1)) x.dv x.flv, hx, h.rex h6 (s' := onNr s) k S2 rfl rfl rfl rfl ?_ ?_ ?_ (h.drw.kp k) (h.fld.kp k)⟩, k⟩
 ·rw [up_same]
  rfl
 ·intro i hi
  rw [up_off _ _ hi, up_off _ _ hi]
 ·refine ⟨o', c - 1, rfl, ?_, by omega, fun h0 => ?_⟩
  ·show ((s.w.recs.drop (s.w.nr + 1)).map Value.string).length ≤ _
   omega
  ·have h0' : 0 < ((s.w.recs.drop (s.w.nr + 1)).map Value.string).length := h0
   refine ⟨gt, off + 1, ho (by omega), Nat.lt_of_lt_of_le e5 k.size, (k.ret gt e5).trans e6, fun i v hv => ?_⟩
   have := e7 (i + 1) v hv
   rw [show off + (i + 1) = off + 1 + i by omega] at this
   exact (k.cell (p := ⟨gt, off + 1 + i, none⟩) e5 (by show tag gt < 10; omega)).trans this
set_option maxRecDepth 100000 in
set_option maxHeartbeats 4000000 in
theorem MM.read0 (h : MM E X g s W tag) (hd : s.w.recs[s.w.nr]? = none) : Calls Tryz.prog 129 #[ptr X] W (MP E X g s tag W (.bool false)) := by
 obtain ⟨o, c, x3⟩ := h.noRec hd
 have HM1 : Hid _ := h
 clear h
 go_enter Tryz.func129, Tryz.ntmps129
 go_wp2_with fail
 go_ret
 exact ⟨rfl, tag, HM1.out, Kp.refl _ _⟩
set_option maxRecDepth 100000 in
set_option maxHeartbeats 4000000 in
theorem MM.read1 (h : MM E X g s W tag) {t : ByteArray} (hd : s.w.recs[s.w.nr]? = some t) (ht : t.size ≤ 4294967296) (hn : s.w.recs.length ≤ 1000000) : Calls Tryz.prog 129 #[ptr X] W (MP E X g (onNr (onRec s t (cutF t))) tag W (.bool true)) := by
 have hnr := (List.getElem?_eq_some_iff.1 hd).1
 obtain ⟨gt, off, m, c, x3, hc, hc', y0, z3, -⟩ := h.setNr hd
 have e0 : (((m + 1 : Nat) : Int) == 0) = false := by simp; omega
 have hw64 : IntKind.i64.wrap ((m + 1 : Nat) : Int) = ((m + 1 : Nat) : Int) := by rw [IntKind.wrap_i64]; omega
 have HR : Hid _ := fun (_ : Unit) => newRec_any t ht W
 have HS : Hid _ := fun (W2 : World) (F : Fr [] W W2) (v' : Value) (ow : W2.ownsRow W.heap.size 9 1 v' (cutF t).length ((cutF t).map .string)) => h.setRec F ow t
 have HN : Hid _ := fun (W3 : World) (t3 : Nat → Nat) (h3 : MM E X g (onRec s t (cutF t)) W3 t3) => h3.setNr (t := t) hd
 have hwn : IntKind.i64.wrap ((s.w.nr : Int) + 1) = ((s.w.nr + 1 : Nat) : Int) := by rw [IntKind.wrap_i64]; omega
 generalize onNr (onRec s t (cutF t)) = s2 at HN ⊢
 clear h hd ht hn hnr z3
 go_enter Tryz.func129, Tryz.ntmps129
 go_wp2_with fail
 refine (HR.out ()).mono ?_
 rintro e W2 ⟨v', rfl, F2, ow⟩
 obtain ⟨⟨z6, z7⟩, ⟨u6, x6⟩, ⟨u7, x7⟩, t3, h3, k3⟩ := HS.out W2 F2 v' ow
 obtain ⟨vo, vc, rfl⟩ := own_form ow
 have x7' : (W2.setCell ⟨X, 6, none⟩ (.string t)).cell? ⟨X, 7, none⟩ = some u7 := by rw [setCell_off (by decide)]; exact x7
 obtain ⟨gt', off', m', c', x3', hc1, hc2, y0', z3', HF⟩ := HN.out _ t3 h3
 have HK : Hid _ := k3
 have e0' : (((m' + 1 : Nat) : Int) == 0) = false := by simp; omega
 have hw64' : IntKind.i64.wrap ((m' + 1 : Nat) : Int) = ((m' + 1 : Nat) : Int) := by rw [IntKind.wrap_i64]; omega
 clear ow F2 HR HS HN h3 k3
 obtain ⟨V3, hV3⟩ : ∃ V3, (W2.setCell ⟨X, 6, none⟩ (.string t)).setCell ⟨X, 7, none⟩ (.slice vo (cutF t).length vc) = V3 := ⟨_, rfl⟩
 rw [hV3] at x3' y0' z3' HF HK
 replace HF : ∀ (o' : Option Addr), (c' ≠ 1 → o' = some ⟨gt', off' + 1, none⟩) → (V3.setCell ⟨X, 3, none⟩ (.slice o' m' (c' - 1))).cell? ⟨X, 5, none⟩ = some (.int .i64 (s.w.nr : Nat)) ∧ (V3.setCell ⟨X, 3, none⟩ (.slice o' m' (c' - 1))).frozen? ⟨X, 5, none⟩ = false ∧
   MM E X g s2 ((V3.setCell ⟨X, 3, none⟩ (.slice o' m' (c' - 1))).setCell ⟨X, 5, none⟩ (.int .i64 ((s.w.nr + 1 : Nat) : Int))) t3 ∧ Kp t3 t3 V3 ((V3.setCell ⟨X, 3, none⟩ (.slice o' m' (c' - 1))).setCell ⟨X, 5, none⟩ (.int .i64 ((s.w.nr + 1 : Nat) : Int))) := HF
 generalize s.w.nr = nr at HF hwn
 have ec : ((nr + 1 : Nat) : Int) = (nr : Int) + 1 := by omega
 rw [ec] at HF hwn
 clear ec
 generalize (cutF t).length = n at hV3
 rcases Decidable.em (c' = 1) with hc1' | hc1'
 ·subst hc1'
  have hm0 : m' = 0 := by omega
  subst hm0
  obtain ⟨q1, q2, q3, q4⟩ := HF (some ⟨gt', off', none⟩) (fun h => absurd rfl h)
  obtain ⟨V4, hV4⟩ : ∃ V4, V3.setCell ⟨X, 3, none⟩ (.slice (some ⟨gt', off', none⟩) 0 (1 - 1)) = V4 := ⟨_, rfl⟩
  rw [hV4] at q1 q2 q3 q4
  obtain ⟨V5, hV5⟩ : ∃ V5, V4.setCell ⟨X, 5, none⟩ (.int .i64 ((nr : Int) + 1)) = V5 := ⟨_, rfl⟩
  rw [hV5] at q3 q4
  have HM5 : Hid _ := And.intro q3 (HK.out.trans q4)
  clear q3 q4 HF
  go_wp2_with fail
  go_ret
  exact ⟨rfl, t3, HM5.out.1, HM5.out.2⟩
 ·obtain ⟨q1, q2, q3, q4⟩ := HF _ (fun _ => rfl)
  obtain ⟨V4, hV4⟩ : ∃ V4, V3.setCell ⟨X, 3, none⟩ (.slice (some ⟨gt', off' + 1, none⟩) m' (c' - 1)) = V4 := ⟨_, rfl⟩
  rw [hV4] at q1 q2 q3 q4
  obtain ⟨V5, hV5⟩ : ∃ V5, V4.setCell ⟨X, 5, none⟩ (.int .i64 ((nr : Int) + 1)) = V5 := ⟨_, rfl⟩
  rw [hV5] at q3 q4
  have HM5 : Hid _ := And.intro q3 (HK.out.trans q4)
  clear q3 q4 HF
  go_wp2_with fail
  go_ret
  exact ⟨rfl, t3, HM5.out.1, HM5.out.2⟩
end
end Go.Proofs.YtmolfmgchbjnbaaGreatDoor
namespace Go.Proofs.YtmolfmgchbjnbaaGreatDoor
open Go.RowKit
open Wire Flow Mach
section
variable {E : Env} {X : Nat} {g : Pl} {s : Ms} {W W' : World} {tag : Nat → Nat}
def onNext (s : Ms) : Ms := { s with w := (nextR s.w).1 }
theorem MM.readR (h : MM E X g s W tag) (ht : ∀ t, s.w.recs[s.w.nr]? = some t → t.size ≤ 4294967296) (hn : s.w.recs.length ≤ 1000000) : Calls Tryz.prog 129 #[ptr X] W (MP E X g (onNext s) tag W (.bool (nextR s.w).2)) := by
 unfold onNext Mach.nextR
 cases hd : s.w.recs[s.w.nr]? with
 | none => exact h.read0 hd
 | some t => exact h.read1 hd (ht t hd) hn
set_option maxRecDepth 100000 in
set_option maxHeartbeats 4000000 in
theorem MM.igetline (h : MM E X g s W tag) (hl : s.fr.stk.length < 1024) (ht : ∀ t, s.w.recs[s.w.nr]? = some t → t.size ≤ 4294967296) (hn : s.w.recs.length ≤ 1000000) (pl a b q : Int) :
  Calls Tryz.prog 126 #[ptr X, fp g s, inV 42 pl a b q] W (MP E X g (onStk (onNext s) (s.fr.stk ++ [cv (whole (truth (nextR s.w).2))])) tag W (stI 0)) := by
 obtain ⟨W1, hW1, F1, ⟨b0, b1, b2, b3, b4⟩, l1⟩ := box5 W 42 pl a b q
 obtain ⟨t1, h1, k1, -⟩ := MM.box h F1
 have HM1 : Hid _ := And.intro h1 k1
 have HD : Hid _ := fun (_ : Unit) => h1.readR ht hn
 have HQ : Hid _ := fun (W1 : World) (t1 : Nat → Nat) (h1 : MM E X g (onNext s) W1 t1) => MM.pushTruth h1 (show s.fr.stk.length < 1024 from hl) (nextR s.w).2
 replace HQ : Hid (∀ (W1 : World) (t1 : Nat → Nat), MM E X g (onNext s) W1 t1 → Calls Tryz.prog 206 #[fp g s, .bool (nextR s.w).2] W1 (MP E X g (onStk (onNext s) (s.fr.stk ++ [cv (whole (truth (nextR s.w).2))])) t1 W1 unit)) := HQ
 generalize onStk (onNext s) (s.fr.stk ++ [cv (whole (truth (nextR s.w).2))]) = s2 at HQ ⊢
 generalize onNext s = s1 at HD HQ
 generalize (nextR s.w).2 = bb at HD HQ
 clear h h1 k1 F1 l1 ht hn
 go_enter Tryz.func126, Tryz.ntmps126
 go_wp2_with fail
 refine (HD.out ()).mono ?_
 rintro e W2 ⟨rfl, t2, h2, k2⟩
 have HM2 : Hid _ := And.intro h2 (HM1.out.2.trans k2)
 have HK2 : Hid _ := k2
 clear h2 k2 HD
 go_wp2_with fail
 refine (HQ.out W2 t2 HM2.out.1).mono ?_
 rintro e W3 ⟨rfl, t3, h3, k3⟩
 have HM3 : Hid _ := And.intro h3 (HM2.out.2.trans k3)
 have HK3 : Hid _ := k3
 clear h3 k3 HQ
 go_wp2_with fail
 go_ret
 exact ⟨rfl, t3, HM3.out.1, HM3.out.2⟩
end
end Go.Proofs.YtmolfmgchbjnbaaGreatDoor
namespace Go.Proofs.YtmolfmgchbjnbaaGreatDoor
open Go.RowKit
open Wire Flow Mach
theorem own_setsP {B : Nat} {e : TypeId} {z g n cap : Nat} : ∀ (us : List Value) (o : Nat) (w : World) (xs : List Value), w.ownsRow B e z (.slice (some ⟨g, 0, none⟩) n cap) n xs → o + us.length ≤ n * z →
    (w.setCells g o us).ownsRow B e z (.slice (some ⟨g, 0, none⟩) n cap) n (xs.take o ++ us ++ xs.drop (o + us.length))
  | [], o, w, xs, h, ho => by
    rw [List.append_nil, List.length_nil, Nat.add_zero, List.take_append_drop]
    exact h
  | u :: us, o, w, xs, h, ho => by
    have hx := h.1
    simp only [List.length_cons] at ho
    have h1 := own_set h (j := o) (by omega) u
    have h2 := own_setsP us (o + 1) _ _ h1 (by omega)
    have e1 : (xs.set o u).take (o + 1) = xs.take o ++ [u] := by
      rw [List.take_set, List.take_succ_eq_append_getElem (by omega : o < xs.length), List.set_append_right _ _ (by simp; omega)]
      simp [Nat.min_eq_left (show o ≤ xs.length by omega)]
    have e2 : (xs.set o u).drop (o + 1 + us.length) = xs.drop (o + (u :: us).length) := by
      rw [List.drop_set_of_lt (by omega)]
      congr 1
      simp only [List.length_cons]
      omega
    rw [e1, e2] at h2
    show ((w.setCell ⟨g, o, none⟩ u).setCells g (o + 1) us).ownsRow _ _ _ _ _ _
    simpa using h2
theorem Fr.setCells {S : List Nat} {a : World} {b : Nat} (hb : b ∈ S ∨ a.heap.size ≤ b) : ∀ (us : List Value) (o : Nat) (w : World), Fr S a w → Fr S a (w.setCells b o us)
 | [], o, w, h => h
 | u :: us, o, w, h => Fr.setCells hb us (o + 1) _ (h.setCell (p := ⟨b, o, none⟩) hb u)
theorem add_plain (g o j : Nat) : (⟨g, o, none⟩ : Addr).add j = ⟨g, o + j, none⟩ := by cases j <;> simp [Addr.add]
theorem own_made (W : World) (n : Nat) (hn : n ≤ 100000) {B : Nat} (hB : B ≤ W.heap.size) : (W.alloc (.cells (madeCells #[.string ⟨#[]⟩] n) 9)).ownsRow B 9 1 (.slice (some ⟨W.heap.size, 0, none⟩) n n) n (List.replicate n (.string ⟨#[]⟩)) := by
 refine ⟨by simp, .inr ⟨W.heap.size, n, madeCells #[.string ⟨#[]⟩] n, rfl, hB, World.alloc_heap_new W _, Nat.le_refl _, by unfold maxLen; omega, ?_, ?_⟩⟩
 ·rw [← Array.length_toList, toList_madeCells_one]
  simp
 ·rw [toList_madeCells_one]
  simp
theorem putF_row (L : List ByteArray) (n : Nat) (t : ByteArray) {m : Nat} (hm : m = max n L.length) :
  (((List.replicate m (Value.string ⟨#[]⟩)).take 0 ++ L.map Value.string ++ (List.replicate m (Value.string ⟨#[]⟩)).drop (0 + (L.map Value.string).length)).set (n - 1) (.string t)) = (putF L n t).map .string := by
 unfold putF
 rw [List.map_set, List.map_append, List.map_replicate, List.take_zero, List.nil_append, Nat.zero_add, List.length_map, List.drop_replicate, hm]
 congr 3
 omega
theorem putF_len (L : List ByteArray) (n : Nat) (t : ByteArray) : (putF L n t).length = max n L.length := by
 unfold putF
 simp
 omega
set_option maxRecDepth 100000 in
set_option maxHeartbeats 4000000 in
theorem with_zero (r t : ByteArray) (fo : Option Addr) (fn fc : Nat) (ht : t.size ≤ 4294967296) (W : World) :
  Calls Tryz.prog 277 #[.agg #[.string r, .slice fo fn fc], .int .i64 0, .string t] W fun e W' => ∃ v', e = .returned (.agg #[.string t, v']) ∧ Fr [] W W' ∧ W'.ownsRow W.heap.size 9 1 v' (cutF t).length ((cutF t).map .string) := by
 have HF : Hid _ := fun (W1 : World) => newRec_any t ht W1
 generalize (cutF t).length = n at HF ⊢
 generalize (cutF t).map Value.string = xs at HF ⊢
 obtain ⟨W0, hW0⟩ : ∃ W0, W.alloc (.cells #[.string r, .slice fo fn fc] 132) = W0 := ⟨_, rfl⟩
 have F0 : Fr [] W W0 := by rw [← hW0]; exact (Fr.refl [] W).alloc _
 have hs0 : W.heap.size ≤ W0.heap.size := F0.size
 obtain ⟨W1, hW1⟩ : ∃ W1, W0.alloc (.cells #[.string ⟨#[]⟩, .slice none 0 0] 132) = W1 := ⟨_, rfl⟩
 have F1 : Fr [] W0 W1 := by rw [← hW1]; exact (Fr.refl [] W0).alloc _
 have k1 := World.alloc_heap_new W0 (.cells #[.string ⟨#[]⟩, .slice none 0 0] 132)
 rw [hW1] at k1
 have l1 := (Array.getElem?_eq_some_iff.1 k1).1
 have HF1 : Hid _ := And.intro (F0.trans F1) (And.intro k1 (And.intro l1 hs0))
 clear ht F1 k1 l1 F0 hs0
 go_enter Tryz.func277, Tryz.ntmps277
 go_wp2_with fail
 refine (HF.out W1).mono ?_
 rintro e W2 ⟨v', rfl, F2, ow⟩
 obtain ⟨vo, vc, rfl⟩ := own_form ow
 obtain ⟨F1, k1, l1, hs0⟩ := HF1.out
 obtain ⟨hy, z0, z1⟩ := cells2 ((F2.block _ l1 (by simp)).trans k1)
 obtain ⟨W7, hW7, r0, r1, F7⟩ := set2 (x' := .string t) (y' := .slice vo n vc) hy
 obtain ⟨y0, y1⟩ := hy
 have ow7 : W7.ownsRow W.heap.size 9 1 (.slice vo n vc) n xs := by
  have ow' : W2.ownsRow W.heap.size 9 1 (.slice vo n vc) n xs := by
   refine ⟨ow.1, ow.2.imp id ?_⟩
   rintro ⟨g, cap, cur, e1, e2, e3⟩
   exact ⟨g, cap, cur, e1, Nat.le_trans F1.size e2, e3⟩
  exact own_of_block ow' fun g hg => F7.block g (ow.lt g hg).2 (by
   simp
   rintro rfl
   have := (ow.lt _ hg).1
   omega)
 have HO : Hid _ := And.intro ((F1.trans F2).trans' F7 (by simp; omega)) ow7
 clear ow ow7 F7 F2 F1 k1 l1 HF1 HF hs0
 go_wp2_with fail
 refine bodyPost_ret (v := .agg #[.string t, .slice vo n vc]) (by simp [results, Tryz.results277, go_sem, r0, r1]) rfl ?_
 exact ⟨_, rfl, HO.out.1, HO.out.2⟩
set_option maxRecDepth 100000 in
set_option maxHeartbeats 4000000 in
theorem with_n (r t : ByteArray) (fo : Option Addr) (fc n : Nat) (L : List ByteArray) (W : World) (h1 : 1 ≤ n) (h2 : n ≤ 1000) (hL : L.length ≤ 1000) (ht : t.size ≤ 1048576) (hLt : ∀ x ∈ L, x.size ≤ 1048576) (hc : ∀ (i : Nat) (x : ByteArray), L[i]? = some x → ∃ gt off, fo = some ⟨gt, off, none⟩ ∧ W.cell? ⟨gt, off + i, none⟩ = some (.string x)) :
  Calls Tryz.prog 277 #[.agg #[.string r, .slice fo L.length fc], .int .i64 (n : Nat), .string t] W fun e W' => ∃ v', e = .returned (.agg #[.string ⟨(joinF (putF L n t)).toArray⟩, v']) ∧ Fr [] W W' ∧ W'.ownsRow W.heap.size 9 1 v' (putF L n t).length ((putF L n t).map .string) := by
 obtain ⟨m, hm⟩ : ∃ m, max n L.length = m := ⟨_, rfl⟩
 have hm1 : m ≤ 1000 := by omega
 have hpl : (putF L n t).length = m := (putF_len L n t).trans hm
 obtain ⟨W0, hW0⟩ : ∃ W0, W.alloc (.cells #[.string r, .slice fo L.length fc] 132) = W0 := ⟨_, rfl⟩
 have F0 : Fr [] W W0 := by rw [← hW0]; exact (Fr.refl [] W).alloc _
 have k0 := World.alloc_heap_new W (.cells #[.string r, .slice fo L.length fc] 132)
 rw [hW0] at k0
 have l0 := (Array.getElem?_eq_some_iff.1 k0).1
 obtain ⟨W1, hW1⟩ : ∃ W1, W0.alloc (.cells #[.string ⟨#[]⟩, .slice none 0 0] 132) = W1 := ⟨_, rfl⟩
 have F1 : Fr [] W0 W1 := by rw [← hW1]; exact (Fr.refl [] W0).alloc _
 have k1 := World.alloc_heap_new W0 (.cells #[.string ⟨#[]⟩, .slice none 0 0] 132)
 rw [hW1] at k1
 have l1 := (Array.getElem?_eq_some_iff.1 k1).1
 obtain ⟨⟨y0, y1⟩, -, -⟩ := cells2 ((F1.block _ l0 (by simp)).trans k0)
 have hmk := mkStrs m (by omega) W1
 have hrow := own_made W1 m (by omega) (B := W.heap.size) (by omega)
 have F2 : Fr [] W1 (W1.alloc (.cells (madeCells #[.string ⟨#[]⟩] m) 9)) := (Fr.refl [] W1).alloc _
 obtain ⟨W2, hW2⟩ : ∃ W2, W1.alloc (.cells (madeCells #[.string ⟨#[]⟩] m) 9) = W2 := ⟨_, rfl⟩
 rw [hW2] at hmk hrow F2
 have F02 := (F0.trans F1).trans F2
 have l2 : W1.heap.size < W2.heap.size := by rw [← hW2]; simp
 have y1' : W2.cell? ⟨W.heap.size, 1, none⟩ = some (.slice fo L.length fc) := (F2.cell (p := ⟨W.heap.size, 1, none⟩) (lt_of_cell y1) (by simp)).trans y1
 have hcp : (Builtin.copy_ #[22, 22] 3 #[.slice (some ⟨W1.heap.size, 0, none⟩) m m, .slice fo L.length fc]).run Tryz.prog W2 = .ok (goInt L.length) (W2.setCells W1.heap.size 0 (L.map .string)) := by
  rcases L with _ | ⟨a, L⟩
  ·exact run_copy_none W2 22 22 3 9 _ _ m m 0 fc Tryz.underlying22 (by kernel_rfl) (by show Nat.min 0 m = 0; simp)
  ·obtain ⟨gt, off, rfl, -⟩ := hc 0 a rfl
   have := run_copy_cells (P := Tryz.prog) W2 22 22 3 9 W1.heap.size 0 m m ⟨gt, off, none⟩ (a :: L).length fc ((a :: L).map .string) Tryz.underlying22 (by kernel_rfl) (by rw [List.length_map]; simp only [List.length_cons] at hm ⊢; exact (Nat.min_eq_left (by omega)).symm) (fun j v hv => by
    rw [add_plain]
    rw [List.getElem?_map] at hv
    obtain ⟨x, hx, rfl⟩ := Option.map_eq_some_iff.1 hv
    obtain ⟨gt', off', e, hcl⟩ := hc j x hx
    obtain ⟨rfl, rfl⟩ : gt = gt' ∧ off = off' := by simpa using e
    exact (F02.cell (p := ⟨gt, off + j, none⟩) (lt_of_cell hcl) (by simp)).trans hcl) (fun j hj => by
    rw [Nat.zero_add, own_cell (j := j) hrow (by rw [List.getElem?_replicate, if_pos (by rw [List.length_map] at hj; omega)])]
    rfl) (fun j hj => own_thaw hrow _) (by intro v hv; obtain ⟨x, -, rfl⟩ := List.mem_map.1 hv; rfl)
   rw [List.length_map] at this
   exact this
 have hrow3 := own_setsP (L.map .string) 0 _ _ hrow (by rw [List.length_map]; omega)
 have F3 : Fr [] W (W2.setCells W1.heap.size 0 (L.map .string)) := Fr.setCells (.inr (F0.trans F1).size) _ 0 _ F02
 have hsz : ∀ (us : List Value) (o : Nat) (w : World), (w.setCells W1.heap.size o us).heap.size = w.heap.size := by
  intro us
  induction us with
  | nil => intro o w; rfl
  | cons u us ih => intro o w; show ((w.setCell ⟨W1.heap.size, o, none⟩ u).setCells W1.heap.size (o + 1) us).heap.size = _; rw [ih]; simp [World.setCell]
 obtain ⟨W3, hW3⟩ : ∃ W3, W2.setCells W1.heap.size 0 (L.map .string) = W3 := ⟨_, rfl⟩
 have l3 : W3.heap.size = W2.heap.size := by rw [← hW3]; exact hsz _ _ _
 have hb6 : ∀ k, k < W1.heap.size → W3.heap[k]? = W1.heap[k]? := fun k hk => by
  rw [← hW3]
  have : Fr [] W1 (W2.setCells W1.heap.size 0 (L.map .string)) := Fr.setCells (.inr (Nat.le_refl _)) _ 0 _ F2
  exact this.block k hk (by simp)
 rw [hW3] at hcp hrow3 F3
 have hr3 := own_set hrow3 (j := n - 1) (by omega) (.string t)
 rw [putF_row L n t hm.symm] at hr3
 have x3 : ∃ u, W3.cell? ⟨W1.heap.size, n - 1, none⟩ = some u := by
  obtain ⟨u, hu⟩ : ∃ u, ((List.replicate m (Value.string ⟨#[]⟩)).take 0 ++ L.map Value.string ++ (List.replicate m (Value.string ⟨#[]⟩)).drop (0 + (L.map Value.string).length))[n - 1]? = some u := ⟨_, List.getElem?_eq_getElem (by have := hrow3.1; rw [this]; omega)⟩
  exact ⟨u, own_cell hrow3 hu⟩
 obtain ⟨u3, x3⟩ := x3
 have z3 := own_thaw hrow3 (n - 1)
 have F4 : Fr [] W (W3.setCell ⟨W1.heap.size, n - 1, none⟩ (.string t)) := F3.setCell (.inr (F0.trans F1).size) _
 have hb7 : ∀ k, k < W1.heap.size → (W3.setCell ⟨W1.heap.size, n - 1, none⟩ (.string t)).heap[k]? = W1.heap[k]? := fun k hk => (Below.heap_setCell _ _ _ _ (by show k ≠ W1.heap.size; omega)).trans (hb6 k hk)
 have l4 : (W3.setCell ⟨W1.heap.size, n - 1, none⟩ (.string t)).heap.size = W2.heap.size := by rw [← l3]; simp [World.setCell]
 obtain ⟨W4, hW4⟩ : ∃ W4, W3.setCell ⟨W1.heap.size, n - 1, none⟩ (.string t) = W4 := ⟨_, rfl⟩
 rw [hW4] at hr3 F4 hb7 l4
 have HJ : Hid _ := fun (_ : Unit) => join_v W1.heap.size (putF L n t) W4 (by omega) (by rw [hpl]; omega) (fun x hx => by
  unfold putF at hx
  rcases List.mem_or_eq_of_mem_set hx with hx | rfl
  ·rcases List.mem_append.1 hx with hx | hx
   ·exact hLt x hx
   ·rw [List.eq_of_mem_replicate hx]; decide
  ·exact ht) (fun j x hj => by
  rw [Nat.zero_add]
  exact own_cell hr3 (by rw [List.getElem?_map, hj]; rfl))
 rw [hpl] at HJ ⊢
 have HF : Hid _ := And.intro F4 (And.intro hr3 (And.intro hb7 (And.intro k1 (And.intro l1 (And.intro F0.size l4)))))
 have hmx : max (n : Int) (L.length : Int) = (m : Int) := by omega
 have hw1 : IntKind.i64.wrap ((n : Int) - 1) = ((n - 1 : Nat) : Int) := by rw [IntKind.wrap_i64]; omega
 have hlt : ((n - 1 : Nat) : Int) < (m : Int) := by omega
 have hn0 : ((n : Int) == 0) = false := by simp; omega
 have hwl : IntKind.i64.wrap (L.length : Int) = L.length := by rw [IntKind.wrap_i64]; omega
 generalize (putF L n t).map Value.string = xs at HF ⊢
 generalize (⟨(joinF (putF L n t)).toArray⟩ : ByteArray) = jn at HJ ⊢
 generalize L.length = ln at *
 obtain ⟨n1, hn1⟩ : ∃ n1, n - 1 = n1 := ⟨_, rfl⟩
 rw [hn1] at hw1 hlt x3 z3 hW4
 clear hn1 F0 F1 F2 F02 F3 F4 hrow hrow3 hr3 hb6 hb7 hsz hc hLt ht k0 k1 l0 l1 l2 l3 l4 hpl
 go_enter Tryz.func277, Tryz.ntmps277
 clear hW2 hW3
 go_wp2_with fail
 refine (HJ.out ()).mono ?_
 rintro e W5 ⟨rfl, F5⟩
 obtain ⟨F4, hr4, hb7, k1, l1, hs0, l4⟩ := HF.out
 have k5 : W5.heap[W0.heap.size]? = some (.cells #[.string ⟨#[]⟩, .slice none 0 0] 132) := (F5.block _ (Nat.lt_of_lt_of_le l1 (by
  have := (lt_of_cell x3)
  have : W1.heap.size < W3.heap.size := this
  have e : W4.heap.size = W3.heap.size := by rw [← hW4]; simp [World.setCell]
  omega)) (by simp)).trans ((hb7 _ l1).trans k1)
 obtain ⟨hy, z0, z1⟩ := cells2 k5
 obtain ⟨W7, hW7, r0, r1, F7⟩ := set2 (x' := .string jn) (y' := .slice (some ⟨W1.heap.size, 0, none⟩) m m) hy
 obtain ⟨v0, v1⟩ := hy
 have hbd := build76 jn (some ⟨W1.heap.size, 0, none⟩) m m
 have ow7 : W7.ownsRow W.heap.size 9 1 (.slice (some ⟨W1.heap.size, 0, none⟩) m m) m xs := by
  have ow5 := own_of_block hr4 fun g hg => F5.block g (hr4.lt g hg).2 (by simp)
  exact own_of_block ow5 fun g hg => F7.block g (ow5.lt g hg).2 (by
   have : W1.heap.size = g := by simpa [Value.ownBlock] using hg
   simp
   omega)
 have HO : Hid _ := And.intro ((F4.trans F5).trans' F7 (by simp; omega)) ow7
 clear ow7 F7 F5 F4 hr4 hb7 k1 l1 HF HJ hs0 l4 k5
 go_wp2_with fail
 refine bodyPost_ret (v := .agg #[.string jn, .slice (some ⟨W1.heap.size, 0, none⟩) m m]) (by simp [results, Tryz.results277, go_sem, r0, r1]) rfl ?_
 exact ⟨_, rfl, HO.out.1, HO.out.2⟩
end Go.Proofs.YtmolfmgchbjnbaaGreatDoor
namespace Go.Proofs.YtmolfmgchbjnbaaGreatDoor
open Go.RowKit
open Wire Flow Mach
section
variable {E : Env} {X : Nat} {g : Pl} {s : Ms} {W W' : World} {tag : Nat → Nat}
set_option maxRecDepth 100000 in
set_option maxHeartbeats 4000000 in
theorem MM.setBad (h : MM E X g s W tag) (n : Int) (hn : n < 0 ∨ n > 50) (t : ByteArray) : Calls Tryz.prog 200 #[ptr X, .int .i64 n, .string t] W (MP E X g s tag W (stI 5)) := by
  have HM : Hid _ := h
  clear h
  rcases Decidable.em (n < 0) with c | c
  · go_enter Tryz.func200, Tryz.ntmps200
    go_wp2_with fail
    go_ret
    exact ⟨rfl, tag, HM.out, Kp.refl _ _⟩
  · have c2 : n > 50 := by omega
    go_enter Tryz.func200, Tryz.ntmps200
    go_wp2_with fail
    go_ret
    exact ⟨rfl, tag, HM.out, Kp.refl _ _⟩
set_option maxRecDepth 100000 in
set_option maxHeartbeats 4000000 in
theorem MM.setGood (h : MM E X g s W tag) {n : Nat} (hn : n ≤ 50) (t : ByteArray) {jt : ByteArray} {fl : List ByteArray}
    (H : ∀ (fo : Option Addr) (fc : Nat), W.cell? ⟨X, 7, none⟩ = some (.slice fo s.w.flds.length fc) → Calls Tryz.prog 277 #[.agg #[.string s.w.rcd, .slice fo s.w.flds.length fc], .int .i64 (n : Nat), .string t] W fun e W' => ∃ v', e = .returned (.agg #[.string jt, v']) ∧ Fr [] W W' ∧ W'.ownsRow W.heap.size 9 1 v' fl.length (fl.map .string)) :
    Calls Tryz.prog 200 #[ptr X, .int .i64 (n : Nat), .string t] W (MP E X g (if jt.size > 100 then s else onRec s jt fl) tag W (stI (if jt.size > 100 then 6 else 0))) := by
  have x6 := h.xrcd
  obtain ⟨fo, fc, x7, hfc, -⟩ := h.flds
  have HC : Hid _ := fun (_ : Unit) => H fo fc x7
  have HS : Hid _ := fun (W2 : World) (F : Fr [] W W2) (v' : Value) (ow : W2.ownsRow W.heap.size 9 1 v' fl.length (fl.map .string)) => h.setRec F ow jt
  have HL : Hid _ := fun (W : World) => isLong_any jt W
  have HM : Hid (MM E X g s W tag) := h
  have g0 : ¬ (n : Int) < 0 := by omega
  have g1 : ¬ (n : Int) > 50 := by omega
  rcases Nat.lt_or_ge 100 jt.size with c | c
  · rw [if_pos c, if_pos c]
    rw [show decide ((jt.size : Int) > 100) = true from decide_eq_true (by omega)] at HL
    clear h H HS hn c
    go_enter Tryz.func200, Tryz.ntmps200
    go_wp2_with fail
    refine (HC.out ()).mono ?_
    rintro e W2 ⟨v', rfl, F2, ow⟩
    obtain ⟨vo, vc, rfl⟩ := own_form ow
    obtain ⟨W3, hW3⟩ : ∃ W3, W2.alloc (.cells #[.string jt, .slice vo fl.length vc] 132) = W3 := ⟨_, rfl⟩
    have F3 : Fr [] W W3 := by rw [← hW3]; exact F2.alloc _
    have k3 := World.alloc_heap_new W2 (.cells #[.string jt, .slice vo fl.length vc] 132)
    rw [hW3] at k3
    obtain ⟨⟨y0, y1⟩, -, -⟩ := cells2 k3
    have HF : Hid _ := F3
    clear ow F2 F3 k3 HC
    generalize fl.length = n4 at *
    go_wp2_with fail
    refine (HL.out W3).mono ?_
    rintro e W4 ⟨rfl, rfl⟩
    clear HL
    go_wp2_with fail
    go_ret
    obtain ⟨t3, h3, k3⟩ := MM.fr HM.out HF.out
    exact ⟨rfl, t3, h3, k3⟩
  · have c' : ¬ jt.size > 100 := by omega
    rw [if_neg c', if_neg c']
    rw [show decide ((jt.size : Int) > 100) = false from decide_eq_false (by omega)] at HL
    generalize onRec s jt fl = s2 at HS ⊢
    clear h H hn c c'
    go_enter Tryz.func200, Tryz.ntmps200
    go_wp2_with fail
    refine (HC.out ()).mono ?_
    rintro e W2 ⟨v', rfl, F2, ow⟩
    obtain ⟨W3, hW3⟩ : ∃ W3, W2.alloc (.cells #[.string jt, v'] 132) = W3 := ⟨_, rfl⟩
    have F23 : Fr [] W2 W3 := by rw [← hW3]; exact (Fr.refl [] W2).alloc _
    have k3 := World.alloc_heap_new W2 (.cells #[.string jt, v'] 132)
    rw [hW3] at k3
    obtain ⟨⟨y0, y1⟩, -, -⟩ := cells2 k3
    have ow3 := own_of_block ow fun q hq => F23.block q (ow.lt q hq).2 (by simp)
    obtain ⟨⟨z6, z7⟩, ⟨u6, q6⟩, ⟨u7, q7⟩, t3, h3, kk3⟩ := HS.out W3 (F2.trans F23) v' ow3
    obtain ⟨vo, vc, rfl⟩ := own_form ow
    have q7' : (W3.setCell ⟨X, 6, none⟩ (.string jt)).cell? ⟨X, 7, none⟩ = some u7 := by rw [setCell_off (by decide)]; exact q7
    obtain ⟨W4, hW4⟩ : ∃ W4, (W3.setCell ⟨X, 6, none⟩ (.string jt)).setCell ⟨X, 7, none⟩ (.slice vo fl.length vc) = W4 := ⟨_, rfl⟩
    rw [hW4] at h3 kk3
    have HM4 : Hid _ := And.intro h3 kk3
    clear ow ow3 F2 F23 k3 HC HS h3 kk3
    generalize fl.length = n4 at *
    go_wp2_with fail
    refine (HL.out W3).mono ?_
    rintro e W5 ⟨rfl, rfl⟩
    clear HL
    go_wp2_with fail
    go_ret
    exact ⟨rfl, t3, HM4.out.1, HM4.out.2⟩
end
end Go.Proofs.YtmolfmgchbjnbaaGreatDoor
