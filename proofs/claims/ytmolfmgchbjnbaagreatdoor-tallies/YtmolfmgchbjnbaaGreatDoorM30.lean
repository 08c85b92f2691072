import Derived.Laws.IdiomCopy
import Derived.Shelf.Slices.Cells
import Derived.Shelf.Slices.Clone
import Derived.Test.YtmolfmgchbjnbaaGreatDoorM29
set_option linter.unusedSimpArgs false
set_option linter.unusedVariables false
namespace Go.Proofs.YtmolfmgchbjnbaaGreatDoor
open Go.RowKit
open Wire Flow Mach
theorem map_eraseIdxL {α β : Type} (f : α → β) : ∀ (l : List α) (j : Nat), (l.map f).eraseIdx j = (l.eraseIdx j).map f
  | [], _ => rfl
  | _ :: _, 0 => rfl
  | a :: l, j + 1 => by
    show f a :: (l.map f).eraseIdx j = f a :: (l.eraseIdx j).map f
    rw [map_eraseIdxL f l j]
theorem dropK_off {l : List (ByteArray × Val)} {k : ByteArray} (h : ∀ e ∈ l, e.1 ≠ k) : dropK l k = l := by
 unfold dropK
 exact List.filter_eq_self.2 fun e he => by simp [h e he]
theorem dropK_at {l : List (ByteArray × Val)} (hd : (keysA l).Nodup) {j : Nat} {k : ByteArray} {u : Val} (h : l[j]? = some (k, u)) : dropK l k = l.eraseIdx j := by
 induction l generalizing j with
 | nil => simp at h
 | cons a l ih =>
  have hd' : a.1 ∉ keysA l ∧ (keysA l).Nodup := List.nodup_cons.1 hd
  cases j with
  | zero =>
   have e : a = (k, u) := by simpa using h
   subst e
   show List.filter _ _ = l
   rw [List.filter_cons_of_neg (by simp)]
   exact dropK_off fun e he hk => hd'.1 (List.mem_map.2 ⟨e, he, hk⟩)
  | succ j =>
   have h' : l[j]? = some (k, u) := by simpa using h
   have hne : a.1 ≠ k := by
    rintro rfl
    exact hd'.1 (List.mem_map.2 ⟨_, List.mem_of_getElem? h', rfl⟩)
   show List.filter _ _ = a :: l.eraseIdx j
   rw [List.filter_cons_of_pos (by simp [hne])]
   congr 1
   exact ih hd'.2 h'
theorem hasK_at {l : List (ByteArray × Val)} {k : ByteArray} (h : hasK l k = true) : ∃ (j : Nat) (u : Val), l[j]? = some (k, u) := by
 rw [hasK_iff] at h
 obtain ⟨e, he, rfl⟩ := List.mem_map.1 h
 obtain ⟨j, hj⟩ := List.mem_iff_getElem?.1 he
 exact ⟨j, e.2, hj⟩
theorem delete_run {W : World} {b : Nat} {l : List (ByteArray × Val)} (hm : MapAt W b (entL l)) (hd : (keysA l).Nodup) (hs : ∀ e ∈ l, e.1.size ≤ 1048576) {key : ByteArray} (hk : key.size ≤ 1048576) (ty : TypeId) :
    ∃ es' clock', (Builtin.delete_ #[144, 9] ty #[.map (some b), .string key]).run Tryz.prog W = .ok (.tuple #[]) (setB W b (.map es' clock')) ∧ es'.toList.map (fun e => (e.key, e.val)) = entL (dropK l key) := by
  obtain ⟨es, clock, hb, he⟩ := hm
  have K := WideMaps.string_law (P := Tryz.prog) (k := 9) Tryz.underlying9
  have hkey := WideMaps.keyOf_string_mk (P := Tryz.prog) (k := 9) Tryz.underlying9 (s := key) (Nat.le_trans hk (by decide))
  have hmem : ∀ e ∈ es.toList, ∃ x ∈ l, e.key = .string x.1 ∧ e.val = vV x.2 := fun e hx => by
    have : (e.key, e.val) ∈ entL l := by rw [← he]; exact List.mem_map.2 ⟨e, hx, rfl⟩
    obtain ⟨x, hx, h⟩ := List.mem_map.1 this
    injection h with h1 h2
    exact ⟨x, hx, h1.symm, h2.symm⟩
  rcases K.find W hkey es.toList (fun e hx => by
    obtain ⟨x, hx, h1, -⟩ := hmem e hx
    rw [h1]
    exact ⟨_, WideMaps.keyOf_string_mk (P := Tryz.prog) (k := 9) Tryz.underlying9 (Nat.le_trans (hs x hx) (by decide))⟩) with ⟨h1, h2⟩ | ⟨j, e0, h1, h2, h3⟩
  · refine ⟨es, clock, ?_, ?_⟩
    · simp [Builtin.delete_, run_underlying Tryz.underlying144, MapKept.run_getObj_map hb, K.check W _ hkey, h1, MapKept.run_setObj_map _ hb, Result.andThen, setB]
    · rw [dropK_off (fun x hx hxk => by
        have : ((.string x.1 : Value), vV x.2) ∈ entL l := List.mem_map.2 ⟨x, hx, rfl⟩
        rw [← he] at this
        obtain ⟨e, hx', h⟩ := List.mem_map.1 this
        injection h with q1 q2
        exact h2 e hx' (by rw [q1, hxk])), he]
  · have : (entL l)[j]? = some (e0.key, e0.val) := by rw [← he, List.getElem?_map, h2]; rfl
    rw [entL, List.getElem?_map] at this
    obtain ⟨x, hx, h⟩ := Option.map_eq_some_iff.1 this
    obtain ⟨q1, q2⟩ := Prod.mk.inj h
    have hxk : x.1 = key := Value.string.inj (q1.trans h3)
    have hjs : j < es.size := by simpa using (List.getElem?_eq_some_iff.1 h2).1
    refine ⟨es.eraseIdxIfInBounds j, clock, ?_, ?_⟩
    · simp [Builtin.delete_, run_underlying Tryz.underlying144, MapKept.run_getObj_map hb, K.check W _ hkey, h1, MapKept.run_setObj_map _ hb, Result.andThen, setB]
    · have hsub : (es.eraseIdxIfInBounds j).toList = es.toList.eraseIdx j := by
        unfold Array.eraseIdxIfInBounds
        rw [dif_pos hjs]
        simp
      rw [dropK_at hd (j := j) (u := x.2) (by rw [hx, ← hxk]), hsub]
      unfold entL
      rw [← map_eraseIdxL, ← map_eraseIdxL, he]
      rfl
theorem own_sets {B : Nat} {e : TypeId} {z g n cap : Nat} : ∀ (us : List Value) (o : Nat) (w : World) (xs : List Value), w.ownsRow B e z (.slice (some ⟨g, 0, none⟩) n cap) n xs → o + us.length = n * z →
    (w.setCells g o us).ownsRow B e z (.slice (some ⟨g, 0, none⟩) n cap) n (xs.take o ++ us)
  | [], o, w, xs, h, ho => by
    have := h.1
    simp only [List.length_nil, Nat.add_zero] at ho
    rw [List.append_nil, List.take_of_length_le (by omega)]
    exact h
  | u :: us, o, w, xs, h, ho => by
    have hx := h.1
    simp only [List.length_cons] at ho
    have h1 := own_set h (j := o) (by omega) u
    have h2 := own_sets us (o + 1) _ _ h1 (by omega)
    have e1 : (xs.set o u).take (o + 1) ++ us = xs.take o ++ u :: us := by
      rw [List.take_set, List.take_succ_eq_append_getElem (by omega : o < xs.length), List.set_append_right _ _ (by simp; omega)]
      simp [Nat.min_eq_left (show o ≤ xs.length by omega)]
    rw [e1] at h2
    exact h2
theorem Chg.setCells {tag : Nat → Nat} {S : List Nat} {b : Nat} (hb : tag b ∈ S) : ∀ (us : List Value) (o : Nat) (W : World), Chg tag S W (W.setCells b o us)
  | [], o, W => Chg.refl tag S W
  | u :: us, o, W => by
    have h1 : Chg tag S W (W.setCell ⟨b, o, none⟩ u) := Chg.setCell W hb u
    have h2 := Chg.setCells hb us (o + 1) (W.setCell ⟨b, o, none⟩ u)
    exact ⟨h2.os.trans h1.os, h2.tape.trans h1.tape, h2.output.trans h1.output, Nat.le_trans h1.size h2.size, fun k hk hn => (h2.block k (Nat.lt_of_lt_of_le hk h1.size) hn).trans (h1.block k hk hn)⟩
theorem nodup_get {l : List ByteArray} (hd : l.Nodup) {j k : Nat} {x : ByteArray} (hj : l[j]? = some x) (hk : l[k]? = some x) : j = k := by
 obtain ⟨h1, e1⟩ := List.getElem?_eq_some_iff.1 hj
 obtain ⟨h2, e2⟩ := List.getElem?_eq_some_iff.1 hk
 have hp := List.pairwise_iff_getElem.1 hd
 rcases Nat.lt_trichotomy j k with c | c | c
 ·exact absurd (e1.trans e2.symm) (hp j k h1 h2 c)
 ·exact c
 ·exact absurd (e2.trans e1.symm) (hp k j h2 h1 c)
theorem order_drop {l : List (ByteArray × Val)} (hd : (keysA l).Nodup) {j : Nat} {k : ByteArray} {u : Val} (h : l[j]? = some (k, u)) :
  ((((Lib.strsOf (fun i => (keysA l).getD i ByteArray.empty) l.length).take j ++ (Lib.strsOf (fun i => (keysA l).getD i ByteArray.empty) l.length).drop (j + 1) ++ List.replicate (j + 1 - j) []).map encStr).take (l.length - 1)) = (keysA (dropK l k)).map Value.string := by
 have hj := (List.getElem?_eq_some_iff.1 h).1
 have hl : (keysA l).length = l.length := List.length_map _
 have e0 : (Lib.strsOf (fun i => (keysA l).getD i ByteArray.empty) l.length).map encStr = (keysA l).map Value.string := by
  apply List.ext_getElem
  ·simp [Lib.strsOf, keysA]
  ·intro i h1 h2
   have hi : i < (keysA l).length := by simpa using h2
   simp [Lib.strsOf, encStr, List.getD_eq_getElem?_getD, List.getElem?_eq_getElem hi]
 rw [dropK_at hd h, List.map_append, List.map_append, List.map_take, List.map_drop, e0]
 have e1 : keysA (l.eraseIdx j) = (keysA l).eraseIdx j := by unfold keysA; rw [map_eraseIdxL]
 rw [e1, ← map_eraseIdxL, List.eraseIdx_eq_take_drop_succ, List.take_append_of_le_length (by simp [hl]; omega)]
 exact List.take_of_length_le (by simp [hl]; omega)
section
variable {W : World} {tag : Nat → Nat} {lv : Nat → Bool} {R : Nat → Rw} {mp : Nat → Option (Nat × List (Value × Value))}
def RemP (W : World) (tag : Nat → Nat) (lv : Nat → Bool) (R : Nat → Rw) (mp : Nat → Option (Nat × List (Value × Value))) (i ga n cap b : Nat) (xs : List Value) (l : List (ByteArray × Val)) (key : ByteArray) (e : Ending) (W' : World) : Prop :=
 e = .returned unit ∧ ∃ tag' sv', Sto W' tag' lv (up (up R (21 + 2 * i) ⟨sv', 9, 1, l.length - 1, (keysA (dropK l key)).map .string⟩) 13 ⟨.slice (some ⟨ga, 0, none⟩) n cap, 146, 2, n, xs.set (i * 2 + 1) sv'⟩) (up mp (20 + 2 * i) (some (b, entL (dropK l key)))) ∧ Kp tag tag' W W'
theorem rem_sto (hS : Sto W tag lv R mp) {i ga n cap b : Nat} {xs : List Value} {sv : Value} {l : List (ByteArray × Val)} (l13 : lv 13 = true) (r13 : R 13 = ⟨.slice (some ⟨ga, 0, none⟩) n cap, 146, 2, n, xs⟩) (hin : i < n) (hn : n ≤ 1000) (lm : lv (21 + 2 * i) = true) (rm : R (21 + 2 * i) = ⟨sv, 9, 1, l.length, (keysA l).map .string⟩) (hx0 : xs[i * 2]? = some (.map (some b))) (hx1 : xs[i * 2 + 1]? = some sv) (hmp : mp (20 + 2 * i) = some (b, entL l)) (hh : l.length ≤ 100000) (hd : ArrOk l) {key : ByteArray} (hk : key.size ≤ 1048576) (hno : hasK l key = true) {W1 : World} (F : Fr [] W W1) :
  ∃ go sc j W2, j < l.length ∧ (Builtin.delete_ #[144, 9] 0 #[.map (some b), .string key]).run Tryz.prog W1 = .ok (.tuple #[]) W2 ∧ W1.cell? ⟨ga, i * 2, none⟩ = some (.map (some b)) ∧ W2.cell? ⟨ga, i * 2 + 1, none⟩ = some (.slice (some ⟨go, 0, none⟩) l.length sc) ∧
   Calls Tryz.prog 243 #[.slice (some ⟨go, 0, none⟩) l.length sc, .string key] W2 (fun e W' => e = .returned (.int .i64 (j : Nat)) ∧ W' = W2) ∧
   Calls Tryz.prog 279 #[.slice (some ⟨go, 0, none⟩) l.length sc, .int .i64 (j : Nat), .int .i64 ((j : Int) + 1)] W2 (fun e W3 => e = .returned (.slice (some ⟨go, 0, none⟩) (l.length - 1 : Nat) sc) ∧ W3.cell? ⟨ga, i * 2 + 1, none⟩ = some (.slice (some ⟨go, 0, none⟩) l.length sc) ∧ W3.frozen? ⟨ga, i * 2 + 1, none⟩ = false ∧ RemP W tag lv R mp i ga n cap b xs l key (.returned unit) (W3.setCell ⟨ga, i * 2 + 1, none⟩ (.slice (some ⟨go, 0, none⟩) (l.length - 1 : Nat) sc))) := by
 obtain ⟨j, u, hj⟩ := hasK_at hno
 have hjl := (List.getElem?_eq_some_iff.1 hj).1
 obtain ⟨hm, tb⟩ := hS.maps _ _ _ hmp
 have S1 := hS.frm F 6
 have K1 : Kp tag (newTag tag W.heap.size 6) W W1 := Kp.new F 6
 obtain ⟨hm1, tb1⟩ := S1.maps _ _ _ hmp
 obtain ⟨es', clock', hdl, hel⟩ := delete_run hm1 hd.1 hd.2 hk 0
 have o13 : W1.ownsRow 0 146 2 (.slice (some ⟨ga, 0, none⟩) n cap) n xs := by have := (S1.rows 13 l13).1; rw [r13] at this; exact this
 have hlf : lv (20 + 2 * i) = false := by
  rcases hq : lv (20 + 2 * i) with _ | _
  ·rfl
  ·have := hS.far _ hq
   rw [hmp] at this
   cases this
 have c1 : Chg (newTag tag W.heap.size 6) [20 + 2 * i] W1 (setB W1 b (.map es' clock')) := by rw [← tb1]; exact setB_chg W1 _ _
 have S2 := S1.map (b := b) (l := entL (dropK l key)) hlf (by omega) c1 (fun _ _ => rfl) ⟨es', clock', setB_same W1 _ hm1.lt, hel⟩ tb1
 have K2 := K1.trans (Kp.chg c1 (fun _ _ => rfl) (by simp; omega))
 generalize hW2 : setB W1 b (.map es' clock') = W2 at *
 have om : W2.ownsRow 0 9 1 sv l.length ((keysA l).map .string) := by have := (S2.rows _ lm).1; rw [rm] at this; exact this
 have tm : Tg (newTag tag W.heap.size 6) sv (21 + 2 * i) := by have := (S2.rows _ lm).2; rw [rm] at this; exact this
 obtain ⟨go, sc, rfl, hsc, hgo⟩ := own_some om (by omega)
 have o13' : W2.ownsRow 0 146 2 (.slice (some ⟨ga, 0, none⟩) n cap) n xs := by have := (S2.rows 13 l13).1; rw [r13] at this; exact this
 have hcell : ∀ q, q < l.length → W2.cell? ⟨go, q, none⟩ = some (.string ((keysA l).getD q ByteArray.empty)) := fun q hq => by
  have hq' : q < (keysA l).length := by unfold keysA; rw [List.length_map]; exact hq
  refine own_cell om ?_
  rw [List.getElem?_map, List.getElem?_eq_getElem hq', List.getD_eq_getElem?_getD, List.getElem?_eq_getElem hq']
  rfl
 have hkl : (keysA l).length = l.length := List.length_map _
 have hjk : (keysA l)[j]? = some key := by unfold keysA; rw [List.getElem?_map, hj]; rfl
 have hix : Lib.idxOfS ((keysA l).take l.length) key = (j : Nat) := by
  rw [List.take_of_length_le (by omega)]
  have := Lib.idxFromS_hit key (keysA l) j 0 (by omega) (by rw [List.getD_eq_getElem?_getD, hjk]; rfl) (fun q hq hqk => by
   have hq' : q < (keysA l).length := by omega
   rw [List.getD_eq_getElem?_getD, List.getElem?_eq_getElem hq'] at hqk
   have hqk' : (keysA l)[q]? = some key := by rw [List.getElem?_eq_getElem hq']; exact congrArg some hqk
   have := nodup_get hd.1 hjk hqk'
   omega)
  unfold Lib.idxOfS
  rw [this]
  simp
 have I := Tryz.slices_Index_string go 0 l.length sc (keysA l) key W2 (by omega) (by omega) (fun q hq => by rw [Nat.zero_add]; exact hcell q (by omega))
 rw [hix] at I
 have hcap : sc ≤ 9223372036854775807 := by
  rcases om.2 with ⟨h', _⟩ | ⟨g', cap', cur, h', hb, hg, hnc, hcm, hcs, ht⟩
  ·cases h'
  ·simp only [Value.slice.injEq, Option.some.injEq, Addr.mk.injEq, and_true, true_and] at h'
   obtain ⟨rfl, rfl⟩ := h'
   have := hcm
   unfold maxLen at this
   omega
 have D := Tryz.slices_Delete_string_cells go 0 l.length sc j (j + 1) (fun q => (keysA l).getD q ByteArray.empty) W2 hsc hcap (by omega) (by omega) (fun q hq => by rw [Nat.zero_add]; exact hcell q hq) (fun q hq => own_thaw om _)
 refine ⟨go, sc, j, W2, hjl, hdl, own_cell o13 hx0, own_cell o13' hx1, I, ?_⟩
 refine D.mono ?_
 rintro e W3 ⟨rfl, q, rfl⟩
 have F3 : Fr [] W2 (W2.drewN q) := (Fr.refl [] W2).drewN q
 have S3 := S2.kp (tag' := newTag tag W.heap.size 6) F3 (fun _ _ => rfl)
 have om3 : (W2.drewN q).ownsRow 0 9 1 (.slice (some ⟨go, 0, none⟩) l.length sc) l.length ((keysA l).map .string) := by have := (S3.rows _ lm).1; rw [rm] at this; exact this
 have tgo : newTag tag W.heap.size 6 go = 21 + 2 * i := tm go rfl
 have hod := order_drop hd.1 hj
 have hul : (((Lib.strsOf (fun i => (keysA l).getD i ByteArray.empty) l.length).take j ++ (Lib.strsOf (fun i => (keysA l).getD i ByteArray.empty) l.length).drop (j + 1) ++ List.replicate (j + 1 - j) []).map encStr).length = l.length := by
  have := Lib.strsOf_length (fun i => (keysA l).getD i ByteArray.empty) l.length
  generalize Lib.strsOf (fun i => (keysA l).getD i ByteArray.empty) l.length = q at this
  simp
  omega
 generalize ((Lib.strsOf (fun i => (keysA l).getD i ByteArray.empty) l.length).take j ++ (Lib.strsOf (fun i => (keysA l).getD i ByteArray.empty) l.length).drop (j + 1) ++ List.replicate (j + 1 - j) []).map encStr = us at *
 have o4 := own_sets us 0 _ _ om3 (by omega)
 rw [List.take_zero, List.nil_append] at o4
 have c4 : Chg (newTag tag W.heap.size 6) [21 + 2 * i] (W2.drewN q) ((W2.drewN q).setCells go 0 us) := Chg.setCells (by rw [tgo]; simp) us 0 _
 have hfar : up mp (20 + 2 * i) (some (b, entL (dropK l key))) (21 + 2 * i) = none := by rw [up_off _ _ (by omega)]; exact hS.far _ lm
 have S4 := S3.turn (i := 21 + 2 * i) (tag' := newTag tag W.heap.size 6) hfar (by omega) c4 (fun _ _ => rfl) (r := ⟨.slice (some ⟨go, 0, none⟩) l.length sc, 9, 1, l.length, us⟩) o4 tm
 rw [up_true lm] at S4
 have S5 := S4.cut (i := 21 + 2 * i) (n' := l.length - 1) lm (up_same _ _ _) (by omega)
 rw [up_up, Nat.mul_one, hod] at S5
 have r13' : up R (21 + 2 * i) ⟨.slice (some ⟨go, 0, none⟩) (l.length - 1 : Nat) sc, 9, 1, l.length - 1, (keysA (dropK l key)).map .string⟩ 13 = ⟨.slice (some ⟨ga, 0, none⟩) n cap, 146, 2, n, xs⟩ := by rw [up_off _ _ (by omega)]; exact r13
 obtain ⟨S6, K6⟩ := S5.put l13 r13' (j := i * 2 + 1) (by omega) (.slice (some ⟨go, 0, none⟩) (l.length - 1 : Nat) sc)
 have o5 : ((W2.drewN q).setCells go 0 us).ownsRow 0 146 2 (.slice (some ⟨ga, 0, none⟩) n cap) n xs := by have := (S5.rows 13 l13).1; rw [r13'] at this; exact this
 refine ⟨by rw [show l.length - (j + 1 - j) = l.length - 1 by omega], own_cell o5 hx1, own_thaw o5 _, rfl, _, _, S6, ?_⟩
 exact ((K2.trans (Kp.of_fr F3 fun _ _ => rfl)).trans (Kp.chg c4 (fun _ _ => rfl) (by simp; omega))).trans K6
set_option maxRecDepth 100000 in
set_option maxHeartbeats 4000000 in
theorem rem_any (hS : Sto W tag lv R mp) {i ga n cap b : Nat} {xs : List Value} {sv : Value} {l : List (ByteArray × Val)} (l13 : lv 13 = true) (r13 : R 13 = ⟨.slice (some ⟨ga, 0, none⟩) n cap, 146, 2, n, xs⟩) (hin : i < n) (hn : n ≤ 1000) (lm : lv (21 + 2 * i) = true) (rm : R (21 + 2 * i) = ⟨sv, 9, 1, l.length, (keysA l).map .string⟩) (hx0 : xs[i * 2]? = some (.map (some b))) (hx1 : xs[i * 2 + 1]? = some sv) (hmp : mp (20 + 2 * i) = some (b, entL l)) (hh : l.length ≤ 100000) (hd : ArrOk l) {key : ByteArray} (hk : key.size ≤ 1048576) (hno : hasK l key = true) :
  Calls Tryz.prog 208 #[.pointer (some ⟨ga, i * 2, none⟩), .string key] W (RemP W tag lv R mp i ga n cap b xs l key) := by
 have o13 : W.ownsRow 0 146 2 (.slice (some ⟨ga, 0, none⟩) n cap) n xs := by have := (hS.rows 13 l13).1; rw [r13] at this; exact this
 have hgl : ga < W.heap.size := (o13.lt ga rfl).2
 obtain ⟨hm, tb⟩ := hS.maps _ _ _ hmp
 have HH : Hid _ := fun (_ : Unit) => hasA_any ga (i * 2) b key W (own_cell o13 hx0) hm hd.1 hd.2 hk
 rw [hno] at HH
 have HG : Hid _ := fun (W1 : World) (F : Fr [] W W1) => rem_sto hS l13 r13 hin hn lm rm hx0 hx1 hmp hh hd hk hno F
 generalize hP : RemP W tag lv R mp i ga n cap b xs l key = PP at HG ⊢
 generalize hL : l.length = L at HG hh
 clear hS l13 r13 lm rm hx0 hx1 hmp hd hno o13 hm tb hgl hP hL
 go_enter Tryz.func208, Tryz.ntmps208
 go_wp2_with fail
 refine (HH.out ()).mono ?_
 rintro e W1 ⟨rfl, F1⟩
 obtain ⟨go, sc, j, W2, hj, hdl, c0, c1, HI, HD⟩ := HG.out W1 F1
 have hI : Hid _ := fun (_ : Unit) => HI
 have hD : Hid _ := fun (_ : Unit) => HD
 have hw : IntKind.i64.wrap ((j : Int) + 1) = (j : Int) + 1 := by rw [IntKind.wrap_i64]; omega
 clear HI HD HG HH F1
 go_wp2_with fail
 refine (hI.out ()).mono ?_
 rintro e W3 ⟨rfl, rfl⟩
 clear hI
 go_wp2_with fail
 refine (hD.out ()).mono ?_
 rintro e W4 ⟨rfl, c4, z4, hP⟩
 have HP : Hid _ := hP
 clear hP hD
 go_wp2_with fail
 refine bodyPost_end (results_none rfl _ _ _) rfl ?_
 exact HP.out
end
end Go.Proofs.YtmolfmgchbjnbaaGreatDoor
namespace Go.Proofs.YtmolfmgchbjnbaaGreatDoor
open Go.RowKit
open Wire Flow Mach
section
variable {E : Env} {X : Nat} {g : Pl} {s : Ms} {W W' : World} {tag : Nat → Nat}
theorem onArr_same (s : Ms) (i : Nat) : onArr s i (s.w.arrs.getD i []) = s := by
 have e : s.w.arrs.set i (s.w.arrs.getD i []) = s.w.arrs := by
  rcases Nat.lt_or_ge i s.w.arrs.length with c | c
  ·rw [List.getD_eq_getElem?_getD, List.getElem?_eq_getElem c]
   exact List.set_getElem_self c
  ·exact List.set_eq_of_length_le c
 unfold onArr
 rw [e]
theorem dropK_len {l : List (ByteArray × Val)} {k : ByteArray} (hd : ArrOk l) (h : hasK l k = true) : (dropK l k).length = l.length - 1 := by
 obtain ⟨j, u, hj⟩ := hasK_at h
 rw [dropK_at hd.1 hj, List.length_eraseIdx, if_pos (List.getElem?_eq_some_iff.1 hj).1]
theorem dropK_none {l : List (ByteArray × Val)} {k : ByteArray} (h : hasK l k = false) : dropK l k = l := dropK_off fun e he hk => by
 have : hasK l k = true := hasK_iff.2 (List.mem_map.2 ⟨e, he, hk⟩)
 rw [this] at h
 cases h
set_option maxRecDepth 100000 in
set_option maxHeartbeats 4000000 in
theorem rem_off (A o b : Nat) {l : List (ByteArray × Val)} (key : ByteArray) (W : World) (h0 : W.cell? ⟨A, o, none⟩ = some (.map (some b))) (hm : MapAt W b (entL l)) (hd : ArrOk l) (hk : key.size ≤ 1048576) (hh : hasK l key = false) :
  Calls Tryz.prog 208 #[.pointer (some ⟨A, o, none⟩), .string key] W fun e W' => e = .returned unit ∧ Fr [] W W' := by
 have HH : Hid _ := fun (_ : Unit) => hasA_any A o b key W h0 hm hd.1 hd.2 hk
 rw [hh] at HH
 clear hm hd h0 hh
 go_enter Tryz.func208, Tryz.ntmps208
 go_wp2_with fail
 refine (HH.out ()).mono ?_
 rintro e W1 ⟨rfl, F1⟩
 have HF : Hid _ := F1
 clear F1 HH
 go_wp2_with fail
 refine bodyPost_ret (results_none rfl _ _ _) rfl ?_
 exact ⟨rfl, HF.out⟩
theorem MM.remove (h : MM E X g s W tag) {ga c : Nat} (hg : g.av = .slice (some ⟨ga, 0, none⟩) s.w.arrs.length c) {i : Nat} (hi : i < s.w.arrs.length) {key : ByteArray} (hk : key.size ≤ 1048576) (ho : ArrOk (s.w.arrs.getD i [])) (hf : (s.w.arrs.getD i []).length ≤ 100000) :
  Calls Tryz.prog 208 #[.pointer (some ⟨ga, i * 2, none⟩), .string key] W (MP E X g (onArr s i (dropK (s.w.arrs.getD i []) key)) tag W unit) := by
 rcases hh : hasK (s.w.arrs.getD i []) key with _ | _
 ·rw [dropK_none hh, onArr_same]
  obtain ⟨b, ov, c0, c1, hm, ow⟩ := h.arrAt hg hi
  refine (rem_off ga (i * 2) b key W c0 hm ho hk hh).mono fun e W' ⟨he, F⟩ => ?_
  obtain ⟨t', h', k'⟩ := h.fr F
  exact ⟨he, t', h', k'⟩
 obtain ⟨h6, lv, R, mp, x, hx, h⟩ := h
 have r13 := h.rA
 rw [hx.2, hg] at r13
 have e := fun t (ht : t < 2) => rng_get (n := s.w.arrs.length) (z := 2) (f := fun i => [Value.map (some (x.A i).1), (x.A i).2]) (fun _ _ => rfl) hi ht
 obtain ⟨a1, a2, a3⟩ := h.arr i hi
 refine (rem_any h.S h.lA r13 hi h.nA a2 a3 ((e 0 (by decide)).trans rfl) ((e 1 (by decide)).trans rfl) a1 hf ho hk hh).mono fun ee W' ⟨he, t', sv', S, K⟩ => ⟨he, t', ⟨Nat.le_trans h6 K.size, lv, _, _, onA x i ((x.A i).1, sv'), hx, h.rearr h6 hi (l := dropK (s.w.arrs.getD i []) key) K S ?_ ?_ ?_ ?_ ?_⟩, K⟩
 ·rw [up_same, hx.2, hg]
 ·rw [up_off _ _ (by omega), up_same, dropK_len ho hh]
 ·intro q h1 h2
  rw [up_off _ _ h1, up_off _ _ h2]
 ·exact up_same _ _ _
 ·intro q h1
  exact up_off _ _ h1
set_option maxRecDepth 100000 in
set_option maxHeartbeats 4000000 in
theorem MM.adel (hE : EnvOk E) (h : MM E X g s W tag) {l : List Cell} {v : Val} (hs : s.fr.stk = l ++ [cv v]) (hl : s.fr.stk.length ≤ 1024) (hv : SmV v) (hx : (textV E v).size ≤ 1048576) {a : Nat} (ha : a < s.w.arrs.length) (hk : ArrOk (s.w.arrs.getD a [])) (hn : s.w.arrs.length ≤ 1000) (hn2 : (s.w.arrs.getD a []).length ≤ 100000) (pl b q : Int) :
  Calls Tryz.prog 119 #[ptr X, fp g s, inV 14 pl (a : Nat) b q] W (MP E X g (onArr (onStk s l) a (dropK (s.w.arrs.getD a []) (textV E v))) tag W (stI 0)) := by
 have hm : Tryz.prog.follows Departure.mixedOrders = true := by kernel_rfl
 obtain ⟨W1, hW1, F1, ⟨b0, b1, b2, b3, b4⟩, l1⟩ := box5 W 14 pl (a : Nat) b q
 obtain ⟨t1, h1, k1, hb1⟩ := MM.box h F1
 obtain ⟨ga, c, hg⟩ := h.avS ha
 have HM1 : Hid _ := And.intro h1 k1
 have x9 := h1.avc
 rw [hg] at x9
 have HP : Hid _ := fun (W1 : World) (t1 : Nat → Nat) (h1 : MM E X g s W1 t1) => MM.popText hE h1 hs hl hv
 have HH : Hid _ := fun (W1 : World) (t1 : Nat → Nat) (h1 : MM E X g (onStk s l) W1 t1) => MM.remove h1 hg (i := a) ha hx hk hn2
 replace HH : Hid (∀ (W1 : World) (t1 : Nat → Nat), MM E X g (onStk s l) W1 t1 → Calls Tryz.prog 208 #[.pointer (some ⟨ga, a * 2, none⟩), .string (textV E v)] W1 (MP E X g (onArr (onStk s l) a (dropK (s.w.arrs.getD a []) (textV E v))) t1 W1 unit)) := HH
 generalize onArr (onStk s l) a (dropK (s.w.arrs.getD a []) (textV E v)) = s2 at HH ⊢
 generalize textV E v = tx at HP HH
 clear h h1 k1 F1 l1 hb1 hx hk hn2
 have hi' : (a : Int) < s.w.arrs.length := by omega
 go_enter Tryz.func119, Tryz.ntmps119
 go_wp2_with fail
 refine wp_region_lex hm (by kernel_rfl) ?_
 repeat still_step
 refine wpStill_nil ?_
 have F2 : Fr [] W1 W1.drew := (Fr.refl [] W1).drew
 obtain ⟨t2, h2, k2⟩ := MM.fr HM1.out.1 F2
 have HM2 : Hid _ := And.intro h2 (HM1.out.2.trans k2)
 have HK2 : Hid _ := k2
 clear h2 k2 F2
 go_wp2_with fail
 refine (HP.out W1.drew t2 HM2.out.1).mono ?_
 rintro e W3 ⟨rfl, t3, h3, k3⟩
 have HM3 : Hid _ := And.intro h3 (HM2.out.2.trans k3)
 have HK3 : Hid _ := k3
 clear h3 k3 HP
 go_wp2_with fail
 refine (HH.out W3 t3 HM3.out.1).mono ?_
 rintro e W4 ⟨rfl, t4, h4, k4⟩
 have HM4 : Hid _ := And.intro h4 (HM3.out.2.trans k4)
 have HK4 : Hid _ := k4
 clear h4 k4 HH
 go_wp2_with fail
 go_ret
 exact ⟨rfl, t4, HM4.out.1, HM4.out.2⟩
end
end Go.Proofs.YtmolfmgchbjnbaaGreatDoor
namespace Go.Proofs.YtmolfmgchbjnbaaGreatDoor
open Go.RowKit
open Wire Flow Mach
theorem RoL.of_own {W : World} {tag : Nat → Nat} {B n : Nat} {e : TypeId} {v : Value} {xs : List Value} (h : W.ownsRow B e 1 v n xs) (ht : ∀ g, B ≤ g → g < W.heap.size → tag g = 9) : RoL W tag v xs := by
 have hl := h.1
 rw [Nat.mul_one] at hl
 rcases h.2 with ⟨rfl, rfl⟩ | ⟨g, cap, cur, rfl, hb, hg, hnc, hcm, hcs, hx⟩
 ·exact ⟨none, 0, by rw [hl], by omega, by omega, fun h0 => by omega⟩
 ·have hgl := (Array.getElem?_eq_some_iff.1 hg).1
  refine ⟨some ⟨g, 0, none⟩, cap, by rw [hl], by omega, by unfold maxLen at hcm; omega, fun h0 => ⟨g, 0, rfl, hgl, ht g hb hgl, fun i x hi => ?_⟩⟩
  rw [Nat.zero_add]
  exact own_cell h hi
set_option maxRecDepth 100000 in
set_option maxHeartbeats 4000000 in
theorem keys_any (A o : Nat) {sv : Value} {L : List ByteArray} (W : World) (h1 : W.cell? ⟨A, o + 1, none⟩ = some sv) (ow : W.ownsRow 0 9 1 sv L.length (L.map .string)) (hn : L.length ≤ 100000) :
  Calls Tryz.prog 211 #[.pointer (some ⟨A, o, none⟩)] W fun e W' => ∃ v', e = .returned v' ∧ Fr [] W W' ∧ W'.ownsRow W.heap.size 9 1 v' L.length (L.map .string) := by
 have HC : Hid (Unit → Calls Tryz.prog 107 #[sv] W fun e W' => ∃ v', e = .returned v' ∧ Fr [] W W' ∧ W'.ownsRow W.heap.size 9 1 v' L.length (L.map .string)) := fun _ => by
  rcases ow.2 with ⟨rfl, h0⟩ | ⟨g, cap, cur, rfl, hb, hg, hnc, hcm, hcs, hx⟩
  ·refine (Tryz.slices_Clone_string_nil 0 0 W).mono ?_
   rintro e W' ⟨rfl, rfl⟩
   have : L = [] := by simpa using h0
   subst this
   exact ⟨_, rfl, Fr.refl [] _, rfl, .inl ⟨rfl, rfl⟩⟩
  ·have hcell : ∀ q, q < L.length → W.cell? ⟨g, 0 + q, none⟩ = some (.string (L.getD q ByteArray.empty)) := fun q hq => by
    rw [Nat.zero_add]
    refine own_cell ow ?_
    rw [List.getElem?_map, List.getElem?_eq_getElem hq, List.getD_eq_getElem?_getD, List.getElem?_eq_getElem hq]
    rfl
   refine (Tryz.slices_Clone_string g 0 L.length cap L W (Nat.le_refl _) (by omega) hcell).mono ?_
   rintro e W' ⟨v', rfl, hown, -, hB⟩
   rw [List.take_of_length_le (Nat.le_refl _)] at hown
   exact ⟨v', rfl, Fr.of_below hB, hown⟩
 obtain ⟨so, sc, rfl⟩ := own_form ow
 clear ow
 generalize L.length = n at HC h1 hn ⊢
 generalize L.map Value.string = xs at HC ⊢
 go_enter Tryz.func211, Tryz.ntmps211
 go_wp2_with fail
 refine (HC.out ()).mono ?_
 rintro e W2 ⟨v', rfl, F, ow⟩
 obtain ⟨vo, vc, rfl⟩ := own_form ow
 have HF : Hid _ := And.intro F ow
 clear F ow HC
 go_wp2_with fail
 go_ret
 exact ⟨_, rfl, HF.out.1, HF.out.2⟩
section
variable {E : Env} {X : Nat} {g : Pl} {s : Ms} {W W' : World} {tag tag' : Nat → Nat}
theorem MR.norm {lv : Nat → Bool} {R : Nat → Rw} {mp : Nat → Option (Nat × List (Value × Value))} {x : Mx} (h : MR E X g.g s W tag lv R mp x) : MR E X g.g s W tag lv R (fun q => if q < 5000 then mp q else none) x := by
 refine { h with S := ⟨h.S.rows, fun i b l hm => ?_, fun i hi => ?_, fun i hi => ?_⟩, arr := fun i hi => ?_ }
 ·split at hm
  ·exact h.S.maps i b l hm
  ·cases hm
 ·show (if i < 5000 then mp i else none) = none
  split
  ·exact h.S.far i hi
  ·rfl
 ·refine h.S.num i (hi.imp id fun c => ?_)
  intro hc
  apply c
  show (if i < 5000 then mp i else none) = none
  split
  ·exact hc
  ·rfl
 ·have := h.nA
  obtain ⟨a, b, c⟩ := h.arr i hi
  refine ⟨?_, b, c⟩
  show (if 20 + 2 * i < 5000 then mp (20 + 2 * i) else none) = _
  rw [if_pos (by omega)]
  exact a
theorem keys_at (h : MM E X g s W tag) (hl : s.fr.stk.length < 1024) {ga c : Nat} (hg : g.av = .slice (some ⟨ga, 0, none⟩) s.w.arrs.length c) {i : Nat} (hi : i < s.w.arrs.length) {W1 : World} (F1 : Fr [] W W1) {v' : Value} {L : List ByteArray} (ow : W1.ownsRow W.heap.size 9 1 v' L.length (L.map .string)) :
  Calls Tryz.prog 210 #[fp g s, ptr W1.heap.size] (W1.alloc (.cells #[.pointer (some ⟨ga, i * 2, none⟩), v'] 315)) (MP E X g (onStk s (s.fr.stk ++ [⟨true, nothing, i, L⟩])) tag W unit) := by
 obtain ⟨h6, lv, R, mp, x, hx, h⟩ := h
 replace h := h.norm
 generalize hmp : (fun q => if q < 5000 then mp q else none) = mp' at h
 have hnone : mp' (10000 + 1024 * s.low.length + s.fr.stk.length) = none := by
  rw [← hmp]
  show (if _ < 5000 then _ else _) = _
  rw [if_neg (by omega)]
 obtain ⟨⟨cap, r11, hv⟩, lm, rm, hxx⟩ := h.top
 have hn := h.nF
 have S1 := h.S.frm F1 9
 have K1 : Kp tag (newTag tag W.heap.size 9) W W1 := Kp.new F1 9
 have hnew := World.alloc_heap_new W1 (.cells #[.pointer (some ⟨ga, i * 2, none⟩), v'] 315)
 have F2 : Fr [] W1 (W1.alloc (.cells #[.pointer (some ⟨ga, i * 2, none⟩), v'] 315)) := (Fr.refl [] W1).alloc _
 generalize W1.alloc (.cells #[.pointer (some ⟨ga, i * 2, none⟩), v'] 315) = W2 at hnew F2 ⊢
 obtain ⟨S2, K2⟩ := S1.new (i := 10000 + 1024 * s.low.length + s.fr.stk.length) (r := ⟨.slice (some ⟨W1.heap.size, 0, none⟩) 1 1, 315, 2, 1, [.pointer (some ⟨ga, i * 2, none⟩), v']⟩) hnone (by omega) F2 (own_one hnew rfl) (fun q hq => by
  have : W1.heap.size = q := by simpa [Value.ownBlock] using hq
  omega)
 have hro : RoL W1 (newTag tag W.heap.size 9) v' (L.map .string) := RoL.of_own ow fun q hq _ => newTag_new hq
 refine (pushKeys_any S2 (m := 5000 + s.low.length) (k := s.low.length) (g := g.g) (n := s.low.length + 1) (cap := cap) (h := s.fr.stk.length) (ys := stkC (x.F s.low.length).pw s.fr.stk) (sv := (x.F s.low.length).sv) (by rw [up_off _ _ (by omega)]; exact h.lF) (by rw [up_off _ _ (by omega)]; exact r11) (Nat.lt_succ_self _) (by omega) (by rw [up_off _ _ (by omega)]; exact lm) (by rw [up_off _ _ (by omega)]; exact rm) hxx (by omega) W1.heap.size).mono fun e W' ⟨he, tag', sv', hS, k⟩ => ?_
 have K := (K1.trans K2).trans k
 refine ⟨he, tag', ⟨Nat.le_trans h6 K.size, _, _, mp', onF x s.low.length _, hx, h.restack h6 (l := s.fr.stk ++ [⟨true, nothing, i, L⟩]) (pw := up (x.F s.low.length).pw s.fr.stk.length W1.heap.size) (sv := sv') K hS ?_ ?_ ?_ ?_ ?_⟩, K⟩
 ·intro q hq
  by_cases e : q = 10000 + 1024 * s.low.length + s.fr.stk.length
  ·rw [e, up_same]
  ·rw [up_off _ _ e]; exact hq
 ·rw [up_same, hv]
 ·rw [up_off _ _ (by omega), up_same, stkC_push, up_same, stkC_pw (pw := (x.F s.low.length).pw) (fun j hj => up_off _ _ (by omega)), List.length_append]
  rfl
 ·intro q h1 h2 h3
  rw [up_off _ _ h1, up_off _ _ h2, up_off _ _ (by omega)]
 ·intro j c hj hc
  rcases Nat.lt_or_ge j s.fr.stk.length with c1 | c1
  ·rw [List.getElem?_append_left c1] at hj
   obtain ⟨w1, w2, w3, ga', ca, lf, w4, w5, w6⟩ := h.wlk s.low.length j c (Nat.le_refl _) (by rw [fAt_top]; exact hj) hc
   refine ⟨w1, w2, ?_, ga', ca, lf, w4, ?_, w6.kp K⟩
   ·rw [up_off _ _ (by omega)]; exact w3
   ·rw [up_off _ _ (by omega), up_off _ _ (by omega), up_off _ _ (by omega), up_off _ _ (by omega)]
    exact w5
  ·rw [List.getElem?_append_right c1] at hj
   have e0 : j = s.fr.stk.length := by
    rcases e : j - s.fr.stk.length with _ | q
    ·omega
    ·rw [e] at hj; simp at hj
   subst e0
   have : c = ⟨true, nothing, i, L⟩ := by simpa using hj.symm
   subst this
   refine ⟨hl, hi, up_same _ _ _, ga, _, v', hx.2.trans hg, ?_, hro.kp (K2.trans k)⟩
   rw [up_off _ _ (by omega), up_off _ _ (by omega), up_same, up_same]
end
end Go.Proofs.YtmolfmgchbjnbaaGreatDoor
namespace Go.Proofs.YtmolfmgchbjnbaaGreatDoor
open Go.RowKit
open Wire Flow Mach
theorem build199 (ga o n c : Nat) (vo : Option Addr) (w : World) : (Instr.build 315 #[(0, .pointer (some ⟨ga, o, none⟩)), (1, .slice vo n c)]).run Tryz.prog w = .ok (.agg #[.pointer (some ⟨ga, o, none⟩), .slice vo n c]) w := by
 kernel_rfl
section
variable {E : Env} {X : Nat} {g : Pl} {s : Ms} {W W' : World} {tag : Nat → Nat}
set_option maxRecDepth 100000 in
set_option maxHeartbeats 4000000 in
theorem MM.keysOp (h : MM E X g s W tag) (hl : s.fr.stk.length < 1024) {a : Nat} (ha : a < s.w.arrs.length) (hn : s.w.arrs.length ≤ 1000) (hn2 : (s.w.arrs.getD a []).length ≤ 100000) (pl b q : Int) :
  Calls Tryz.prog 119 #[ptr X, fp g s, inV 16 pl (a : Nat) b q] W (MP E X g (onStk s (s.fr.stk ++ [⟨true, nothing, a, keysA (s.w.arrs.getD a [])⟩])) tag W (stI 0)) := by
 have hm : Tryz.prog.follows Departure.mixedOrders = true := by kernel_rfl
 obtain ⟨W1, hW1, F1, ⟨b0, b1, b2, b3, b4⟩, l1⟩ := box5 W 16 pl (a : Nat) b q
 obtain ⟨t1, h1, k1, hb1⟩ := MM.box h F1
 obtain ⟨ga, c, hg⟩ := h.avS ha
 have HM1 : Hid _ := And.intro h1 k1
 have x9 := h1.avc
 rw [hg] at x9
 have hkl : (keysA (s.w.arrs.getD a [])).length = (s.w.arrs.getD a []).length := List.length_map _
 have HP : Hid _ := fun (W1 : World) (t1 : Nat → Nat) (h1 : MM E X g s W1 t1) => by
  obtain ⟨b, ov, c0, c1, hm, ow⟩ := h1.arrAt hg ha
  rw [← hkl] at ow
  exact keys_any ga (a * 2) W1 c1 ow (by omega)
 have HK : Hid _ := fun (W1 : World) (t1 : Nat → Nat) (h1 : MM E X g s W1 t1) (W2 : World) (F2 : Fr [] W1 W2) (v' : Value) (ow : W2.ownsRow W1.heap.size 9 1 v' (keysA (s.w.arrs.getD a [])).length ((keysA (s.w.arrs.getD a [])).map .string)) => keys_at h1 hl hg ha F2 ow
 generalize onStk s (s.fr.stk ++ [⟨true, nothing, a, keysA (s.w.arrs.getD a [])⟩]) = s2 at HK ⊢
 generalize keysA (s.w.arrs.getD a []) = L at HP HK
 clear h h1 k1 F1 l1 hb1 hkl hn2
 have hi' : (a : Int) < s.w.arrs.length := by omega
 go_enter Tryz.func119, Tryz.ntmps119
 go_wp2_with fail
 refine wp_region_lex hm (by kernel_rfl) ?_
 repeat still_step
 refine wpStill_nil ?_
 have F2 : Fr [] W1 W1.drew := (Fr.refl [] W1).drew
 obtain ⟨t2, h2, k2⟩ := MM.fr HM1.out.1 F2
 have HM2 : Hid _ := And.intro h2 (HM1.out.2.trans k2)
 have HK2 : Hid _ := k2
 clear h2 k2 F2
 go_wp2_with fail
 refine (HP.out W1.drew t2 HM2.out.1).mono ?_
 rintro e W3 ⟨v', rfl, F3, ow⟩
 have hk := HK.out _ _ HM2.out.1 W3 F3 v' ow
 obtain ⟨vo, vc, rfl⟩ := own_form ow
 have hbd := build199 ga (a * 2) L.length vc vo
 have Hk : Hid _ := fun (_ : Unit) => hk
 clear hk ow F3 HP HK
 generalize L.length = n at Hk hbd
 go_wp2_with fail
 refine (Hk.out ()).mono ?_
 rintro e W5 ⟨rfl, t5, h5, k5⟩
 have HM5 : Hid _ := And.intro h5 (HM2.out.2.trans k5)
 clear h5 k5 Hk
 go_wp2_with fail
 go_ret
 exact ⟨rfl, t5, HM5.out.1, HM5.out.2⟩
end
end Go.Proofs.YtmolfmgchbjnbaaGreatDoor
