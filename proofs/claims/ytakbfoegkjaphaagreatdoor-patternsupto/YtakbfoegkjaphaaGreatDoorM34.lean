/-
  mark: a list that came out is marked and made longer. looks: all lists that came out still read as the caller has written them.
-/
import Derived.Test.YtakbfoegkjaphaaGreatDoorM33
set_option linter.unusedSimpArgs false
set_option linter.unusedVariables false
namespace Go.Proofs.YtakbfoegkjaphaaGreatDoor
open Go.RowKit

theorem info52 : (Tryz.prog.info? 52).map (fun i => (i.zero, i.size, i.bytes)) = some (some (.agg #[.string ⟨#[]⟩, .slice none 0 0, .slice none 0 0, .slice none 0 0, .slice none 0 0]), 5, 112) := by kernel_rfl

theorem reps_set (L : List ByteArray) (k : Nat) (m : ByteArray) (hk : k < L.length) :
    (reps k m ++ (L.map Value.string).drop k).set k (.string m) = reps (k + 1) m ++ (L.map Value.string).drop (k + 1) := by
  have hl : (reps k m).length = k := by simp [reps]
  rw [List.set_append_right _ _ (by omega), hl, Nat.sub_self, List.drop_eq_getElem_cons (by simpa using hk), List.set_cons_zero]
  have : reps (k + 1) m = reps k m ++ [.string m] := by unfold reps; rw [List.replicate_succ']
  rw [this, List.append_assoc]
  rfl

/-- The book's five cells. -/
structure BkAt (W : World) (hb : Nat) (m : ByteArray) (v x1 x2 x3 : Value) : Prop where
  c0 : W.cell? ⟨hb, 0, none⟩ = some (.string m)
  c1 : W.cell? ⟨hb, 1, none⟩ = some v
  c2 : W.cell? ⟨hb, 2, none⟩ = some x1
  c3 : W.cell? ⟨hb, 3, none⟩ = some x2
  c4 : W.cell? ⟨hb, 4, none⟩ = some x3
  z : ∀ i, i < 5 → W.frozen? ⟨hb, i, none⟩ = false
theorem BkAt.lt {W : World} {hb : Nat} {m : ByteArray} {v x1 x2 x3 : Value} (h : BkAt W hb m v x1 x2 x3) : hb < W.heap.size := lt_of_cell (a := ⟨hb, 0, none⟩) h.c0
theorem BkAt.chg {W W' : World} {tag : Nat → Nat} {S : List Nat} {hb : Nat} {m : ByteArray} {v x1 x2 x3 : Value} (h : BkAt W hb m v x1 x2 x3) (hc : Chg tag S W W') (ht : tag hb ∉ S) : BkAt W' hb m v x1 x2 x3 :=
  ⟨(hc.cell (p := ⟨hb, 0, none⟩) h.lt ht).trans h.c0, (hc.cell (p := ⟨hb, 1, none⟩) h.lt ht).trans h.c1, (hc.cell (p := ⟨hb, 2, none⟩) h.lt ht).trans h.c2, (hc.cell (p := ⟨hb, 3, none⟩) h.lt ht).trans h.c3, (hc.cell (p := ⟨hb, 4, none⟩) h.lt ht).trans h.c4,
    fun i hi => (hc.frozen (p := ⟨hb, i, none⟩) h.lt ht).trans (h.z i hi)⟩
theorem BkAt.new (W : World) (m : ByteArray) (v x1 x2 x3 : Value) (t : TypeId) : BkAt (W.alloc (.cells #[.string m, v, x1, x2, x3] t)) W.heap.size m v x1 x2 x3 := by
  have hm := World.alloc_heap_new W (.cells #[.string m, v, x1, x2, x3] t)
  refine ⟨?_, ?_, ?_, ?_, ?_, fun i hi => ?_⟩
  · unfold World.cell?; rw [hm]; simp
  · unfold World.cell?; rw [hm]; simp
  · unfold World.cell?; rw [hm]; simp
  · unfold World.cell?; rw [hm]; simp
  · unfold World.cell?; rw [hm]; simp
  · unfold World.frozen?; rw [hm]; simp
theorem BkAt.set2 {W : World} {hb : Nat} {m : ByteArray} {v x1 x2 x3 : Value} (h : BkAt W hb m v x1 x2 x3) (u : Value) : BkAt (W.setCell ⟨hb, 2, none⟩ u) hb m v u x2 x3 :=
  ⟨(setCell_off (by decide)).trans h.c0, (setCell_off (by decide)).trans h.c1, World.cell?_setCell_same' _ _ _ (by rw [h.c2]; rfl), (setCell_off (by decide)).trans h.c3, (setCell_off (by decide)).trans h.c4, fun i hi => by rw [World.frozen?_setCell]; exact h.z i hi⟩
theorem BkAt.set3 {W : World} {hb : Nat} {m : ByteArray} {v x1 x2 x3 : Value} (h : BkAt W hb m v x1 x2 x3) (u : Value) : BkAt (W.setCell ⟨hb, 3, none⟩ u) hb m v x1 u x3 :=
  ⟨(setCell_off (by decide)).trans h.c0, (setCell_off (by decide)).trans h.c1, (setCell_off (by decide)).trans h.c2, World.cell?_setCell_same' _ _ _ (by rw [h.c3]; rfl), (setCell_off (by decide)).trans h.c4, fun i hi => by rw [World.frozen?_setCell]; exact h.z i hi⟩
theorem BkAt.set4 {W : World} {hb : Nat} {m : ByteArray} {v x1 x2 x3 : Value} (h : BkAt W hb m v x1 x2 x3) (u : Value) : BkAt (W.setCell ⟨hb, 4, none⟩ u) hb m v x1 x2 u :=
  ⟨(setCell_off (by decide)).trans h.c0, (setCell_off (by decide)).trans h.c1, (setCell_off (by decide)).trans h.c2, (setCell_off (by decide)).trans h.c3, World.cell?_setCell_same' _ _ _ (by rw [h.c4]; rfl), fun i hi => by rw [World.frozen?_setCell]; exact h.z i hi⟩

theorem reps_new (W : World) (m : ByteArray) (j : Nat) (cs : Array Value) (t : TypeId) (h : cs.toList = reps j m) : ∀ i u, (reps j m)[i]? = some u → (W.alloc (.cells cs t)).cell? ((⟨W.heap.size, 0, none⟩ : Addr).add i) = some u := by
  intro i u hu
  have hm := World.alloc_heap_new W (.cells cs t)
  have : ∀ i, (W.alloc (.cells cs t)).cell? ⟨W.heap.size, i, none⟩ = cs[i]? := fun i => by
    unfold World.cell?; rw [hm]; simp
  rw [← h] at hu
  rcases i with _ | i
  · simpa [Addr.add, this] using hu
  · simpa [Addr.add, this] using hu

theorem RowT.all {B : Nat} {W : World} {tag : Nat → Nat} {t : Nat} {u : Value} {n : Nat} {m : ByteArray} (h : RowT B W tag t 9 1 u n (reps n m)) (hn : n ≤ 2000) : AllAt W u m := by
  rcases h.own.2 with ⟨hv, h0⟩ | ⟨g, cap, cur, hv, hb, hg, hnc, _⟩
  · exact .inl hv
  · refine .inr ⟨g, n, cap, hv, hnc, hn, (Array.getElem?_eq_some_iff.1 hg).1, fun i hi => ?_⟩
    have ho := h.own
    rw [hv] at ho
    rw [ho.cellAt i (by omega)]
    simp [reps, hi]

/-- A step that turns the world's own block, blocks marked 6 and the row that bears the mark t, which is marked anew. -/
structure Stq (tag tag' : Nat → Nat) (t : Nat) (W W2 : World) : Prop where
  chg : Chg tag [0, 6, t] W W2
  ret : ∀ k, k < W.heap.size → tag k ≠ t → tag' k = tag k
theorem Stq.row {tag tag' : Nat → Nat} {t t' : Nat} {W W2 : World} (s : Stq tag tag' t W W2) {B : Nat} {e : TypeId} {size : Nat} {v : Value} {n : Nat} {xs : List Value} (h : RowT B W tag t' e size v n xs) (h0 : t' ≠ 0) (h6 : t' ≠ 6) (h1 : t' ≠ t) : RowT B W2 tag' t' e size v n xs :=
  ⟨(h.chg s.chg (by simp; exact ⟨h0, h6, h1⟩)).own, fun g hg => by rw [s.ret g (h.own.lt g hg).2 (by rw [h.tg g hg]; exact h1)]; exact h.tg g hg⟩
theorem Stq.book {tag tag' : Nat → Nat} {t : Nat} {W W2 : World} (s : Stq tag tag' t W W2) {x : Book} (h : BookOk W tag x) (h1 : 8 ≠ t) : BookOk W2 tag' x := by
  have h' := h.chg s.chg (by simp; exact h1)
  have hr : ∀ k, k < W.heap.size → tag k = 8 → tag' k = 8 := fun k hk e => by rw [s.ret k hk (by rw [e]; exact h1)]; exact e
  exact ⟨h'.l, h'.g1, h'.g2, h'.g3, h.l.retag h.tl hr, h.g1.retag h.t1 hr, h.g2.retag h.t2 hr, h.g3.retag h.t3 hr⟩

set_option maxRecDepth 100000 in
set_option maxHeartbeats 4000000 in
theorem mark_any (w0 W : World) (b : Nat) (tag : Nat → Nat) (c : Nat → Value) (T : Nat) (bk : List Book) (wl el : List Value) (o : Option Addr) (cap : Nat) (t : Nat) (L : List ByteArray) (I : ScrI w0 W b tag c T bk wl el) (ht : 9 ≤ t)
    (hv : RowT w0.heap.size W tag t 9 1 (.slice o L.length cap) L.length (L.map Value.string)) (hL : L.length ≤ 1000) (hp : PowTab w0) (hbk : bk.length ≤ 1000000000) :
    Calls Tryz.prog 18 #[.pointer (some ⟨b, 0, none⟩), .slice o L.length cap] W fun e W' => e = .returned (.tuple #[]) ∧ ∃ tag' c' x, ScrI w0 W' b tag' c' T (bk ++ [x]) wl el ∧ Chg tag [0, 3, 6, t] W W' ∧ (∀ k, k < W.heap.size → tag k ≠ t → tag' k = tag k) := by
  have hm : Tryz.prog.follows .mixedOrders = true := by kernel_rfl
  have d6 := I.core.cell 6 (by decide)
  have z6 := I.core.fz 6 (by decide)
  rw [I.n6] at d6
  have core1 := I.core.set 6 (by decide) (.int .i64 ((bk.length : Int) + 1))
  have hit := itoa_any ((bk.length : Int) + 1) _ (by omega) (by omega) (hp.fr core1.fr)
  have ch1 : Chg tag [0] W (W.setCell ⟨b, 6, none⟩ (.int .i64 ((bk.length : Int) + 1))) := Chg.setCell W (by rw [I.core.tb]; simp) _
  have HI : Hid _ := I
  have d61 := core1.cell 6 (by decide)
  have e61 : upd c 6 (.int .i64 ((bk.length : Int) + 1)) 6 = .int .i64 ((bk.length : Int) + 1) := rfl
  rw [e61] at d61
  have hv1 := hv.chg ch1 (by simp; omega)
  have Hc1 : Hid _ := core1
  clear I hv core1 e61
  go_enter Tryz.func18, Tryz.ntmps18
  go_wp2_with fail
  refine hit.mono ?_
  generalize hW1 : W.setCell ⟨b, 6, none⟩ (.int .i64 ((bk.length : Int) + 1)) = W1 at *
  rintro e W2 ⟨s, hs, rfl, f2⟩
  have hsm : ((⟨#[109, 97, 114, 107, 32]⟩ : ByteArray) ++ s).size = 5 + s.size := by rw [ByteArray.size_append]; rfl
  have hv2 := hv1.chg (S := []) (Chg.of_fr f2) (by simp)
  clear hit hv1 d6 z6 d61 hW1
  go_wp2
  generalize hgm : (⟨#[109, 97, 114, 107, 32]⟩ : ByteArray) ++ s = m at *
  clear hgm
  go_loopw [5] (fun i wr => ∃ k : Nat, k ≤ L.length ∧ i = .int .i64 k ∧ RowT w0.heap.size wr tag t 9 1 (.slice o L.length cap) L.length (reps k m ++ (L.map Value.string).drop k) ∧ Chg tag [t] W2 wr) (fun i _ => L.length - (intOf i).toNat)
  case atStart => exact ⟨0, by omega, rfl, by simpa [reps] using hv2, Chg.refl _ _ _⟩
  case round =>
    obtain ⟨k, hk, rfl, hv, ch2⟩ := hrel
    clear hv2
    by_cases hlt : k < L.length
    · have g1 : (k : Int) < L.length := by omega
      obtain ⟨g, rfl⟩ : ∃ g, o = some ⟨g, 0, none⟩ := by
        rcases hv.own.2 with ⟨_, h'⟩ | ⟨g, cap', cur, h', _⟩
        · omega
        · exact ⟨g, by injection h'⟩
      have hst := hv.own.stored k (.string m)
      rw [reps_set L k m hlt] at hst
      have hcl := hv.own.cellAt k (by omega)
      have hex : ∃ y, (reps k m ++ (L.map Value.string).drop k)[k]? = some y := ⟨_, List.getElem?_eq_getElem (by simp [reps]; omega)⟩
      obtain ⟨y, hy⟩ := hex
      rw [hy] at hcl
      have hfz := hv.own.frozenAt k
      have htg := hv.tg
      have Hst : Hid _ := hst
      clear hst hv hy
      go_wp2
      have hst := Hst.out
      refine ⟨⟨k + 1, by omega, by go_num, ⟨hst.1, htg⟩, ch2.trans (tag' := tag) (S' := [t]) (Chg.setCell wr (by rw [htg g rfl]; simp) _) (fun _ _ h => h)⟩, by simp [intOf]; omega⟩
    · have g1 : ¬ ((k : Int) < L.length) := by omega
      obtain rfl : k = L.length := by omega
      rw [List.drop_of_length_le (by simp), List.append_nil] at hv
      have tA : ∃ tagA : Nat → Nat, (∀ i, i < wr.heap.size → tagA i = tag i) ∧ tagA wr.heap.size = 6 ∧ ∀ i, wr.heap.size < i → tagA i = t :=
        ⟨fun i => if i < wr.heap.size then tag i else if i = wr.heap.size then 6 else t, fun i hi => by simp [hi], by simp, fun i hi => by show (if i < _ then _ else _) = t; rw [if_neg (by omega), if_neg (by omega)]⟩
      obtain ⟨tagA, hA1, hA2, hA3⟩ := tA
      have hvA : RowT w0.heap.size wr tagA t 9 1 (.slice o L.length cap) L.length (reps L.length m) := hv.retag (fun i hi e => by rw [hA1 i hi]; exact e)
      have hsz0 : w0.heap.size ≤ wr.heap.size := Nat.le_trans Hc1.out.fr.size (Nat.le_trans f2.size ch2.size)
      have B0 := BkAt.new wr m (.slice o L.length cap) (.slice none 0 0) (.slice none 0 0) (.slice none 0 0) 52
      have HB0 : Hid _ := B0
      have HvA : Hid _ := hvA
      clear B0 hvA hv
      go_wp2_with (at_builtin; refine wpList_append_fam rfl _ _ rfl w0.heap.size tagA t _ L.length m 1 ⟨wr.heap.size + 1, 0, none⟩ 1 rfl rfl ?a1 (by decide) ?a2 ?a3 ?a4 ?a5 ?_)
      case a1 => exact HvA.out.chg (S := []) (Chg.of_fr (((Fr.refl [] wr).alloc _).alloc _)) (by simp)
      case a2 => exact fun i u h => h
      case a3 => omega
      case a4 => omega
      intro o1 cap1 w5 hv5 F1 keep5 ch5
      have B5 := (HB0.out.chg (tag := tagA) (S := []) (Chg.of_fr ((Fr.refl [] _).alloc (Obj.cells #[Value.string m] 9))) (by simp)).chg ch5 (by rw [hA2]; simp; omega)
      have hs5 := ch5.size
      simp only [World.size_alloc] at hs5
      have q2 := B5.c2
      have y2 := B5.z 2 (by decide)
      have ch6 : Chg tagA [6] w5 (w5.setCell ⟨wr.heap.size, 2, none⟩ (.slice o1 (L.length + 1) cap1)) := Chg.setCell w5 (by rw [hA2]; simp) _
      have B6 := B5.set2 (.slice o1 (L.length + 1) cap1)
      have HB6 : Hid _ := B6
      have Hv6 : Hid _ := hv5.chg ch6 (by simp; omega)
      have HF6 : Hid _ := F1.chg ch6 (by simp; omega)
      clear B5 B6 hv5 F1 keep5
      go_wp2_with (at_builtin; refine wpList_append_fam rfl _ _ rfl w0.heap.size tagA t _ L.length m 2 ⟨w5.heap.size, 0, none⟩ 2 rfl rfl ?b1 (by decide) ?b2 ?b3 ?b4 ?b5 ?_)
      case b1 => exact Hv6.out.chg (S := []) (Chg.of_fr ((Fr.refl [] _).alloc _)) (by simp)
      case b2 => have h := reps_new (w5.setCell ⟨wr.heap.size, 2, none⟩ (.slice o1 (L.length + 1) cap1)) m 2 #[.string m, .string m] 9 rfl; simpa using h
      case b3 => omega
      case b4 => simp; omega
      case b5 => exact hA3 _ (by simp; omega)
      intro o2 cap2 w8 hv8 F2 keep8 ch8
      have F18 := keep8 1 _ (by decide) (HF6.out.chg (S := []) (Chg.of_fr ((Fr.refl [] _).alloc _)) (by simp))
      have B8 := (HB6.out.chg (tag := tagA) (S := []) (Chg.of_fr ((Fr.refl [] _).alloc (Obj.cells #[Value.string m, Value.string m] 9))) (by simp)).chg ch8 (by rw [hA2]; simp; omega)
      have hs8 := ch8.size
      simp only [World.size_alloc] at hs8
      have hs6 : (w5.setCell ⟨wr.heap.size, 2, none⟩ (.slice o1 (L.length + 1) cap1)).heap.size = w5.heap.size := by simp
      have q3 := B8.c3
      have y3 := B8.z 3 (by decide)
      have ch9 : Chg tagA [6] w8 (w8.setCell ⟨wr.heap.size, 3, none⟩ (.slice o2 (L.length + 2) cap2)) := Chg.setCell w8 (by rw [hA2]; simp) _
      have HB9 : Hid _ := B8.set3 (.slice o2 (L.length + 2) cap2)
      have Hv9 : Hid _ := hv8.chg ch9 (by simp; omega)
      have HF9 : Hid _ := F2.chg ch9 (by simp; omega)
      have HG9 : Hid _ := F18.chg ch9 (by simp; omega)
      clear B8 hv8 F2 F18 keep8
      go_wp2_with (at_builtin; refine wpList_append_fam rfl _ _ rfl w0.heap.size tagA t _ L.length m 3 ⟨w8.heap.size, 0, none⟩ 3 rfl rfl ?d1 (by decide) ?d2 ?d3 ?d4 ?d5 ?_)
      case d1 => exact Hv9.out.chg (S := []) (Chg.of_fr ((Fr.refl [] _).alloc _)) (by simp)
      case d2 => have h := reps_new (w8.setCell ⟨wr.heap.size, 3, none⟩ (.slice o2 (L.length + 2) cap2)) m 3 #[.string m, .string m, .string m] 9 rfl; simpa using h
      case d3 => omega
      case d4 => simp; omega
      case d5 => exact hA3 _ (by simp; omega)
      intro o3 cap3 w11 hv11 F3 keep11 ch11
      have F1_11 := keep11 1 _ (by decide) (HG9.out.chg (S := []) (Chg.of_fr ((Fr.refl [] _).alloc _)) (by simp))
      have F2_11 := keep11 2 _ (by decide) (HF9.out.chg (S := []) (Chg.of_fr ((Fr.refl [] _).alloc _)) (by simp))
      have B11 := (HB9.out.chg (tag := tagA) (S := []) (Chg.of_fr ((Fr.refl [] _).alloc (Obj.cells #[Value.string m, Value.string m, Value.string m] 9))) (by simp)).chg ch11 (by rw [hA2]; simp; omega)
      have q4 := B11.c4
      have y4 := B11.z 4 (by decide)
      have ch12 : Chg tagA [6] w11 (w11.setCell ⟨wr.heap.size, 4, none⟩ (.slice o3 (L.length + 3) cap3)) := Chg.setCell w11 (by rw [hA2]; simp) _
      have B12 := B11.set4 (.slice o3 (L.length + 3) cap3)
      have v12 := hv11.chg ch12 (by simp; omega)
      have F1 := F1_11.chg ch12 (by simp; omega)
      have F2 := F2_11.chg ch12 (by simp; omega)
      have F3' := F3.chg ch12 (by simp; omega)
      have tr : ∀ i, i < wr.heap.size → tagA i ∉ [t, 6] → tagA i ∉ [t, 6] := fun _ _ h => h
      have chA : Chg tagA [t, 6] wr (w11.setCell ⟨wr.heap.size, 4, none⟩ (.slice o3 (L.length + 3) cap3)) := by
        have e1 : Chg tagA [t, 6] wr w5 := (Chg.of_fr (((Fr.refl [] wr).alloc _).alloc _)).trans (ch5.mono (S' := [t, 6]) (by simp)) (fun _ _ h => h)
        have e2 := e1.trans (ch6.mono (S' := [t, 6]) (by simp)) (fun _ _ h => h)
        have e3 := e2.trans (Chg.of_fr (tag := tagA) (S := [t, 6]) ((Fr.refl [] _).alloc (Obj.cells #[Value.string m, Value.string m] 9))) (fun _ _ h => h)
        have e4 := e3.trans (ch8.mono (S' := [t, 6]) (by simp)) (fun _ _ h => h)
        have e5 := e4.trans (ch9.mono (S' := [t, 6]) (by simp)) (fun _ _ h => h)
        have e6 := e5.trans (Chg.of_fr (tag := tagA) (S := [t, 6]) ((Fr.refl [] _).alloc (Obj.cells #[Value.string m, Value.string m, Value.string m] 9))) (fun _ _ h => h)
        have e7 := e6.trans (ch11.mono (S' := [t, 6]) (by simp)) (fun _ _ h => h)
        exact e7.trans (ch12.mono (S' := [t, 6]) (by simp)) (fun _ _ h => h)
      clear hv11 F3 keep11 F1_11 F2_11 B11 ch5 ch6 ch8 ch9 ch11 ch12 HB0 HvA HB6 Hv6 HF6 HB9 Hv9 HF9 HG9 hs5 hs8 hs6 tr
      have HF : Hid (_ ∧ _ ∧ _ ∧ _ ∧ _ ∧ _) := ⟨B12, v12, F1, F2, F3', chA⟩
      clear B12 v12 F1 F2 F3' chA q2 y2 q3 y3
      go_wp2
      generalize w11.setCell ⟨wr.heap.size, 4, none⟩ (.slice o3 (L.length + 3) cap3) = W12 at *
      clear q4 y4
      obtain ⟨B12, v12, F1, F2, F3, chA⟩ := HF.out
      clear HF
      have hW1 := ch1.size
      have hW2 := f2.size
      have hWr := ch2.size
      have hWA := chA.size
      have chW : Chg tag [0, 6, t] W W12 := by
        have e1 : Chg tag [0, 6, t] W W2 := (ch1.mono (S' := [0, 6, t]) (by simp)).trans (Chg.of_fr (tag := tag) (S := [0, 6, t]) f2) (fun _ _ h => h)
        have e2 : Chg tag [0, 6, t] W wr := e1.trans (ch2.mono (S' := [0, 6, t]) (by simp)) (fun _ _ h => h)
        exact e2.trans chA (fun i hi h => by rw [hA1 i (by omega)]; simp at h ⊢; omega)
      obtain ⟨tagB, hB⟩ : ∃ tagB : Nat → Nat, ∀ i, tagB i = if tagA i = t then 8 else tagA i := ⟨fun i => if tagA i = t then 8 else tagA i, fun _ => rfl⟩
      have sQ : Stq tag tagB t W W12 := ⟨chW, fun i hi hne => by rw [hB, hA1 i (by omega), if_neg hne]⟩
      have core12 : CorI w0 W12 b tagB (upd c 6 (.int .i64 ((bk.length : Int) + 1))) := by
        have e1 := (Hc1.out.chg (S := []) (Chg.of_fr f2) (by simp) (by simp)).chg ch2 (by simp; omega) (by simp; omega)
        have e2 := (e1.retag (tag' := tagA) (fun i hi _ => hA1 i hi)).chg chA (by simp; omega) (by simp; omega)
        exact e2.retag (fun i hi h => by rw [hB, if_neg (by omega)])
      have I := HI.out
      have r7 := sQ.row I.r7 (by decide) (by decide) (by omega)
      have tg8 : ∀ u, Tg tagA u t → Tg tagB u 8 := fun u h g hg => by rw [hB, if_pos (h g hg)]
      have bkx : BookOk W12 tagB ⟨m, (.slice o L.length cap), (.slice o1 (L.length + 1) cap1), (.slice o2 (L.length + 2) cap2), (.slice o3 (L.length + 3) cap3)⟩ :=
        ⟨v12.all (by omega), F1.row.all (by omega), F2.row.all (by omega), F3.row.all (by omega), tg8 _ v12.tg, tg8 _ F1.row.tg, tg8 _ F2.row.tg, tg8 _ F3.row.tg⟩
      have HI : Hid _ := I
      clear I v12 F1 F2 F3 tg8 chA hA1 hA2 hA3
      have d7 := core12.cell 7 (by decide)
      obtain ⟨v7, e7⟩ : ∃ v, c 7 = v := ⟨_, rfl⟩
      have e7' : upd c 6 (.int .i64 ((bk.length : Int) + 1)) 7 = v7 := e7
      rw [e7'] at d7
      rw [e7] at r7
      have hsz12 := core12.fr.size
      obtain ⟨i0, hi, hz0, hz1, hz2⟩ := info_parts info52
      obtain ⟨vv, w13, hr2, hown', hgrow, hnil, hwh⟩ := run_append_own_at (P := Tryz.prog) (W12.drew.alloc (Obj.cells #[Value.string m, Value.slice o L.length cap, Value.slice o1 (L.length + 1) cap1, Value.slice o2 (L.length + 2) cap2, Value.slice o3 (L.length + 3) cap3] 52)) w0.heap.size 30 30 52 i0 _ 5 112 Tryz.underlying30 hi hz0 hz1 hz2 rfl (by decide) v7 bk.length (bk.flatMap Book.cells) ((show W12.drew.ownsRow _ _ _ _ _ _ from r7.own).alloc _) ⟨W12.heap.size, 0, none⟩ 1 1 (Book.cells ⟨m, (.slice o L.length cap), (.slice o1 (L.length + 1) cap1), (.slice o2 (L.length + 2) cap2), (.slice o3 (L.length + 3) cap3)⟩) rfl
        (by
          intro j u hj
          have hnw : ∀ i, (W12.drew.alloc (Obj.cells #[Value.string m, Value.slice o L.length cap, Value.slice o1 (L.length + 1) cap1, Value.slice o2 (L.length + 2) cap2, Value.slice o3 (L.length + 3) cap3] 52)).cell? ⟨W12.heap.size, i, none⟩ = (Book.cells ⟨m, (.slice o L.length cap), (.slice o1 (L.length + 1) cap1), (.slice o2 (L.length + 2) cap2), (.slice o3 (L.length + 3) cap3)⟩)[i]? := fun i => by
            have hm := World.alloc_heap_new W12.drew (Obj.cells #[Value.string m, Value.slice o L.length cap, Value.slice o1 (L.length + 1) cap1, Value.slice o2 (L.length + 2) cap2, Value.slice o3 (L.length + 3) cap3] 52)
            have hm' : (W12.drew.alloc (Obj.cells #[Value.string m, Value.slice o L.length cap, Value.slice o1 (L.length + 1) cap1, Value.slice o2 (L.length + 2) cap2, Value.slice o3 (L.length + 3) cap3] 52)).heap[W12.heap.size]? = some _ := hm
            unfold World.cell?; rw [hm']; simp [Book.cells]
          rcases j with _ | j
          · simpa [Addr.add, hnw] using hj
          · simpa [Addr.add, hnw] using hj)
        (by intro u hu; simp [Book.cells] at hu; rcases hu with rfl | rfl | rfl | rfl | rfl <;> rfl) (by unfold maxLen; omega) (by omega) (by simp; omega)
      obtain ⟨q1, q2, rfl⟩ := own_form hown'
      have fa : Fr [] W12 (W12.drew.alloc (Obj.cells #[Value.string m, Value.slice o L.length cap, Value.slice o1 (L.length + 1) cap1, Value.slice o2 (L.length + 2) cap2, Value.slice o3 (L.length + 3) cap3] 52)) := ((Fr.refl [] W12).drew).alloc _
      obtain ⟨s3, core3, row3, cl, fz, _⟩ := row_step 7 3 core12 (by rw [e7']; exact r7) fa hown' (by rw [e7']; exact hgrow) (by rw [e7']; exact hwh) (by decide) (by decide) (by decide)
      have cl7 := cl 7 (by decide)
      have fz7 := fz 7 (by decide)
      rw [e7'] at cl7
      have IF : ScrI w0 (w13.setCell ⟨b, 7, none⟩ (.slice q1 (bk.length + 1) q2)) b (newTag tagB (W12.drew.alloc (Obj.cells #[Value.string m, Value.slice o L.length cap, Value.slice o1 (L.length + 1) cap1, Value.slice o2 (L.length + 2) cap2, Value.slice o3 (L.length + 3) cap3] 52)).heap.size 3) (upd (upd c 6 (.int .i64 ((bk.length : Int) + 1))) 7 (.slice q1 (bk.length + 1) q2)) T (bk ++ [⟨m, (.slice o L.length cap), (.slice o1 (L.length + 1) cap1), (.slice o2 (L.length + 2) cap2), (.slice o3 (L.length + 3) cap3)⟩]) wl el := by
        have I := HI.out
        obtain ⟨n3, x3, h3, t3⟩ := I.r3
        obtain ⟨n4, x4, h4, t4⟩ := I.r4
        refine ⟨core3, I.n0, I.n1, I.n2, ⟨n3, x3, s3.row (sQ.row h3 (by decide) (by decide) (by omega)) (by decide) (by decide), t3⟩, ⟨n4, x4, s3.row (sQ.row h4 (by decide) (by decide) (by omega)) (by decide) (by decide), t4⟩, ?_, ?_, I.n8,
          s3.row (sQ.row I.r11 (by decide) (by decide) (by omega)) (by decide) (by decide), s3.row (sQ.row I.r12 (by decide) (by decide) (by omega)) (by decide) (by decide), I.n13, I.n14, fun x hx => ?_⟩
        · simp [upd]
        · have h := row3
          rw [List.flatMap_append, List.length_append]
          simpa [upd] using h
        · rcases List.mem_append.1 hx with h | h
          · exact s3.book (sQ.book (I.books x h) (by omega)) (by decide)
          · simp at h; subst h; exact s3.book bkx (by decide)
      have cfin : Chg tag [0, 3, 6, t] W (w13.setCell ⟨b, 7, none⟩ (.slice q1 (bk.length + 1) q2)) := (sQ.chg.mono (S' := [0, 3, 6, t]) (by simp)).trans s3.chg (fun i hi h => by
        simp at h
        rw [sQ.ret i hi (by omega)]
        simp; omega)
      have rfin : ∀ k, k < W.heap.size → tag k ≠ t → newTag tagB (W12.drew.alloc (Obj.cells #[Value.string m, Value.slice o L.length cap, Value.slice o1 (L.length + 1) cap1, Value.slice o2 (L.length + 2) cap2, Value.slice o3 (L.length + 3) cap3] 52)).heap.size 3 k = tag k := fun k hk hne => by
        rw [s3.ret k (by omega), sQ.ret k hk hne]
      have Hr2 : Hid _ := hr2
      have c0 := B12.c0
      have c1 := B12.c1
      have c2 := B12.c2
      have c3 := B12.c3
      have c4 := B12.c4
      have HIF : Hid _ := IF
      have Hcf : Hid _ := cfin
      have Hrf : Hid _ := rfin
      have hbl := B12.lt
      have b0 := ((Fr.refl [] W12).alloc (Obj.cells #[Value.string m, Value.slice o L.length cap, Value.slice o1 (L.length + 1) cap1, Value.slice o2 (L.length + 2) cap2, Value.slice o3 (L.length + 3) cap3] 52)).cell (p := ⟨b, 7, none⟩) core12.lt (by simp)
      rw [d7] at b0
      clear hr2 IF cfin rfin sQ s3 core3 row3 cl fz hown' hgrow hnil hwh bkx r7 chW ch1 ch2 HI Hc1 B12 core12 e7 e7' hB fa
      refine wp_region_heldD (fun _ => True) hm ?_
      have hS : (fun _ : World => True) W12.drew := trivial
      refine wpAnyH_take (i := 0) (v := ?_) rfl (by kernel_rfl) (by kernel_rfl) (by kernel_rfl) (fun _ _ _ h => h) (.inl ⟨rfl, fun w1 hS1 => ?_⟩) hS ?_
      rotate_left
      · have q9 := hS1
        go_simp
        rfl
      simp only [Act.put, List.setIfInBounds_toArray, List.set_cons_zero, List.set_cons_succ]
      refine wpAnyH_take (i := 1) (v := ?_) rfl (by kernel_rfl) (by kernel_rfl) (by kernel_rfl) (fun _ _ _ h => h) (.inl ⟨rfl, fun w1 hS1 => ?_⟩) hS ?_
      rotate_left
      · have q9 := hS1
        go_simp
        rfl
      simp only [Act.put, List.setIfInBounds_toArray, List.set_cons_zero, List.set_cons_succ]
      refine wpAnyH_take (i := 2) (v := ?_) rfl (by kernel_rfl) (by kernel_rfl) (by kernel_rfl) (fun _ _ _ h => h) (.inl ⟨rfl, fun w1 hS1 => ?_⟩) hS ?_
      rotate_left
      · have q9 := hS1
        go_simp
        rfl
      simp only [Act.put, List.setIfInBounds_toArray, List.set_cons_zero, List.set_cons_succ]
      refine wpAnyH_take (i := 3) (v := ?_) rfl (by kernel_rfl) (by kernel_rfl) (by kernel_rfl) (fun _ _ _ h => h) (.inl ⟨rfl, fun w1 hS1 => ?_⟩) hS ?_
      rotate_left
      · have q9 := hS1
        go_simp
        rfl
      simp only [Act.put, List.setIfInBounds_toArray, List.set_cons_zero, List.set_cons_succ]
      refine wpAnyH_ready (rs := [4, 5]) (by kernel_rfl) (by simp) ?_
      refine AllReadyH.cons rfl (fun K hK => ?_) ?_
      · go_simp
        refine hK _ _ trivial ?_
        clear hK K
        intro _
        refine wpAnyH_ready (rs := [5]) (by kernel_rfl) (by simp) ?_
        refine AllReadyH.cons rfl (fun K hK => ?_) AllReadyH.nil
        go_simp
        refine hK _ _ trivial ?_
        clear hK K
        intro _
        refine wpAnyH_ready (rs := [6]) (by kernel_rfl) (by simp) ?_
        refine AllReadyH.cons rfl (fun K hK => ?_) AllReadyH.nil
        go_simp
        refine hK _ _ trivial ?_
        clear hK K
        intro _
        refine wpAnyH_ready (rs := [7]) (by kernel_rfl) (by simp) ?_
        refine AllReadyH.cons rfl (fun K hK => ?_) AllReadyH.nil
        refine wanted_of (by rfl) ?_
        refine wp_append_run _ _ 30 rfl _ _ rfl rfl Hr2.out ?_
        refine hK _ _ trivial ?_
        clear hK K
        intro _
        simp only [Act.put, List.setIfInBounds_toArray, List.set_cons_zero, List.set_cons_succ]
        refine wpAnyH_ready (rs := [8]) (by kernel_rfl) (by simp) ?_
        refine AllReadyH.cons rfl (fun K hK => ?_) AllReadyH.nil
        go_simp
        refine hK _ _ trivial ?_
        clear hK K
        intro _
        refine wpAnyH_ready (rs := [9]) (by kernel_rfl) (by simp) ?_
        refine AllReadyH.cons rfl (fun K hK => ?_) AllReadyH.nil
        go_simp
        refine hK _ _ trivial ?_
        clear hK K
        intro _
        refine wpAnyH_ready (rs := [10]) (by kernel_rfl) (by simp) ?_
        refine AllReadyH.cons rfl (fun K hK => ?_) AllReadyH.nil
        go_simp
        refine hK _ _ trivial ?_
        clear hK K
        intro _
        refine wpAnyH_done (by kernel_rfl) ?_ _
        go_wp2
        go_end0
        exact ⟨rfl, _, ⟨_, _, HIF.out⟩, Hcf.out, Hrf.out⟩
      · refine AllReadyH.cons rfl (fun K hK => ?_) AllReadyH.nil
        go_simp
        refine hK _ _ trivial ?_
        clear hK K
        intro _
        refine wpAnyH_ready (rs := [4, 6]) (by kernel_rfl) (by simp) ?_
        refine AllReadyH.cons rfl (fun K hK => ?_) ?_
        · go_simp
          refine hK _ _ trivial ?_
          clear hK K
          intro _
          refine wpAnyH_ready (rs := [6]) (by kernel_rfl) (by simp) ?_
          refine AllReadyH.cons rfl (fun K hK => ?_) AllReadyH.nil
          go_simp
          refine hK _ _ trivial ?_
          clear hK K
          intro _
          refine wpAnyH_ready (rs := [7]) (by kernel_rfl) (by simp) ?_
          refine AllReadyH.cons rfl (fun K hK => ?_) AllReadyH.nil
          refine wanted_of (by rfl) ?_
          refine wp_append_run _ _ 30 rfl _ _ rfl rfl Hr2.out ?_
          refine hK _ _ trivial ?_
          clear hK K
          intro _
          simp only [Act.put, List.setIfInBounds_toArray, List.set_cons_zero, List.set_cons_succ]
          refine wpAnyH_ready (rs := [8]) (by kernel_rfl) (by simp) ?_
          refine AllReadyH.cons rfl (fun K hK => ?_) AllReadyH.nil
          go_simp
          refine hK _ _ trivial ?_
          clear hK K
          intro _
          refine wpAnyH_ready (rs := [9]) (by kernel_rfl) (by simp) ?_
          refine AllReadyH.cons rfl (fun K hK => ?_) AllReadyH.nil
          go_simp
          refine hK _ _ trivial ?_
          clear hK K
          intro _
          refine wpAnyH_ready (rs := [10]) (by kernel_rfl) (by simp) ?_
          refine AllReadyH.cons rfl (fun K hK => ?_) AllReadyH.nil
          go_simp
          refine hK _ _ trivial ?_
          clear hK K
          intro _
          refine wpAnyH_done (by kernel_rfl) ?_ _
          go_wp2
          go_end0
          exact ⟨rfl, _, ⟨_, _, HIF.out⟩, Hcf.out, Hrf.out⟩
        · refine AllReadyH.cons rfl (fun K hK => ?_) AllReadyH.nil
          go_simp
          refine hK _ _ trivial ?_
          clear hK K
          intro _
          refine wpAnyH_ready (rs := [4]) (by kernel_rfl) (by simp) ?_
          refine AllReadyH.cons rfl (fun K hK => ?_) AllReadyH.nil
          go_simp
          refine hK _ _ trivial ?_
          clear hK K
          intro _
          refine wpAnyH_ready (rs := [7]) (by kernel_rfl) (by simp) ?_
          refine AllReadyH.cons rfl (fun K hK => ?_) AllReadyH.nil
          refine wanted_of (by rfl) ?_
          refine wp_append_run _ _ 30 rfl _ _ rfl rfl Hr2.out ?_
          refine hK _ _ trivial ?_
          clear hK K
          intro _
          simp only [Act.put, List.setIfInBounds_toArray, List.set_cons_zero, List.set_cons_succ]
          refine wpAnyH_ready (rs := [8]) (by kernel_rfl) (by simp) ?_
          refine AllReadyH.cons rfl (fun K hK => ?_) AllReadyH.nil
          go_simp
          refine hK _ _ trivial ?_
          clear hK K
          intro _
          refine wpAnyH_ready (rs := [9]) (by kernel_rfl) (by simp) ?_
          refine AllReadyH.cons rfl (fun K hK => ?_) AllReadyH.nil
          go_simp
          refine hK _ _ trivial ?_
          clear hK K
          intro _
          refine wpAnyH_ready (rs := [10]) (by kernel_rfl) (by simp) ?_
          refine AllReadyH.cons rfl (fun K hK => ?_) AllReadyH.nil
          go_simp
          refine hK _ _ trivial ?_
          clear hK K
          intro _
          refine wpAnyH_done (by kernel_rfl) ?_ _
          go_wp2
          go_end0
          exact ⟨rfl, _, ⟨_, _, HIF.out⟩, Hcf.out, Hrf.out⟩

end Go.Proofs.YtakbfoegkjaphaaGreatDoor

namespace Go.Proofs.YtakbfoegkjaphaaGreatDoor
open Go.RowKit

theorem AllAt.form {W : World} {v : Value} {m : ByteArray} (h : AllAt W v m) : ∃ o n cap, v = .slice o n cap := by
  rcases h with rfl | ⟨g, n, cap, rfl, _⟩
  · exact ⟨_, _, _, rfl⟩
  · exact ⟨_, _, _, rfl⟩

theorem flat_at : ∀ (bk : List Book) (k : Nat) (x : Book), bk[k]? = some x → ∀ i, i < 5 → (bk.flatMap Book.cells)[k * 5 + i]? = x.cells[i]?
  | [], k, x, h, i, hi => by simp at h
  | y :: r, 0, x, h, i, hi => by
    obtain rfl : y = x := by simpa using h
    rw [List.flatMap_cons, List.getElem?_append_left (by simp [Book.cells]; omega)]
    simp
  | y :: r, k + 1, x, h, i, hi => by
    have h' : r[k]? = some x := by simpa using h
    rw [List.flatMap_cons, List.getElem?_append_right (by simp [Book.cells]; omega)]
    have e : (k + 1) * 5 + i - y.cells.length = k * 5 + i := by simp [Book.cells]; omega
    rw [e]
    exact flat_at r k x h' i hi

set_option maxRecDepth 100000 in
set_option maxHeartbeats 4000000 in
theorem looks_any (w0 W : World) (b : Nat) (tag : Nat → Nat) (c : Nat → Value) (T : Nat) (bk : List Book) (wl el : List Value) (I : ScrI w0 W b tag c T bk wl el) (hbk : bk.length ≤ 1000000000) :
    Calls Tryz.prog 8 #[.pointer (some ⟨b, 0, none⟩)] W fun e W' => e = .returned (.bool true) ∧ Fr [] W W' := by
  have d7 := I.core.cell 7 (by decide)
  have d8 := I.core.cell 8 (by decide)
  rw [I.n8] at d8
  obtain ⟨o7, cap7, e7⟩ := own_form I.r7.own
  have r7 := I.r7
  rw [e7] at d7 r7
  have hlt := I.core.lt
  have HI : Hid _ := I
  have Hr7 : Hid _ := r7
  clear I r7 e7
  go_enter Tryz.func8, Tryz.ntmps8
  go_wp2
  go_loopw [3] (fun i wr => ∃ k : Nat, k ≤ bk.length ∧ i = .int .i64 k ∧ Fr [] W wr) (fun i _ => bk.length - (intOf i).toNat)
  case atStart => exact ⟨0, by omega, rfl, Fr.refl _ _⟩
  case round =>
    obtain ⟨k, hk, rfl, fr⟩ := hrel
    have a7 := (fr.cell (p := ⟨b, 7, none⟩) hlt (by simp)).trans d7
    have a8 := (fr.cell (p := ⟨b, 8, none⟩) hlt (by simp)).trans d8
    by_cases hkl : k < bk.length
    · have g1 : (k : Int) < bk.length := by omega
      obtain ⟨⟨m, l, v1, v2, v3⟩, hx⟩ : ∃ x, bk[k]? = some x := ⟨_, List.getElem?_eq_getElem hkl⟩
      have hxb := HI.out.books _ (List.mem_of_getElem? hx)
      have r7 := Hr7.out
      obtain ⟨g, rfl⟩ : ∃ g, o7 = some ⟨g, 0, none⟩ := by
        rcases r7.own.2 with ⟨_, h'⟩ | ⟨g, cap', cur, h', _⟩
        · omega
        · exact ⟨g, by injection h'⟩
      have hgl := (r7.own.lt g rfl).2
      have xc : ∀ i, i < 5 → W.cell? ⟨g, k * 5 + i, none⟩ = (Book.cells ⟨m, l, v1, v2, v3⟩)[i]? := fun i hi => by
        rw [r7.own.cellAt (k * 5 + i) (by omega)]; exact flat_at bk k _ hx i hi
      have x0 : wr.cell? ⟨g, k * 5, none⟩ = some (.string m) := (fr.cell (p := ⟨g, k * 5, none⟩) hgl (by simp)).trans (xc 0 (by decide))
      have x1 : wr.cell? ⟨g, k * 5 + 1, none⟩ = some l := (fr.cell (p := ⟨g, k * 5 + 1, none⟩) hgl (by simp)).trans (xc 1 (by decide))
      have x2 : wr.cell? ⟨g, k * 5 + 2, none⟩ = some v1 := (fr.cell (p := ⟨g, k * 5 + 2, none⟩) hgl (by simp)).trans (xc 2 (by decide))
      have x3 : wr.cell? ⟨g, k * 5 + 3, none⟩ = some v2 := (fr.cell (p := ⟨g, k * 5 + 3, none⟩) hgl (by simp)).trans (xc 3 (by decide))
      have x4 : wr.cell? ⟨g, k * 5 + 4, none⟩ = some v3 := (fr.cell (p := ⟨g, k * 5 + 4, none⟩) hgl (by simp)).trans (xc 4 (by decide))
      clear xc hx r7
      obtain ⟨p1, p2, p3, rfl⟩ : ∃ o n cap, l = .slice o n cap := hxb.l.form
      obtain ⟨q1, q2, q3, rfl⟩ : ∃ o n cap, v1 = .slice o n cap := hxb.g1.form
      obtain ⟨r1, r2, r3, rfl⟩ : ∃ o n cap, v2 = .slice o n cap := hxb.g2.form
      obtain ⟨s1, s2, s3, rfl⟩ : ∃ o n cap, v3 = .slice o n cap := hxb.g3.form
      have fa : ∀ ob, Fr [] W (wr.alloc ob) := fun ob => fr.alloc ob
      have B : ∀ ob, BookOk (wr.alloc ob) tag ⟨m, .slice p1 p2 p3, .slice q1 q2 q3, .slice r1 r2 r3, .slice s1 s2 s3⟩ := fun ob => hxb.chg (S := []) (Chg.of_fr (fa ob)) (by simp)
      have Hb : Hid _ := B
      have Hfa : Hid _ := fa
      clear hxb B fa
      go_wp2_with fail
      refine (all_any _ m _ (Hb.out _).l).mono ?_
      rintro e wz ⟨rfl, rfl⟩
      go_wp2_with fail
      refine (all_any _ m _ (Hb.out _).g1).mono ?_
      rintro e wz ⟨rfl, rfl⟩
      go_wp2_with fail
      refine (all_any _ m _ (Hb.out _).g2).mono ?_
      rintro e wz ⟨rfl, rfl⟩
      go_wp2_with fail
      refine (all_any _ m _ (Hb.out _).g3).mono ?_
      rintro e wz ⟨rfl, rfl⟩
      go_wp2
      exact ⟨⟨k + 1, by omega, by go_num, Hfa.out _⟩, by simp [intOf]; omega⟩
    · have g1 : ¬ ((k : Int) < bk.length) := by omega
      go_wp2
      go_loop [9] (fun i => i = .int .i64 0) (fun _ => 0)
      case atStart => exact rfl
      case round =>
        subst hrel
        go_wp2
        go_ret
        exact ⟨rfl, fr⟩

end Go.Proofs.YtakbfoegkjaphaaGreatDoor

