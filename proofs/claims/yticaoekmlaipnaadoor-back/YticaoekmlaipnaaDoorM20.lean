/-
  The reader of a module's bytes: a function.
-/
import Derived.Test.YticaoekmlaipnaaDoorM19
import Derived.Handy
set_option linter.unusedSimpArgs false
set_option linter.unusedVariables false
namespace Go.Proofs.YticaoekmlaipnaaDoor
open Go.RowKit
open Wire

/-- One reading behind another. -/
theorem comp_next {α β : Type} {op1 : Rd α} (op2 : α → Rd β) (h1 : Tidy op1) (d1 : α) (d2 : β) {l : List UInt8} {s : Sta} (hok : okSta l s) :
    nextR (fun base c => bnd (op1 base c) fun p => op2 p.1 base p.2) l s = nextR (op2 (outR op1 l d1 s)) l (nextR op1 l s) ∧
    outR (fun base c => bnd (op1 base c) fun p => op2 p.1 base p.2) l d2 s = outR (op2 (outR op1 l d1 s)) l d2 (nextR op1 l s) := by
  rcases s with f | ⟨a, e⟩
  · exact ⟨rfl, rfl⟩
  · obtain ⟨o1, o2⟩ := hok
    cases hn : op1 e (seg l a e) with
    | inl f =>
      rw [nextR_inl hn, outR_inl hn]
      refine ⟨?_, ?_⟩
      · rw [nextR_inl (f := f) (by simp only [hn, bnd])]; rfl
      · rw [outR_inl (f := f) (by simp only [hn, bnd])]; rfl
    | inr p =>
      obtain ⟨x, q⟩ := p
      rw [nextR_inr hn, outR_inr hn]
      obtain ⟨t1, t2, t3⟩ := h1.seg o1 o2 hn
      simp only [nextR, outR, hn, bnd, t1]
      exact ⟨trivial, trivial⟩

def retR {α : Type} (x : α) : Rd α := fun _ c => .inr (x, c)
theorem ret_next {α : Type} (x d : α) {l : List UInt8} {s : Sta} (hok : okSta l s) : nextR (retR x) l s = s ∧ ((∃ p, s = .inr p) → outR (retR x) l d s = x) := by
  rcases s with f | ⟨a, e⟩
  · exact ⟨rfl, fun ⟨p, hp⟩ => by cases hp⟩
  · obtain ⟨o1, o2⟩ := hok
    refine ⟨?_, fun _ => rfl⟩
    simp only [nextR, retR, seg_length o2]
    congr 2
    omega

def maxP (i : Nat) : Nat := if i < 3 then 0 else 8
def fn0 : Wire.Fn := ⟨0, 0, ⟨#[]⟩⟩

theorem fnR_next (i : Nat) {l : List UInt8} {s s1 s2 s3 : Sta} {x1 x2 : Nat} {o : ByteArray} (hok : okSta l s)
    (h1 : outR (numberR 0 (maxP i)) l 0 s = x1) (k1 : nextR (numberR 0 (maxP i)) l s = s1) (h2 : outR (numberR x1 16) l 0 s1 = x2) (k2 : nextR (numberR x1 16) l s1 = s2)
    (h3 : outR (bytesR 20000) l ⟨#[]⟩ s2 = o) (k3 : nextR (bytesR 20000) l s2 = s3) :
    nextR (fnR i) l s = s3 ∧ ((∃ p, s3 = .inr p) → outR (fnR i) l fn0 s = ⟨(x1 : Int), (x2 : Int), o⟩) := by
  have e : fnR i = fun base c => bnd (numberR 0 (maxP i) base c) fun p => (fun p1 : Nat => (fun base c => bnd (numberR p1 16 base c) fun q => (fun q1 : Nat => (fun base c => bnd (bytesR 20000 base c) fun t => retR (⟨(p1 : Int), (q1 : Int), t.1⟩ : Wire.Fn) base t.2 : Rd Wire.Fn)) q.1 base q.2 : Rd Wire.Fn)) p.1 base p.2 := rfl
  rw [e]
  have ok1 : okSta l s1 := k1 ▸ (numberR_tidy 0 (maxP i)).next hok
  have ok2 : okSta l s2 := k2 ▸ (numberR_tidy x1 16).next ok1
  have ok3 : okSta l s3 := k3 ▸ (bytesR_tidy 20000).next ok2
  obtain ⟨a1, b1⟩ := comp_next (fun p1 : Nat => (fun base c => bnd (numberR p1 16 base c) fun q => (fun q1 : Nat => (fun base c => bnd (bytesR 20000 base c) fun t => retR (⟨(p1 : Int), (q1 : Int), t.1⟩ : Wire.Fn) base t.2 : Rd Wire.Fn)) q.1 base q.2 : Rd Wire.Fn)) (numberR_tidy 0 (maxP i)) 0 fn0 hok
  rw [h1, k1] at a1 b1
  obtain ⟨a2, b2⟩ := comp_next (fun q1 : Nat => (fun base c => bnd (bytesR 20000 base c) fun t => retR (⟨(x1 : Int), (q1 : Int), t.1⟩ : Wire.Fn) base t.2 : Rd Wire.Fn)) (numberR_tidy x1 16) 0 fn0 ok1
  rw [h2, k2] at a2 b2
  obtain ⟨a3, b3⟩ := comp_next (fun t : ByteArray => retR (⟨(x1 : Int), (x2 : Int), t⟩ : Wire.Fn)) (bytesR_tidy 20000) ⟨#[]⟩ fn0 ok2
  rw [h3, k3] at a3 b3
  obtain ⟨a4, b4⟩ := ret_next (⟨(x1 : Int), (x2 : Int), o⟩ : Wire.Fn) fn0 ok3
  exact ⟨a1.trans (a2.trans (a3.trans a4)), fun h => b1.trans (b2.trans (b3.trans (b4 h)))⟩

set_option maxRecDepth 100000 in
set_option maxHeartbeats 1000000 in
theorem function_any {w : World} {r : Nat} {b : ByteArray} {s : Sta} (i : Nat) (h : RdS w r b s) (hs : b.size ≤ 40000) (hi : i ≤ 1000) :
    Calls Tryd.prog 91 #[.pointer (some ⟨r, 0, none⟩), .int .i64 i] w fun ee w' => (∃ f : Wire.Fn, ee = .returned (.agg #[.int .i64 f.params, .int .i64 f.locs, .string f.code]) ∧ ((∃ p, nextR (fnR i) (bl b) s = .inr p) → f = outR (fnR i) (bl b) fn0 s)) ∧ RdS w' r b (nextR (fnR i) (bl b) s) ∧ Fr [r] w w' := by
  have hmp := fun (W : World) => maxParams_any i W
  have emp : (if i < 3 then 0 else 8 : Int) = (maxP i : Nat) := by unfold maxP; split <;> rfl
  have hm8 : maxP i ≤ 8 := by unfold maxP; split <;> omega
  rw [emp] at hmp
  obtain ⟨x1, h1⟩ : ∃ x, outR (numberR 0 (maxP i)) (bl b) 0 s = x := ⟨_, rfl⟩
  obtain ⟨s1, k1⟩ : ∃ x, nextR (numberR 0 (maxP i)) (bl b) s = x := ⟨_, rfl⟩
  obtain ⟨x2, h2⟩ : ∃ x, outR (numberR x1 16) (bl b) 0 s1 = x := ⟨_, rfl⟩
  obtain ⟨s2, k2⟩ : ∃ x, nextR (numberR x1 16) (bl b) s1 = x := ⟨_, rfl⟩
  obtain ⟨o, h3⟩ : ∃ x, outR (bytesR 20000) (bl b) ⟨#[]⟩ s2 = x := ⟨_, rfl⟩
  obtain ⟨s3, k3⟩ : ∃ x, nextR (bytesR 20000) (bl b) s2 = x := ⟨_, rfl⟩
  obtain ⟨n1, n2⟩ := fnR_next i h.ok h1 k1 h2 k2 h3 k3
  have hx1 := outN_le2 0 (maxP i) b s
  rw [h1] at hx1
  have c1 := fun (W : World) (hW : RdS W r b s) => limited_any (lo := 0) (hi := maxP i) rfl rfl hW hs (by omega) (by omega)
  have c2 := fun (W : World) (hW : RdS W r b s1) => limited_any (lo := x1) (hi := 16) rfl rfl hW hs (by omega) (by omega)
  have c3 := fun (W : World) (hW : RdS W r b s2) => bytesOf_any (lim := 20000) rfl hW hs (by omega)
  simp only [h1, k1] at c1
  simp only [h2, k2] at c2
  simp only [h3, k3] at c3
  rw [n1]
  have HM : Hid _ := hmp
  have H1 : Hid (∀ W : World, RdS W r b s → Calls Tryd.prog 68 #[.pointer (some ⟨r, 0, none⟩), .int .i64 0, .int .i64 (maxP i)] W fun ee w' => ee = .returned (.int .i64 x1) ∧ RdS w' r b s1 ∧ Fr [r] W w') := c1
  have H2 : Hid (∀ W : World, RdS W r b s1 → Calls Tryd.prog 68 #[.pointer (some ⟨r, 0, none⟩), .int .i64 x1, .int .i64 16] W fun ee w' => ee = .returned (.int .i64 x2) ∧ RdS w' r b s2 ∧ Fr [r] W w') := c2
  have H3 : Hid (∀ W : World, RdS W r b s2 → Calls Tryd.prog 89 #[.pointer (some ⟨r, 0, none⟩), .int .i64 20000] W fun ee w' => ee = .returned (.string o) ∧ RdS w' r b s3 ∧ Fr [r] W w') := c3
  have N2 : Hid _ := n2
  have hrl := h.lt
  generalize maxP i = M at *
  clear hmp emp h1 k1 h2 k2 h3 k3 n1 n2 c1 c2 c3
  have K0 := h.fr ((Fr.refl [] w).alloc (.cells #[Value.int .i64 0, Value.int .i64 0, Value.string ⟨#[]⟩] 63)) (by simp)
  have hne : r ≠ w.heap.size := by omega
  have hnew := World.alloc_heap_new w (.cells #[Value.int .i64 0, Value.int .i64 0, Value.string ⟨#[]⟩] 63)
  have hlt := (show w.heap.size < (w.alloc (.cells #[Value.int .i64 0, Value.int .i64 0, Value.string ⟨#[]⟩] 63)).heap.size by simp)
  have F0 : Fr [r] w (w.alloc (.cells #[Value.int .i64 0, Value.int .i64 0, Value.string ⟨#[]⟩] 63)) := (Fr.refl [r] w).alloc _
  go_enter Tryd.func91, Tryd.ntmps91
  go_wp2_with fail
  obtain ⟨W, hWW⟩ : ∃ W, w.alloc (.cells #[Value.int .i64 0, Value.int .i64 0, Value.string ⟨#[]⟩] 63) = W := ⟨_, rfl⟩
  rw [hWW] at K0 hnew hlt F0 ⊢
  clear hWW h
  refine (HM.out W).mono ?_
  rintro ee W ⟨rfl, rfl⟩
  go_wp2_with fail
  refine (H1.out W K0).mono ?_
  rintro ee w1 ⟨rfl, K1, F1⟩
  go_wp2_with fail
  refine (H2.out w1 K1).mono ?_
  rintro ee w2 ⟨rfl, K2, F2⟩
  go_wp2_with fail
  refine (H3.out w2 K2).mono ?_
  rintro ee w3 ⟨rfl, K3, F3⟩
  have FW := (F1.trans F2).trans F3
  have kept : w3.heap[w.heap.size]? = some (.cells #[Value.int .i64 0, Value.int .i64 0, Value.string ⟨#[]⟩] 63) := by
    rw [FW.block _ hlt (by simp; omega), hnew]
  have e0 : w3.cell? ⟨w.heap.size, 0, none⟩ = some (.int .i64 0) := by unfold World.cell?; rw [kept]; rfl
  have e1 : w3.cell? ⟨w.heap.size, 1, none⟩ = some (.int .i64 0) := by unfold World.cell?; rw [kept]; rfl
  have e2 : w3.cell? ⟨w.heap.size, 2, none⟩ = some (.string ⟨#[]⟩) := by unfold World.cell?; rw [kept]; rfl
  have e3 : ∀ i, w3.frozen? ⟨w.heap.size, i, none⟩ = false := fun i => by unfold World.frozen?; rw [kept]; simp
  have FF := F0.trans FW
  clear H1 H2 H3 HM hnew hlt F0 K0 K1 K2 F1 F2 F3 FW kept
  have y2 : (((w3.setCell ⟨w.heap.size, 0, none⟩ (.int .i64 x1)).setCell ⟨w.heap.size, 1, none⟩ (.int .i64 x2)).setCell ⟨w.heap.size, 2, none⟩ (.string o)).cell? ⟨w.heap.size, 2, none⟩ = some (.string o) := cell_set ((setCell_off (by decide)).trans ((setCell_off (by decide)).trans e2))
  have y1 : (((w3.setCell ⟨w.heap.size, 0, none⟩ (.int .i64 x1)).setCell ⟨w.heap.size, 1, none⟩ (.int .i64 x2)).setCell ⟨w.heap.size, 2, none⟩ (.string o)).cell? ⟨w.heap.size, 1, none⟩ = some (.int .i64 x2) := (setCell_off (by decide)).trans (cell_set ((setCell_off (by decide)).trans e1))
  have y0 : (((w3.setCell ⟨w.heap.size, 0, none⟩ (.int .i64 x1)).setCell ⟨w.heap.size, 1, none⟩ (.int .i64 x2)).setCell ⟨w.heap.size, 2, none⟩ (.string o)).cell? ⟨w.heap.size, 0, none⟩ = some (.int .i64 x1) := (setCell_off (by decide)).trans ((setCell_off (by decide)).trans (cell_set e0))
  have FZ : Fr [r] w (((w3.setCell ⟨w.heap.size, 0, none⟩ (.int .i64 x1)).setCell ⟨w.heap.size, 1, none⟩ (.int .i64 x2)).setCell ⟨w.heap.size, 2, none⟩ (.string o)) := ((FF.setCell (p := ⟨w.heap.size, 0, none⟩) (.inr (Nat.le_refl _)) _).setCell (p := ⟨w.heap.size, 1, none⟩) (.inr (Nat.le_refl _)) _).setCell (p := ⟨w.heap.size, 2, none⟩) (.inr (Nat.le_refl _)) _
  have KZ : RdS (((w3.setCell ⟨w.heap.size, 0, none⟩ (.int .i64 x1)).setCell ⟨w.heap.size, 1, none⟩ (.int .i64 x2)).setCell ⟨w.heap.size, 2, none⟩ (.string o)) r b s3 :=
    K3.fr (S := [w.heap.size]) ((((Fr.refl [w.heap.size] w3).setCell (p := ⟨w.heap.size, 0, none⟩) (.inl (by simp)) _).setCell (p := ⟨w.heap.size, 1, none⟩) (.inl (by simp)) _).setCell (p := ⟨w.heap.size, 2, none⟩) (.inl (by simp)) _) (by simp; omega)
  go_wp2
  generalize (((w3.setCell ⟨w.heap.size, 0, none⟩ (.int .i64 x1)).setCell ⟨w.heap.size, 1, none⟩ (.int .i64 x2)).setCell ⟨w.heap.size, 2, none⟩ (.string o)) = Z at *
  refine bodyPost_ret (v := .agg #[.int .i64 x1, .int .i64 x2, .string o]) (by simp [results, Tryd.results91, go_sem, y0, y1, y2]) rfl ?_
  exact ⟨⟨⟨(x1 : Int), (x2 : Int), o⟩, rfl, fun hp => (N2.out hp).symm⟩, KZ, FZ⟩
end Go.Proofs.YticaoekmlaipnaaDoor

namespace Go.Proofs.YticaoekmlaipnaaDoor
open Go.RowKit
open Wire

theorem infoF : (Tryd.prog.info? 63).map (fun i => (i.zero, i.size, i.bytes)) = some (some (.agg #[.int .i64 0, .int .i64 0, .string ⟨#[]⟩]), 3, 32) := by kernel_rfl

/-- What is known in the midst of a list. -/
def MidF (n : Nat) (l : List UInt8) (R : Sta × List Wire.Fn) (acc : List Wire.Fn) : Sta → Prop
  | .inl f => R.1 = .inl f
  | .inr p => finR acc p.2 (fnsR p.2 (n - acc.length) acc.length (seg l p.1 p.2)) = R

theorem MidF.start (b : ByteArray) (s : Sta) (hok : okSta (bl b) s) :
    MidF (outR (numberR 3 1000) (bl b) 0 s) (bl b) (nextR fnListR (bl b) s, outR fnListR (bl b) [] s) [] (nextR (numberR 3 1000) (bl b) s) := by
  rcases s with ⟨f, y⟩ | ⟨a, e⟩
  · rfl
  · obtain ⟨o1, o2⟩ := hok
    cases hn : numberR 3 1000 e (seg (bl b) a e) with
    | inl f =>
      have hl : fnListR e (seg (bl b) a e) = .inl f := by simp only [fnListR, hn, bnd]
      rw [nextR_inl hn, nextR_inl hl]
      rfl
    | inr p =>
      obtain ⟨n, q⟩ := p
      rw [nextR_inr hn, outR_inr hn]
      obtain ⟨t1, t2, t3⟩ := (numberR_tidy 3 1000).seg o1 o2 hn
      simp only [MidF, t1, List.length_nil, Nat.sub_zero]
      have hl : fnListR e (seg (bl b) a e) = fnsR e n 0 q := by simp only [fnListR, hn, bnd]
      cases ht : fnsR e n 0 q with
      | inl f =>
        rw [ht] at hl
        rw [nextR_inl hl, outR_inl hl]
        rfl
      | inr p =>
        obtain ⟨x, y⟩ := p
        rw [ht] at hl
        rw [nextR_inr hl, outR_inr hl]
        rfl

theorem MidF.step {n : Nat} {b : ByteArray} {R : Sta × List Wire.Fn} {acc : List Wire.Fn} {s : Sta} (h : MidF n (bl b) R acc s) (hok : okSta (bl b) s) (hlt : acc.length < n) (o : Wire.Fn)
    (ho : (∃ p, nextR (fnR acc.length) (bl b) s = .inr p) → o = outR (fnR acc.length) (bl b) fn0 s) : MidF n (bl b) R (acc ++ [o]) (nextR (fnR acc.length) (bl b) s) := by
  rcases s with f | ⟨a, e⟩
  · exact h
  · obtain ⟨o1, o2⟩ := hok
    simp only [MidF] at h
    rw [show n - acc.length = (n - (acc.length + 1)) + 1 by omega, fnsR] at h
    cases hn : fnR acc.length e (seg (bl b) a e) with
    | inl f =>
      rw [hn] at h
      simp only [bnd, finR] at h
      rw [nextR_inl hn, ← h]
      rfl
    | inr p =>
      obtain ⟨x, q⟩ := p
      rw [hn] at h
      have hox : o = x := by rw [ho ⟨_, nextR_inr hn⟩, outR_inr hn]
      subst hox
      obtain ⟨t1, t2, t3⟩ := (fnR_tidy acc.length).seg o1 o2 hn
      rw [nextR_inr hn]
      simp only [MidF, t1, List.length_append, List.length_cons, List.length_nil, Nat.zero_add]
      rw [← h]
      simp only [bnd]
      cases fnsR e (n - (acc.length + 1)) (acc.length + 1) q with
      | inl f => rfl
      | inr p => simp [finR]

theorem MidF.stop {n : Nat} {b : ByteArray} {R : Sta × List Wire.Fn} {acc : List Wire.Fn} {s : Sta} (h : MidF n (bl b) R acc s) (hok : okSta (bl b) s) (hd : acc.length = n ∨ ∃ f, s = .inl f) :
    s = R.1 ∧ ((∃ p, R.1 = .inr p) → acc = R.2) := by
  rcases s with f | ⟨a, e⟩
  · simp only [MidF] at h
    exact ⟨h.symm, fun ⟨p, hp⟩ => by rw [h] at hp; cases hp⟩
  · obtain ⟨o1, o2⟩ := hok
    rcases hd with hd | ⟨f, hf⟩
    · simp only [MidF, hd, Nat.sub_self, fnsR, finR] at h
      rw [seg_length o2] at h
      rw [← h]
      refine ⟨?_, fun _ => by simp⟩
      simp only
      congr 2
      omega
    · cases hf

def fnC (f : Wire.Fn) : List Value := [.int .i64 f.params, .int .i64 f.locs, .string f.code]
theorem fnC_at (L : List Wire.Fn) (i t : Nat) (f : Wire.Fn) (hi : L[i]? = some f) (ht : t < 3) : (L.flatMap fnC)[i * 3 + t]? = (fnC f)[t]? := by
  induction L generalizing i with
  | nil => cases hi
  | cons a L ih =>
    rw [List.flatMap_cons]
    cases i with
    | zero =>
      simp at hi
      subst hi
      rw [List.getElem?_append_left (by simp [fnC]; omega)]
      simp
    | succ i =>
      rw [List.getElem?_append_right (by simp [fnC]; omega)]
      have e : (i + 1) * 3 + t - (fnC a).length = i * 3 + t := by simp [fnC]; omega
      rw [e]
      exact ih i (by simpa using hi)
theorem fnC_len (L : List Wire.Fn) : (L.flatMap fnC).length = L.length * 3 := by
  induction L with
  | nil => rfl
  | cons a L ih => rw [List.flatMap_cons, List.length_append, ih, List.length_cons]; simp [fnC]; omega

structure OwnF (r : Nat) (w0 : World) (L : List Wire.Fn) (v : Value) (W : World) : Prop where
  own : W.ownsRow w0.heap.size 63 3 v L.length (L.flatMap fnC)
  fr : Fr [r] w0 W
theorem OwnF.start {r : Nat} {w0 w1 : World} (hf : Fr [r] w0 w1) : OwnF r w0 [] (.slice none 0 0) w1 := ⟨World.ownsRow_nil _ _ _ _, hf⟩
theorem OwnF.kept {r : Nat} {w0 : World} {L : List Wire.Fn} {v : Value} {W W' : World} (h : OwnF r w0 L v W) (hr : r < w0.heap.size) (hf : Fr [r] W W') : OwnF r w0 L v W' := ⟨own_kept h.own hr hf, h.fr.trans hf⟩
theorem OwnF.grown {r : Nat} {w0 : World} {L : List Wire.Fn} {v v' : Value} {W W' : World} {s : Wire.Fn} (h : OwnF r w0 L v W) (hown : W'.ownsRow w0.heap.size 63 3 v' (L.length + 1) (L.flatMap fnC ++ fnC s)) (hg : W.grownBy W' v.ownBlock) : OwnF r w0 (L ++ [s]) v' W' :=
  ⟨by rw [List.length_append, List.flatMap_append]; simpa using hown, fr_grown h.own h.fr hg⟩
theorem OwnF.form {r : Nat} {w0 : World} {L : List Wire.Fn} {v : Value} {W : World} (h : OwnF r w0 L v W) : ∃ a0 cap, v = .slice a0 L.length cap := by
  rcases h.own.2 with ⟨hv, h0⟩ | ⟨g, cap, cur, hv, _⟩
  · exact ⟨none, 0, by rw [hv, h0]⟩
  · exact ⟨_, cap, hv⟩

def FnsFar (B : Nat) (W : World) (v : Value) (L : List Wire.Fn) : Prop :=
  ∃ (a0 : Option Addr) (cap g off : Nat), v = .slice a0 L.length cap ∧ L.length ≤ cap ∧ (0 < L.length → a0 = some ⟨g, off, none⟩ ∧ g < W.heap.size ∧ B ≤ g) ∧
    ∀ (i : Nat) (x : Wire.Fn), L[i]? = some x → W.cell? ⟨g, off + i * 3, none⟩ = some (.int .i64 x.params) ∧ W.cell? ⟨g, off + i * 3 + 1, none⟩ = some (.int .i64 x.locs) ∧ W.cell? ⟨g, off + i * 3 + 2, none⟩ = some (.string x.code)
theorem FnsFar.fns {B : Nat} {W : World} {v : Value} {L : List Wire.Fn} (h : FnsFar B W v L) : FnsIn W v L := by
  obtain ⟨a0, cap, g, off, h1, h2, h3, h4⟩ := h
  exact ⟨a0, cap, g, off, h1, h2, fun h => ⟨(h3 h).1, (h3 h).2.1⟩, h4⟩
theorem FnsFar.fr {B : Nat} {S : List Nat} {W W' : World} {v : Value} {L : List Wire.Fn} (h : FnsFar B W v L) (hf : Fr S W W') (hS : ∀ x, x ∈ S → x < B) : FnsFar B W' v L := by
  obtain ⟨a0, cap, g, off, h1, h2, h3, h4⟩ := h
  refine ⟨a0, cap, g, off, h1, h2, fun h => ⟨(h3 h).1, Nat.lt_of_lt_of_le (h3 h).2.1 hf.size, (h3 h).2.2⟩, fun i x hi => ?_⟩
  have h0 : 0 < L.length := by have := (List.getElem?_eq_some_iff.1 hi).1; omega
  have hn : g ∉ S := fun hm => by have := hS g hm; have := (h3 h0).2.2; omega
  obtain ⟨x0, x1, x2⟩ := h4 i x hi
  exact ⟨(hf.cell (p := ⟨g, off + i * 3, none⟩) (h3 h0).2.1 hn).trans x0, (hf.cell (p := ⟨g, off + i * 3 + 1, none⟩) (h3 h0).2.1 hn).trans x1, (hf.cell (p := ⟨g, off + i * 3 + 2, none⟩) (h3 h0).2.1 hn).trans x2⟩
theorem add_plain0 (g j : Nat) : (⟨g, 0, none⟩ : Addr).add j = ⟨g, j, none⟩ := by cases j <;> simp [Addr.add]
theorem OwnF.far {r : Nat} {w0 : World} {L : List Wire.Fn} {v : Value} {W : World} (h : OwnF r w0 L v W) : FnsFar w0.heap.size W v L := by
  rcases h.own.2 with ⟨hv, h0⟩ | ⟨g, cap, cur, hv, hb, hg, hn, _⟩
  · have hL := List.eq_nil_of_length_eq_zero h0
    subst hL
    exact ⟨none, 0, 0, 0, hv, Nat.le_refl _, fun h => absurd h (Nat.lt_irrefl _), fun i x hx => by cases hx⟩
  · refine ⟨some ⟨g, 0, none⟩, cap, g, 0, hv, hn, fun _ => ⟨rfl, (Array.getElem?_eq_some_iff.1 hg).1, hb⟩, fun i x hx => ?_⟩
    have hc := fun t ht u hu => h.own.cells (g := g) (by rw [hv]; rfl) (i * 3 + t) u ((fnC_at L i t x hx ht).trans hu)
    simp only [add_plain0] at hc
    simp only [Nat.zero_add]
    exact ⟨hc 0 (by omega) _ rfl, hc 1 (by omega) _ rfl, hc 2 (by omega) _ rfl⟩
theorem fnC_one (f : Wire.Fn) : ∀ u ∈ fnC f, u.oneCell' = true := by
  intro u hu
  simp only [fnC, List.mem_cons, List.not_mem_nil, or_false] at hu
  rcases hu with rfl | rfl | rfl <;> rfl
theorem fnC_new (w : World) (p l : Int) (c : ByteArray) : ∀ j u, [Value.int .i64 p, Value.int .i64 l, Value.string c][j]? = some u → (w.alloc (.cells #[.int .i64 p, .int .i64 l, .string c] 63)).cell? ((⟨w.heap.size, 0, none⟩ : Addr).add j) = some u := by
  intro j u hj
  have hm := World.alloc_heap_new w (.cells #[.int .i64 p, .int .i64 l, .string c] 63)
  rw [add_plain0]
  unfold World.cell?
  rw [hm]
  simpa using hj

set_option maxRecDepth 100000 in
set_option maxHeartbeats 1000000 in
theorem funcs_any {w : World} {r : Nat} {b : ByteArray} {s : Sta} (h : RdS w r b s) (hs : b.size ≤ 40000) :
    Calls Tryd.prog 71 #[.pointer (some ⟨r, 0, none⟩)] w fun ee w' =>
      (∃ v L, ee = .returned v ∧ FnsFar w.heap.size w' v L ∧ ((∃ p, nextR fnListR (bl b) s = .inr p) → L = outR fnListR (bl b) [] s)) ∧ RdS w' r b (nextR fnListR (bl b) s) ∧ Fr [r] w w' := by
  obtain ⟨i0, hi, hz0, hz1, hz2⟩ := info_parts infoF
  have hlm := limited_any (lo := 3) (hi := 1000) rfl rfl h hs (by omega) (by omega)
  change Calls Tryd.prog 68 #[.pointer (some ⟨r, 0, none⟩), .int .i64 3, .int .i64 1000] w _ at hlm
  have M0 := MidF.start b s h.ok
  have hn := outN_le2 3 1000 b s
  have hrl := h.lt
  generalize outR (numberR 3 1000) (bl b) 0 s = n at *
  generalize nextR (numberR 3 1000) (bl b) s = s1 at *
  generalize outR fnListR (bl b) [] s = RL at *
  generalize nextR fnListR (bl b) s = RS at *
  have HM0 : Hid _ := M0
  clear M0 h
  go_enter Tryd.func71, Tryd.ntmps71
  go_wp2_with fail
  refine hlm.mono ?_
  rintro ee w1 ⟨rfl, K1, F1⟩
  clear hlm
  go_wp2
  go_loopw [3] (fun u wr => ∃ (acc : List Wire.Fn) (sj : Sta), acc.length ≤ n ∧ RdS wr r b sj ∧ OwnF r w acc u wr ∧ Hid (MidF n (bl b) (RS, RL) acc sj)) (fun u _ => n - slLen u)
  case atStart => exact ⟨[], s1, by simp, K1, OwnF.start F1, HM0⟩
  case round =>
    clear HM0 K1 F1
    obtain ⟨acc, sj, hacc, K, J, hM⟩ := hrel
    obtain ⟨a0, cap, rfl⟩ := J.form
    obtain ⟨d0, d1, d2, d3, d4, f1, f2, f3, f4⟩ := K.c
    by_cases hlt : acc.length < n
    · have g1 : (acc.length : Int) < n := by omega
      rcases sj with ⟨x, y⟩ | ⟨a, e⟩
      · have k0 : 0 < x := K.ok.1
        simp only [stR] at d4
        have g2 : ((x : Int) == 0) = false := by simp; omega
        obtain ⟨q1, q2⟩ := hM.out.stop K.ok (.inr ⟨_, rfl⟩)
        simp only at q1 q2
        subst q1
        have Q2 : Hid _ := q2
        clear q2 hM
        go_wp2
        go_ret
        exact ⟨⟨_, acc, rfl, J.far, Q2.out⟩, K, J.fr⟩
      · simp only [stR] at d4
        have g2 : (((0 : Nat) : Int) == 0) = true := by simp
        go_wp2_with fail
        refine (function_any acc.length K hs (by omega)).mono ?_
        rintro ee w2 ⟨⟨o, rfl, ho⟩, K2, F2⟩
        have J2 := J.kept hrl F2
        have M2 := hM.out.step K.ok hlt o ho
        have HM2 : Hid _ := M2
        have hown := J2.own
        have hsz2 := J2.fr.size
        have ha1000 : acc.length ≤ 1000 := by omega
        clear M2 ho hM K J F2 d0 d1 d2 d3 d4 f1 f2 f3 f4
        generalize nextR (fnR acc.length) (bl b) (Sum.inr (a, e)) = s2 at *
        obtain ⟨op, ol, oc⟩ := o
        simp only
        go_wp2_with (at_builtin; refine wpList_append_own _ rfl _ _ 41 rfl w.heap.size 63 i0 (.agg #[.int .i64 0, .int .i64 0, .string ⟨#[]⟩]) 3 32 Tryd.underlying41 hi hz0 hz1 hz2 rfl (by decide) _ _ _ rfl (hown.alloc _) ⟨w2.heap.size, 0, none⟩ 1 1 [.int .i64 op, .int .i64 ol, .string oc] rfl rfl (fnC_new _ _ _ _) (fnC_one ⟨op, ol, oc⟩) (by unfold maxLen; omega) (by omega) (le_alloc _ hsz2) ?_)
        intro v' w3 hown' hgrow _
        have J3 := (J2.kept hrl ((Fr.refl [r] w2).alloc _)).grown (s := ⟨op, ol, oc⟩) hown' hgrow
        have K3 : RdS w3 r b s2 := by
          refine ⟨K2.c.of_block ?_, K2.ok⟩
          rw [hgrow.block r (by have := K2.lt; simp; omega) (fun e => by have := (hown.lt r e.symm).1; omega)]
          exact Below.heap_alloc _ _ _ K2.lt
        clear hown hown' hgrow J2 K2
        have hl3 : (acc ++ [(⟨op, ol, oc⟩ : Wire.Fn)]).length = acc.length + 1 := by simp
        obtain ⟨b0, cap3, rfl⟩ := J3.form
        go_wp2
        have hmid : MidF n (bl b) (RS, RL) (acc ++ [(⟨op, ol, oc⟩ : Wire.Fn)]) s2 := HM2.out
        refine ⟨⟨acc ++ [(⟨op, ol, oc⟩ : Wire.Fn)], s2, by omega, K3, J3, hmid⟩, ?_⟩
        simp [slLen]
        omega
    · obtain rfl : n = acc.length := by omega
      have g1 : ¬ (acc.length : Int) < acc.length := by omega
      obtain ⟨q1, q2⟩ := hM.out.stop K.ok (.inl rfl)
      simp only at q1 q2
      subst q1
      have Q2 : Hid _ := q2
      clear q2 hM
      go_wp2
      go_ret
      exact ⟨⟨_, rfl, acc, J.far, fun x y hxy => Q2.out ⟨_, hxy⟩⟩, K, J.fr⟩
end Go.Proofs.YticaoekmlaipnaaDoor

namespace Go.Proofs.YticaoekmlaipnaaDoor
open Go.RowKit
open Wire

def openS (x : Nat) : Sta → Sta
  | .inl f => .inl f
  | .inr p => .inr (p.1, p.1 + x)
def shutS (n : Nat) (s : Sta) : Sta := if stA n s < stE n s then failS 7 (stA n s) s else s
def endS (n : Nat) : Sta → Sta
  | .inl f => .inl f
  | .inr p => .inr (p.1, n)

theorem shutS_bad (n : Nat) (f : Nat × Nat) : shutS n (.inl f) = .inl f := by
  unfold shutS
  rw [if_neg (by show ¬ n < n; omega)]

/-- A section, step by step. -/
theorem sect_next {α : Type} (k : Nat) (hk : k < 256) (f : Rd α) (hf : Tidy f) (d : α) (b : ByteArray) {s s1 s2 : Sta} {x : Nat} (hok : okSta (bl b) s) (hend : ∀ p, s = .inr p → p.2 = b.size)
    (k1 : nextR (needR (UInt8.ofNat k) 7) (bl b) s = s1) (h2 : outR numU (bl b) 0 s1 = x) (k2 : nextR numU (bl b) s1 = s2) :
    (stE b.size s2 - stA b.size s2 < x → nextR (fun base l => sectR k base f l) (bl b) s = failS 7 (stA b.size s1) s2) ∧
    (¬ stE b.size s2 - stA b.size s2 < x → nextR (fun base l => sectR k base f l) (bl b) s = endS b.size (shutS b.size (nextR f (bl b) (openS x s2))) ∧
      ((∃ p, endS b.size (shutS b.size (nextR f (bl b) (openS x s2))) = .inr p) → (∃ p, nextR f (bl b) (openS x s2) = .inr p) ∧ outR (fun base l => sectR k base f l) (bl b) d s = outR f (bl b) d (openS x s2))) := by
  have hL := bl_length b
  have bad : ∀ g, s1 = .inl g → nextR (fun base l => sectR k base f l) (bl b) s = .inl g →
      (stE b.size s2 - stA b.size s2 < x → nextR (fun base l => sectR k base f l) (bl b) s = failS 7 (stA b.size s1) s2) ∧
      (¬ stE b.size s2 - stA b.size s2 < x → nextR (fun base l => sectR k base f l) (bl b) s = endS b.size (shutS b.size (nextR f (bl b) (openS x s2))) ∧
      ((∃ p, endS b.size (shutS b.size (nextR f (bl b) (openS x s2))) = .inr p) → (∃ p, nextR f (bl b) (openS x s2) = .inr p) ∧ outR (fun base l => sectR k base f l) (bl b) d s = outR f (bl b) d (openS x s2))) := by
    intro g hg hn
    subst hg
    have e2 : s2 = .inl g := k2.symm
    have ex : x = 0 := h2.symm
    subst e2 ex
    refine ⟨fun h => absurd h (by omega), fun _ => ⟨?_, ?_⟩⟩
    · rw [hn]
      show _ = endS b.size (shutS b.size (.inl g))
      rw [shutS_bad]
      rfl
    · rintro ⟨p, hp⟩
      change endS b.size (shutS b.size (.inl g)) = .inr p at hp
      rw [shutS_bad] at hp
      cases hp
  rcases s with g | ⟨a, e⟩
  · exact bad g k1.symm rfl
  · obtain ⟨o1, o2⟩ := hok
    have he : e = b.size := hend _ rfl
    subst he
    cases hc : seg (bl b) a b.size with
    | nil =>
      have hN : needR (UInt8.ofNat k) 7 b.size (seg (bl b) a b.size) = .inl (7, b.size) := by rw [hc]; rfl
      have hS : sectR k b.size f (seg (bl b) a b.size) = .inl (7, b.size) := by rw [hc]; rfl
      exact bad (7, b.size) (k1.symm.trans (nextR_inl hN)) (nextR_inl hS)
    | cons h t =>
      have hcl := congrArg List.length hc
      rw [seg_length o2, List.length_cons] at hcl
      by_cases hh : h = UInt8.ofNat k
      · have hhk : h.toNat = k := by rw [hh]; simp [UInt8.toNat_ofNat]; omega
        have hN : needR (UInt8.ofNat k) 7 b.size (seg (bl b) a b.size) = .inr ((), t) := by rw [hc]; simp only [needR, if_pos hh]
        have e1 : s1 = .inr (b.size - t.length, b.size) := k1.symm.trans (nextR_inr hN)
        have hseg : seg (bl b) (b.size - t.length) b.size = t := (seg_suffix (p := [h]) (by rw [hc]; rfl) o1 o2).1
        subst e1
        cases hn : num t with
        | none =>
          have hU : numU b.size (seg (bl b) (b.size - t.length) b.size) = .inl (6, b.size - t.length) := by rw [hseg]; simp only [numU, hn]
          have hS : sectR k b.size f (seg (bl b) a b.size) = .inl (6, b.size - t.length) := by
            rw [hc]; simp only [sectR, openR, hhk, hn, bnd, ne_eq, not_true_eq_false, if_false]
          have e2 : s2 = .inl (6, b.size - t.length) := k2.symm.trans (nextR_inl hU)
          have ex : x = 0 := h2.symm.trans (outR_inl hU)
          rw [nextR_inl hS]
          subst e2 ex
          refine ⟨fun h => absurd h (by omega), fun _ => ⟨?_, ?_⟩⟩
          · show _ = endS b.size (shutS b.size (.inl _))
            rw [shutS_bad]
            rfl
          · rintro ⟨p, hp⟩
            change endS b.size (shutS b.size (.inl _)) = .inr p at hp
            rw [shutS_bad] at hp
            cases hp
        | some q =>
          obtain ⟨n, u⟩ := q
          obtain ⟨ht, -⟩ := num_some hn
          have htl := congrArg List.length ht
          rw [List.length_append] at htl
          have hU : numU b.size (seg (bl b) (b.size - t.length) b.size) = .inr (n, u) := by rw [hseg]; simp only [numU, hn]
          have e2 : s2 = .inr (b.size - u.length, b.size) := k2.symm.trans (nextR_inr hU)
          have ex : x = n := h2.symm.trans (outR_inr hU)
          have hsu : seg (bl b) (b.size - u.length) b.size = u := (numU_tidy.seg (by omega) o2 hU).1
          subst e2 ex
          simp only [stA, stE]
          by_cases hx : u.length < x
          · have hS : sectR k b.size f (seg (bl b) a b.size) = .inl (7, b.size - t.length) := by
              rw [hc]; simp only [sectR, openR, hhk, hn, bnd, ne_eq, not_true_eq_false, if_false, if_pos hx]
            rw [nextR_inl hS]
            exact ⟨fun _ => rfl, fun h => absurd (by omega) h⟩
          · refine ⟨fun h => absurd h (by omega), fun _ => ?_⟩
            have hop : openR k b.size (seg (bl b) a b.size) = .inr (u.take x, u.drop x) := by
              rw [hc]; simp only [openR, hhk, hn, ne_eq, not_true_eq_false, if_false, if_neg hx]
            have hbase : b.size - (u.drop x).length = b.size - u.length + x := by rw [List.length_drop]; omega
            have htk : u.take x = seg (bl b) (b.size - u.length) (b.size - u.length + x) := by
              rw [← seg_take (bl b) _ b.size x (by omega), hsu]
            have hS : sectR k b.size f (seg (bl b) a b.size) = bnd (f (b.size - u.length + x) (seg (bl b) (b.size - u.length) (b.size - u.length + x))) fun q => bnd (shutR (b.size - u.length + x) q) fun a => .inr (a, u.drop x) := by
              simp only [sectR, hop, bnd, hbase, htk]
            simp only [openS]
            cases hff : f (b.size - u.length + x) (seg (bl b) (b.size - u.length) (b.size - u.length + x)) with
            | inl g =>
              rw [hff] at hS
              simp only [bnd] at hS
              rw [nextR_inl hS, nextR_inl hff, shutS_bad]
              exact ⟨rfl, fun ⟨p, hp⟩ => by cases hp⟩
            | inr y =>
              obtain ⟨y, v⟩ := y
              rw [hff] at hS
              simp only [bnd, shutR] at hS
              have hvl := hf.seg (by omega) (by omega) hff
              rw [nextR_inr hff, outR_inr hff]
              by_cases hv : v = []
              · rw [if_pos hv] at hS
                subst hv
                rw [nextR_inr hS, outR_inr hS]
                have hsh : shutS b.size (.inr (b.size - u.length + x - ([] : List UInt8).length, b.size - u.length + x)) = .inr (b.size - u.length + x, b.size - u.length + x) := by
                  unfold shutS
                  rw [if_neg (by simp [stA, stE])]
                  rfl
                rw [hsh, hbase]
                exact ⟨rfl, fun _ => ⟨⟨_, rfl⟩, rfl⟩⟩
              · rw [if_neg hv] at hS
                rw [nextR_inl hS]
                have hvl2 : 0 < v.length := by
                  cases v with
                  | nil => exact absurd rfl hv
                  | cons a r => simp
                have hsh : shutS b.size (.inr (b.size - u.length + x - v.length, b.size - u.length + x)) = .inl (7, b.size - u.length + x - v.length) := by
                  unfold shutS
                  rw [if_pos (by simp only [stA, stE]; omega)]
                  rfl
                rw [hsh]
                exact ⟨rfl, fun ⟨p, hp⟩ => by cases hp⟩
      · have hhk : h.toNat ≠ k := fun e => hh (by rw [← e]; simp)
        have hN : needR (UInt8.ofNat k) 7 b.size (seg (bl b) a b.size) = .inl (7, b.size - (seg (bl b) a b.size).length) := by rw [hc]; simp only [needR, if_neg hh]
        have hS : sectR k b.size f (seg (bl b) a b.size) = .inl (7, b.size - (seg (bl b) a b.size).length) := by rw [hc]; simp only [sectR, openR, if_pos hhk, bnd]
        exact bad _ (k1.symm.trans (nextR_inl hN)) (nextR_inl hS)

end Go.Proofs.YticaoekmlaipnaaDoor

