/-
  An atom.
-/
import Derived.Test.YticaoekmlaipnaaDoorWo
import Derived.Test.YticaoekmlaipnaaDoorWg
set_option linter.unusedSimpArgs false
set_option linter.unusedVariables false
namespace Go.Proofs.YticaoekmlaipnaaDoor
open Go.RowKit

/-- What a part of the reader leaves. -/
def Post (w : World) (r pb : Nat) (t : ByteArray) (wh : Nat → Value) (x : Piece × St) : Ending → World → Prop := fun e w' => e = .returned (pv x.1) ∧ M w' r pb t wh x.2 ∧ Fr [r, pb] w w'

def SaidAlt (n : Nat) : Prop := ∀ (w : World) (r pb : Nat) (t : ByteArray) (wh : Nat → Value) (s : St), M w r pb t wh s → Inv t s → t.size ≤ 50 → 6 * (t.size - s.pos) + 6 ≤ n → Calls Tryd.prog 39 #[.pointer (some ⟨r, 0, none⟩)] w (Post w r pb t wh (altF t n s))
def SaidSeq (n : Nat) : Prop := ∀ (w : World) (r pb : Nat) (t : ByteArray) (wh : Nat → Value) (s : St), M w r pb t wh s → Inv t s → t.size ≤ 50 → 6 * (t.size - s.pos) + 4 ≤ n → Calls Tryd.prog 52 #[.pointer (some ⟨r, 0, none⟩)] w (Post w r pb t wh (seqF t n s))
def SaidPart (n : Nat) : Prop := ∀ (w : World) (r pb : Nat) (t : ByteArray) (wh : Nat → Value) (s : St), M w r pb t wh s → Inv t s → t.size ≤ 50 → peekF t s ≠ -1 → 6 * (t.size - s.pos) + 2 ≤ n → Calls Tryd.prog 84 #[.pointer (some ⟨r, 0, none⟩)] w (Post w r pb t wh (partF t n s))
def SaidAtom (n : Nat) : Prop := ∀ (w : World) (r pb : Nat) (t : ByteArray) (wh : Nat → Value) (s : St), M w r pb t wh s → Inv t s → t.size ≤ 50 → peekF t s ≠ -1 → 6 * (t.size - s.pos) + 1 ≤ n → Calls Tryd.prog 96 #[.pointer (some ⟨r, 0, none⟩)] w (Post w r pb t wh (atomF t n s))

theorem Inv.tk64 {t : ByteArray} {s : St} (h : Inv t s) (hs : t.size ≤ 50) (b : Nat) : s.tk b < 18446744073709551616 :=
  Nat.lt_of_lt_of_le (h.tk b) (Nat.le_trans (Nat.pow_le_pow_right (n := 2) (by decide) (show s.atoms ≤ 50 by have := h.at_; have := h.pos; omega)) (by decide))
theorem Inv.fo64 {t : ByteArray} {s : St} (h : Inv t s) (hs : t.size ≤ 50) (x a : Nat) : s.fo x a < 18446744073709551616 :=
  Nat.lt_of_lt_of_le (h.fo x a) (Nat.le_trans (Nat.pow_le_pow_right (n := 2) (by decide) (show s.atoms ≤ 50 by have := h.at_; have := h.pos; omega)) (by decide))
theorem PB.ok {n : Nat} {q : Piece} (h : PB n q) (hn : n ≤ 50) : q.ok := fun x =>
  ⟨Nat.lt_of_lt_of_le (h x).1 (Nat.le_trans (Nat.pow_le_pow_right (n := 2) (by decide) hn) (by decide)), Nat.lt_of_lt_of_le (h x).2 (Nat.le_trans (Nat.pow_le_pow_right (n := 2) (by decide) hn) (by decide))⟩
theorem PB.l50 {n : Nat} {q : Piece} (h : PB n q) (hn : n ≤ 50) (x : Nat) : (q x).l < 1125899906842624 :=
  Nat.lt_of_lt_of_le (h x).2 (Nat.le_trans (Nat.pow_le_pow_right (n := 2) (by decide) hn) (by decide))

theorem Res.drewN {b : Nat} {W : World} (h : Res b W) (n : Nat) : Res b (W.drewN n) := ⟨h.rr, h.zr⟩

section
variable {w : World} {r pb : Nat} {t : ByteArray} {wh : Nat → Value} {s : St}

set_option maxRecDepth 100000 in
set_option maxHeartbeats 2000000 in
theorem atom_group (n : Nat) (hA : SaidAlt n) (h : M w r pb t wh s) (hi : Inv t s) (hs : t.size ≤ 50) (hc : peekF t s = 40) (hn : 6 * (t.size - s.pos) + 1 ≤ n + 1) :
    Calls Tryd.prog 96 #[.pointer (some ⟨r, 0, none⟩)] w (Post w r pb t wh ((altF t n (advF s)).1, needF t (altF t n (advF s)).2 41)) := by
  have hp : peekF t s ≠ -1 := by rw [hc]; decide
  have hrl := h.rlt
  have hpl := h.pat.lt
  have hps := hi.pos
  have hat := hi.at_
  have hlt := (peek_ne hp).2
  have hadv := hi.adv hp
  have e40 : (peekF t s == 40) = true := by simp [hc]
  have gv := (givesAll t n).alt _ hadv
  have hpo := gv.inv.pos
  have hal := fun (W : World) (hW : M W r pb t wh (advF s)) => hA W r pb t wh (advF s) hW hadv hs (by simp [advF]; omega)
  unfold Post at hal ⊢
  obtain ⟨q, hq⟩ : ∃ q, (altF t n (advF s)).1 = q := ⟨_, rfl⟩
  obtain ⟨s1, hs1⟩ : ∃ q, (altF t n (advF s)).2 = q := ⟨_, rfl⟩
  simp only [hq, hs1] at hal hpo ⊢
  clear hq hs1 gv
  have hnd := fun (W : World) (hW : M W r pb t wh s1) => need_any 41 hW hs (by omega)
  obtain ⟨q', hq⟩ : ∃ q', q = q' := ⟨_, rfl⟩
  obtain ⟨sq, hsq⟩ : ∃ q, needF t s1 41 = q := ⟨_, rfl⟩
  simp only [hsq] at hnd
  have Hq : Hid (q = q) := rfl
  have Hs : Hid (_ = sq) := hsq
  have Hal := (show Hid _ from hal)
  have Hnd := (show Hid _ from hnd)
  clear hsq hal hnd hc hq q'
  go_enter Tryd.func96, Tryd.ntmps96
  go_wp2_with fail
  refine (peek_any (h.fr (((Fr.refl [] w).alloc (Obj.cells #[.bool false, .int .u64 0, .int .u64 0, .bool false, .int .u64 0, .int .u64 0, .bool false, .int .u64 0, .int .u64 0, .bool false, .int .u64 0, .int .u64 0] 73))) (by simp) (by simp) (by simp)) hs).mono ?_
  rintro e w1 ⟨rfl, n1, rfl⟩
  have m1 : M ((w.alloc (Obj.cells #[.bool false, .int .u64 0, .int .u64 0, .bool false, .int .u64 0, .int .u64 0, .bool false, .int .u64 0, .int .u64 0, .bool false, .int .u64 0, .int .u64 0] 73)).drewN n1) r pb t wh s := (h.fr (((Fr.refl [] w).alloc (Obj.cells #[.bool false, .int .u64 0, .int .u64 0, .bool false, .int .u64 0, .int .u64 0, .bool false, .int .u64 0, .int .u64 0, .bool false, .int .u64 0, .int .u64 0] 73))) (by simp) (by simp) (by simp)).heap rfl
  have R1 := (Res.new w).drewN n1
  have F1 : Fr [r, pb] w ((w.alloc (Obj.cells #[.bool false, .int .u64 0, .int .u64 0, .bool false, .int .u64 0, .int .u64 0, .bool false, .int .u64 0, .int .u64 0, .bool false, .int .u64 0, .int .u64 0] 73)).drewN n1) := ((Fr.refl _ w).alloc _).drewN n1
  generalize (w.alloc (Obj.cells #[.bool false, .int .u64 0, .int .u64 0, .bool false, .int .u64 0, .int .u64 0, .bool false, .int .u64 0, .int .u64 0, .bool false, .int .u64 0, .int .u64 0] 73)).drewN n1 = W1 at *
  have c1 := m1.rd.c1
  have z1 := m1.rd.f1
  have p1 : (s.pos : Int) ≤ 50 := by omega
  go_wp2_with fail
  have m2 := m1.adv
  have f2 : Fr [r] W1 (W1.setCell ⟨r, 1, none⟩ (.int .i64 ((s.pos : Int) + 1))) := (Fr.refl [r] W1).setCell (p := ⟨r, 1, none⟩) (.inl (by simp)) _
  have R2 := R1.fr f2 (by simp; omega)
  have F2 := F1.trans (f2.mono (S' := [r, pb]) (by simp))
  clear c1 z1 m1 R1 F1 f2
  refine (Hal.out _ m2).mono ?_
  clear m2
  rintro e w3 ⟨rfl, m3, f3⟩
  have R3 := R2.fr f3 (by simp; omega)
  have F3 := F2.trans f3
  clear R2 F2 f3
  have f4 : Fr [] w3 (w3.alloc (Obj.cells #[.bool (q 0).e, .int .u64 (q 0).f, .int .u64 (q 0).l, .bool (q 1).e, .int .u64 (q 1).f, .int .u64 (q 1).l, .bool (q 2).e, .int .u64 (q 2).f, .int .u64 (q 2).l, .bool (q 3).e, .int .u64 (q 3).f, .int .u64 (q 3).l] 73)) := (Fr.refl _ _).alloc _
  have m4 := m3.fr f4 (by simp) (by simp) (by simp)
  have R4 := R3.fr f4 (by simp)
  have F4 := F3.trans (f4.mono (S' := [r, pb]) (by simp))
  have O4 := rowIs_new w3 [.bool (q 0).e, .int .u64 (q 0).f, .int .u64 (q 0).l, .bool (q 1).e, .int .u64 (q 1).f, .int .u64 (q 1).l, .bool (q 2).e, .int .u64 (q 2).f, .int .u64 (q 2).l, .bool (q 3).e, .int .u64 (q 3).f, .int .u64 (q 3).l] 73
  have s3 := F3.size
  have R3lt := R3.lt
  have l4 : w3.heap.size < (w3.alloc (Obj.cells #[.bool (q 0).e, .int .u64 (q 0).f, .int .u64 (q 0).l, .bool (q 1).e, .int .u64 (q 1).f, .int .u64 (q 1).l, .bool (q 2).e, .int .u64 (q 2).f, .int .u64 (q 2).l, .bool (q 3).e, .int .u64 (q 3).f, .int .u64 (q 3).l] 73)).heap.size := by simp
  clear f4
  unfold pv
  go_wp2_with fail
  refine (Hnd.out _ m4).mono ?_
  rintro e w5 ⟨rfl, m5, f5⟩
  have R5 := R4.fr f5 (by simp; omega)
  have F5 := F4.trans (f5.mono (S' := [r, pb]) (by simp))
  have O5 := O4.fr f5 (by simp; omega) l4
  have x0 : w5.cell? ⟨w3.heap.size, 0, none⟩ = some (.bool (q 0).e) := O5 0
  have x1 : w5.cell? ⟨w3.heap.size, 1, none⟩ = some (.int .u64 (q 0).f) := O5 1
  have x2 : w5.cell? ⟨w3.heap.size, 2, none⟩ = some (.int .u64 (q 0).l) := O5 2
  have x3 : w5.cell? ⟨w3.heap.size, 3, none⟩ = some (.bool (q 1).e) := O5 3
  have x4 : w5.cell? ⟨w3.heap.size, 4, none⟩ = some (.int .u64 (q 1).f) := O5 4
  have x5 : w5.cell? ⟨w3.heap.size, 5, none⟩ = some (.int .u64 (q 1).l) := O5 5
  have x6 : w5.cell? ⟨w3.heap.size, 6, none⟩ = some (.bool (q 2).e) := O5 6
  have x7 : w5.cell? ⟨w3.heap.size, 7, none⟩ = some (.int .u64 (q 2).f) := O5 7
  have x8 : w5.cell? ⟨w3.heap.size, 8, none⟩ = some (.int .u64 (q 2).l) := O5 8
  have x9 : w5.cell? ⟨w3.heap.size, 9, none⟩ = some (.bool (q 3).e) := O5 9
  have x10 : w5.cell? ⟨w3.heap.size, 10, none⟩ = some (.int .u64 (q 3).f) := O5 10
  have x11 : w5.cell? ⟨w3.heap.size, 11, none⟩ = some (.int .u64 (q 3).l) := O5 11
  have y0 : w5.cell? ⟨w.heap.size, 0, none⟩ = some (.bool false) := R5.rr 0
  have z0 := R5.zr 0
  have y1 : w5.cell? ⟨w.heap.size, 1, none⟩ = some (.int .u64 0) := R5.rr 1
  have z1 := R5.zr 1
  have y2 : w5.cell? ⟨w.heap.size, 2, none⟩ = some (.int .u64 0) := R5.rr 2
  have z2 := R5.zr 2
  have y3 : w5.cell? ⟨w.heap.size, 3, none⟩ = some (.bool false) := R5.rr 3
  have z3 := R5.zr 3
  have y4 : w5.cell? ⟨w.heap.size, 4, none⟩ = some (.int .u64 0) := R5.rr 4
  have z4 := R5.zr 4
  have y5 : w5.cell? ⟨w.heap.size, 5, none⟩ = some (.int .u64 0) := R5.rr 5
  have z5 := R5.zr 5
  have y6 : w5.cell? ⟨w.heap.size, 6, none⟩ = some (.bool false) := R5.rr 6
  have z6 := R5.zr 6
  have y7 : w5.cell? ⟨w.heap.size, 7, none⟩ = some (.int .u64 0) := R5.rr 7
  have z7 := R5.zr 7
  have y8 : w5.cell? ⟨w.heap.size, 8, none⟩ = some (.int .u64 0) := R5.rr 8
  have z8 := R5.zr 8
  have y9 : w5.cell? ⟨w.heap.size, 9, none⟩ = some (.bool false) := R5.rr 9
  have z9 := R5.zr 9
  have y10 : w5.cell? ⟨w.heap.size, 10, none⟩ = some (.int .u64 0) := R5.rr 10
  have z10 := R5.zr 10
  have y11 : w5.cell? ⟨w.heap.size, 11, none⟩ = some (.int .u64 0) := R5.rr 11
  have z11 := R5.zr 11
  go_wp2
  have hfr := far_sets w5 w.heap.size (.bool (q 0).e) (.int .u64 (q 0).f) (.int .u64 (q 0).l) (.bool (q 1).e) (.int .u64 (q 1).f) (.int .u64 (q 1).l) (.bool (q 2).e) (.int .u64 (q 2).f) (.int .u64 (q 2).l) (.bool (q 3).e) (.int .u64 (q 3).f) (.int .u64 (q 3).l)
  refine bodyPost_ret (v := pv q) (by simp [results, Tryd.results96, go_sem, pv, y0, y1, y2, y3, y4, y5, y6, y7, y8, y9, y10, y11]) rfl ⟨rfl, ?_, ?_⟩
  · rw [Hs.out]; exact m5.fr hfr (by simp; omega) (by simp; omega) (by simp; omega)
  · exact F5.trans' hfr (by simp)

end
end Go.Proofs.YticaoekmlaipnaaDoor
