/-
  An atom.
-/
import Derived.Test.YticaoekmlaipnaaDoorM10
set_option linter.unusedSimpArgs false
set_option linter.unusedVariables false
namespace Go.Proofs.YticaoekmlaipnaaDoor
open Go.RowKit

/-- What a part of the reader leaves. -/
def Post (w : World) (r pb : Nat) (t : ByteArray) (wh : Nat → Value) (x : Piece × St) : Ending → World → Prop := fun e w' => e = .returned (pv x.1) ∧ M w' r pb t wh x.2 ∧ Fr [r, pb] w w'

def SaidAlt (n : Nat) : Prop := ∀ (w : World) (r pb : Nat) (t : ByteArray) (wh : Nat → Value) (s : St), M w r pb t wh s → Inv t s → t.size ≤ 50 → 6 * (t.size - s.pos) + 6 ≤ n → Calls Tryd.prog 39 #[.pointer (some ⟨r, 0, none⟩)] w (Post w r pb t wh (altF t n s))
def SaidSeq (n : Nat) : Prop := ∀ (w : World) (r pb : Nat) (t : ByteArray) (wh : Nat → Value) (s : St), M w r pb t wh s → Inv t s → t.size ≤ 50 → 6 * (t.size - s.pos) + 4 ≤ n → Calls Tryd.prog 52 #[.pointer (some ⟨r, 0, none⟩)] w (Post w r pb t wh (seqF t n s))
def SaidPart (n : Nat) : Prop := ∀ (w : World) (r pb : Nat) (t : ByteArray) (wh : Nat → Value) (s : St), M w r pb t wh s → Inv t s → t.size ≤ 50 → peekF t s ≠ -1 → 6 * (t.size - s.pos) + 2 ≤ n → Calls Tryd.prog 84 #[.pointer (some ⟨r, 0, none⟩)] w (Post w r pb t wh (partF t n s))
def SaidAtom (n : Nat) : Prop := ∀ (w : World) (r pb : Nat) (t : ByteArray) (wh : Nat → Value) (s : St), M w r pb t wh s → Inv t s → t.size ≤ 50 → peekF t s ≠ -1 → 6 * (t.size - s.pos) + 1 ≤ n → Calls Tryd.prog 96 #[.pointer (some ⟨r, 0, none⟩)] w (Post w r pb t wh (atomF t n s))

theorem Inv.tk64 {t : ByteArray} {s : St} (h : Inv t s) (hs : t.size ≤ 50) (b : Nat) : s.tk b < 18446744073709551616 :=
  Nat.lt_of_lt_of_le (h.tk b) (Nat.le_trans (Nat.pow_le_pow_right (n := 2) (by decide) (show s.atoms ≤ 50 by have := h.at_; have := h.pos; omega)) (by decide))
theorem Inv.fo64 {t : ByteArray} {s : St} (h : Inv t s) (hs : t.size ≤ 50) (x a : Nat) : s.fo x a < 18446744073709551616 :=
  Nat.lt_of_lt_of_le (h.fo x a) (Nat.le_trans (Nat.pow_le_pow_right (n := 2) (by decide) (show s.atoms ≤ 50 by have := h.at_; have := h.pos; omega)) (by decide))
theorem PB.ok {n : Nat} {q : Piece} (h : PB n q) (hn : n ≤ 50) : q.ok := fun x =>
  ⟨Nat.lt_of_lt_of_le (h x).1 (Nat.le_trans (Nat.pow_le_pow_right (n := 2) (by decide) hn) (by decide)), Nat.lt_of_lt_of_le (h x).2 (Nat.le_trans (Nat.pow_le_pow_right (n := 2) (by decide) hn) (by decide))⟩
theorem PB.l50 {n : Nat} {q : Piece} (h : PB n q) (hn : n ≤ 50) (x : Nat) : (q x).l < 1125899906842624 :=
  Nat.lt_of_lt_of_le (h x).2 (Nat.le_trans (Nat.pow_le_pow_right (n := 2) (by decide) hn) (by decide))

theorem Res.drewN {b : Nat} {W : World} (h : Res b W) (n : Nat) : Res b (W.drewN n) := ⟨h.rr, h.zr⟩

section
variable {w : World} {r pb : Nat} {t : ByteArray} {wh : Nat → Value} {s : St}

set_option maxRecDepth 100000 in
set_option maxHeartbeats 2000000 in
theorem atom_group (n : Nat) (hA : SaidAlt n) (h : M w r pb t wh s) (hi : Inv t s) (hs : t.size ≤ 50) (hc : peekF t s = 40) (hn : 6 * (t.size - s.pos) + 1 ≤ n + 1) :
    Calls Tryd.prog 96 #[.pointer (some ⟨r, 0, none⟩)] w (Post w r pb t wh ((altF t n (advF s)).1, needF t (altF t n (advF s)).2 41)) := by
  have hp : peekF t s ≠ -1 := by rw [hc]; decide
  have hrl := h.rlt
  have hpl := h.pat.lt
  have hps := hi.pos
  have hat := hi.at_
  have hlt := (peek_ne hp).2
  have hadv := hi.adv hp
  have e40 : (peekF t s == 40) = true := by simp [hc]
  have gv := (givesAll t n).alt _ hadv
  have hpo := gv.inv.pos
  have hal := fun (W : World) (hW : M W r pb t wh (advF s)) => hA W r pb t wh (advF s) hW hadv hs (by simp [advF]; omega)
  unfold Post at hal ⊢
  obtain ⟨q, hq⟩ : ∃ q, (altF t n (advF s)).1 = q := ⟨_, rfl⟩
  obtain ⟨s1, hs1⟩ : ∃ q, (altF t n (advF s)).2 = q := ⟨_, rfl⟩
  simp only [hq, hs1] at hal hpo ⊢
  clear hq hs1 gv
  have hnd := fun (W : World) (hW : M W r pb t wh s1) => need_any 41 hW hs (by omega)
  obtain ⟨q', hq⟩ : ∃ q', q = q' := ⟨_, rfl⟩
  obtain ⟨sq, hsq⟩ : ∃ q, needF t s1 41 = q := ⟨_, rfl⟩
  simp only [hsq] at hnd
  have Hq : Hid (q = q) := rfl
  have Hs : Hid (_ = sq) := hsq
  have Hal := (show Hid _ from hal)
  have Hnd := (show Hid _ from hnd)
  clear hsq hal hnd hc hq q'
  go_enter Tryd.func96, Tryd.ntmps96
  go_wp2_with fail
  refine (peek_any (h.fr (((Fr.refl [] w).alloc (Obj.cells #[.bool false, .int .u64 0, .int .u64 0, .bool false, .int .u64 0, .int .u64 0, .bool false, .int .u64 0, .int .u64 0, .bool false, .int .u64 0, .int .u64 0] 73))) (by simp) (by simp) (by simp)) hs).mono ?_
  rintro e w1 ⟨rfl, n1, rfl⟩
  have m1 : M ((w.alloc (Obj.cells #[.bool false, .int .u64 0, .int .u64 0, .bool false, .int .u64 0, .int .u64 0, .bool false, .int .u64 0, .int .u64 0, .bool false, .int .u64 0, .int .u64 0] 73)).drewN n1) r pb t wh s := (h.fr (((Fr.refl [] w).alloc (Obj.cells #[.bool false, .int .u64 0, .int .u64 0, .bool false, .int .u64 0, .int .u64 0, .bool false, .int .u64 0, .int .u64 0, .bool false, .int .u64 0, .int .u64 0] 73))) (by simp) (by simp) (by simp)).heap rfl
  have R1 := (Res.new w).drewN n1
  have F1 : Fr [r, pb] w ((w.alloc (Obj.cells #[.bool false, .int .u64 0, .int .u64 0, .bool false, .int .u64 0, .int .u64 0, .bool false, .int .u64 0, .int .u64 0, .bool false, .int .u64 0, .int .u64 0] 73)).drewN n1) := ((Fr.refl _ w).alloc _).drewN n1
  generalize (w.alloc (Obj.cells #[.bool false, .int .u64 0, .int .u64 0, .bool false, .int .u64 0, .int .u64 0, .bool false, .int .u64 0, .int .u64 0, .bool false, .int .u64 0, .int .u64 0] 73)).drewN n1 = W1 at *
  have c1 := m1.rd.c1
  have z1 := m1.rd.f1
  have p1 : (s.pos : Int) ≤ 50 := by omega
  go_wp2_with fail
  have m2 := m1.adv
  have f2 : Fr [r] W1 (W1.setCell ⟨r, 1, none⟩ (.int .i64 ((s.pos : Int) + 1))) := (Fr.refl [r] W1).setCell (p := ⟨r, 1, none⟩) (.inl (by simp)) _
  have R2 := R1.fr f2 (by simp; omega)
  have F2 := F1.trans (f2.mono (S' := [r, pb]) (by simp))
  clear c1 z1 m1 R1 F1 f2
  refine (Hal.out _ m2).mono ?_
  clear m2
  rintro e w3 ⟨rfl, m3, f3⟩
  have R3 := R2.fr f3 (by simp; omega)
  have F3 := F2.trans f3
  clear R2 F2 f3
  have f4 : Fr [] w3 (w3.alloc (Obj.cells #[.bool (q 0).e, .int .u64 (q 0).f, .int .u64 (q 0).l, .bool (q 1).e, .int .u64 (q 1).f, .int .u64 (q 1).l, .bool (q 2).e, .int .u64 (q 2).f, .int .u64 (q 2).l, .bool (q 3).e, .int .u64 (q 3).f, .int .u64 (q 3).l] 73)) := (Fr.refl _ _).alloc _
  have m4 := m3.fr f4 (by simp) (by simp) (by simp)
  have R4 := R3.fr f4 (by simp)
  have F4 := F3.trans (f4.mono (S' := [r, pb]) (by simp))
  have O4 := rowIs_new w3 [.bool (q 0).e, .int .u64 (q 0).f, .int .u64 (q 0).l, .bool (q 1).e, .int .u64 (q 1).f, .int .u64 (q 1).l, .bool (q 2).e, .int .u64 (q 2).f, .int .u64 (q 2).l, .bool (q 3).e, .int .u64 (q 3).f, .int .u64 (q 3).l] 73
  have s3 := F3.size
  have R3lt := R3.lt
  have l4 : w3.heap.size < (w3.alloc (Obj.cells #[.bool (q 0).e, .int .u64 (q 0).f, .int .u64 (q 0).l, .bool (q 1).e, .int .u64 (q 1).f, .int .u64 (q 1).l, .bool (q 2).e, .int .u64 (q 2).f, .int .u64 (q 2).l, .bool (q 3).e, .int .u64 (q 3).f, .int .u64 (q 3).l] 73)).heap.size := by simp
  clear f4
  unfold pv
  go_wp2_with fail
  refine (Hnd.out _ m4).mono ?_
  rintro e w5 ⟨rfl, m5, f5⟩
  have R5 := R4.fr f5 (by simp; omega)
  have F5 := F4.trans (f5.mono (S' := [r, pb]) (by simp))
  have O5 := O4.fr f5 (by simp; omega) l4
  have x0 : w5.cell? ⟨w3.heap.size, 0, none⟩ = some (.bool (q 0).e) := O5 0
  have x1 : w5.cell? ⟨w3.heap.size, 1, none⟩ = some (.int .u64 (q 0).f) := O5 1
  have x2 : w5.cell? ⟨w3.heap.size, 2, none⟩ = some (.int .u64 (q 0).l) := O5 2
  have x3 : w5.cell? ⟨w3.heap.size, 3, none⟩ = some (.bool (q 1).e) := O5 3
  have x4 : w5.cell? ⟨w3.heap.size, 4, none⟩ = some (.int .u64 (q 1).f) := O5 4
  have x5 : w5.cell? ⟨w3.heap.size, 5, none⟩ = some (.int .u64 (q 1).l) := O5 5
  have x6 : w5.cell? ⟨w3.heap.size, 6, none⟩ = some (.bool (q 2).e) := O5 6
  have x7 : w5.cell? ⟨w3.heap.size, 7, none⟩ = some (.int .u64 (q 2).f) := O5 7
  have x8 : w5.cell? ⟨w3.heap.size, 8, none⟩ = some (.int .u64 (q 2).l) := O5 8
  have x9 : w5.cell? ⟨w3.heap.size, 9, none⟩ = some (.bool (q 3).e) := O5 9
  have x10 : w5.cell? ⟨w3.heap.size, 10, none⟩ = some (.int .u64 (q 3).f) := O5 10
  have x11 : w5.cell? ⟨w3.heap.size, 11, none⟩ = some (.int .u64 (q 3).l) := O5 11
  have y0 : w5.cell? ⟨w.heap.size, 0, none⟩ = some (.bool false) := R5.rr 0
  have z0 := R5.zr 0
  have y1 : w5.cell? ⟨w.heap.size, 1, none⟩ = some (.int .u64 0) := R5.rr 1
  have z1 := R5.zr 1
  have y2 : w5.cell? ⟨w.heap.size, 2, none⟩ = some (.int .u64 0) := R5.rr 2
  have z2 := R5.zr 2
  have y3 : w5.cell? ⟨w.heap.size, 3, none⟩ = some (.bool false) := R5.rr 3
  have z3 := R5.zr 3
  have y4 : w5.cell? ⟨w.heap.size, 4, none⟩ = some (.int .u64 0) := R5.rr 4
  have z4 := R5.zr 4
  have y5 : w5.cell? ⟨w.heap.size, 5, none⟩ = some (.int .u64 0) := R5.rr 5
  have z5 := R5.zr 5
  have y6 : w5.cell? ⟨w.heap.size, 6, none⟩ = some (.bool false) := R5.rr 6
  have z6 := R5.zr 6
  have y7 : w5.cell? ⟨w.heap.size, 7, none⟩ = some (.int .u64 0) := R5.rr 7
  have z7 := R5.zr 7
  have y8 : w5.cell? ⟨w.heap.size, 8, none⟩ = some (.int .u64 0) := R5.rr 8
  have z8 := R5.zr 8
  have y9 : w5.cell? ⟨w.heap.size, 9, none⟩ = some (.bool false) := R5.rr 9
  have z9 := R5.zr 9
  have y10 : w5.cell? ⟨w.heap.size, 10, none⟩ = some (.int .u64 0) := R5.rr 10
  have z10 := R5.zr 10
  have y11 : w5.cell? ⟨w.heap.size, 11, none⟩ = some (.int .u64 0) := R5.rr 11
  have z11 := R5.zr 11
  go_wp2
  have hfr := far_sets w5 w.heap.size (.bool (q 0).e) (.int .u64 (q 0).f) (.int .u64 (q 0).l) (.bool (q 1).e) (.int .u64 (q 1).f) (.int .u64 (q 1).l) (.bool (q 2).e) (.int .u64 (q 2).f) (.int .u64 (q 2).l) (.bool (q 3).e) (.int .u64 (q 3).f) (.int .u64 (q 3).l)
  refine bodyPost_ret (v := pv q) (by simp [results, Tryd.results96, go_sem, pv, y0, y1, y2, y3, y4, y5, y6, y7, y8, y9, y10, y11]) rfl ⟨rfl, ?_, ?_⟩
  · rw [Hs.out]; exact m5.fr hfr (by simp; omega) (by simp; omega) (by simp; omega)
  · exact F5.trans' hfr (by simp)

end
end Go.Proofs.YticaoekmlaipnaaDoor

namespace Go.Proofs.YticaoekmlaipnaaDoor
open Go.RowKit

theorem plain_range (t : ByteArray) (s : St) : 0 ≤ (plainF t s).1 ∧ (plainF t s).1 < 256 := by
  have h := peek_lt t (skipF t s 92).2
  unfold plainF
  split
  · simp
  · simp only; omega

section
variable {w : World} {r pb : Nat} {t : ByteArray} {wh : Nat → Value} {s : St}

set_option maxRecDepth 100000 in
set_option maxHeartbeats 2000000 in
theorem atom_class (n : Nat) (h : M w r pb t wh s) (hi : Inv t s) (hs : t.size ≤ 50) (hc : peekF t s = 91) (hn : 6 * (t.size - s.pos) + 1 ≤ n + 1) :
    Calls Tryd.prog 96 #[.pointer (some ⟨r, 0, none⟩)] w (Post w r pb t wh (classF t n (advF s))) := by
  have hp : peekF t s ≠ -1 := by rw [hc]; decide
  have hrl := h.rlt
  have hpl := h.pat.lt
  have hps := hi.pos
  have hat := hi.at_
  have hlt := (peek_ne hp).2
  have hadv := hi.adv hp
  have e40 : (peekF t s == 40) = false := by simp [hc]
  have e91 : (peekF t s == 91) = true := by simp [hc]
  have hcl := fun (W : World) (hW : M W r pb t wh (advF s)) => class_any n hW hadv hs (by simp [advF]; omega) (by simp [advF]; omega)
  unfold Post
  obtain ⟨q, hq⟩ : ∃ q, (classF t n (advF s)).1 = q := ⟨_, rfl⟩
  obtain ⟨sq, hsq⟩ : ∃ q, (classF t n (advF s)).2 = q := ⟨_, rfl⟩
  simp only [hq, hsq] at hcl
  have Hq : Hid (_ = q) := hq
  have Hs : Hid (_ = sq) := hsq
  have Hcl := (show Hid _ from hcl)
  clear hq hsq hcl hc
  go_enter Tryd.func96, Tryd.ntmps96
  go_wp2_with fail
  refine (peek_any (h.fr (((Fr.refl [] w).alloc (Obj.cells #[.bool false, .int .u64 0, .int .u64 0, .bool false, .int .u64 0, .int .u64 0, .bool false, .int .u64 0, .int .u64 0, .bool false, .int .u64 0, .int .u64 0] 73))) (by simp) (by simp) (by simp)) hs).mono ?_
  rintro e w1 ⟨rfl, n1, rfl⟩
  have m1 : M ((w.alloc (Obj.cells #[.bool false, .int .u64 0, .int .u64 0, .bool false, .int .u64 0, .int .u64 0, .bool false, .int .u64 0, .int .u64 0, .bool false, .int .u64 0, .int .u64 0] 73)).drewN n1) r pb t wh s := (h.fr (((Fr.refl [] w).alloc (Obj.cells #[.bool false, .int .u64 0, .int .u64 0, .bool false, .int .u64 0, .int .u64 0, .bool false, .int .u64 0, .int .u64 0, .bool false, .int .u64 0, .int .u64 0] 73))) (by simp) (by simp) (by simp)).heap rfl
  have R1 := (Res.new w).drewN n1
  have F1 : Fr [r, pb] w ((w.alloc (Obj.cells #[.bool false, .int .u64 0, .int .u64 0, .bool false, .int .u64 0, .int .u64 0, .bool false, .int .u64 0, .int .u64 0, .bool false, .int .u64 0, .int .u64 0] 73)).drewN n1) := ((Fr.refl _ w).alloc _).drewN n1
  generalize (w.alloc (Obj.cells #[.bool false, .int .u64 0, .int .u64 0, .bool false, .int .u64 0, .int .u64 0, .bool false, .int .u64 0, .int .u64 0, .bool false, .int .u64 0, .int .u64 0] 73)).drewN n1 = W1 at *
  have c1 := m1.rd.c1
  have z1 := m1.rd.f1
  have p1 : (s.pos : Int) ≤ 50 := by omega
  go_wp2_with fail
  have m2 := m1.adv
  have f2 : Fr [r] W1 (W1.setCell ⟨r, 1, none⟩ (.int .i64 ((s.pos : Int) + 1))) := (Fr.refl [r] W1).setCell (p := ⟨r, 1, none⟩) (.inl (by simp)) _
  have R2 := R1.fr f2 (by simp; omega)
  have F2 := F1.trans (f2.mono (S' := [r, pb]) (by simp))
  clear c1 z1 m1 R1 F1 f2
  refine (Hcl.out _ m2).mono ?_
  clear m2
  rintro e w3 ⟨rfl, m3, f3⟩
  have R3 := R2.fr f3 (by simp; omega)
  have F3 := F2.trans f3
  clear R2 F2 f3
  have y0 : w3.cell? ⟨w.heap.size, 0, none⟩ = some (.bool false) := R3.rr 0
  have z0 := R3.zr 0
  have y1 : w3.cell? ⟨w.heap.size, 1, none⟩ = some (.int .u64 0) := R3.rr 1
  have z1 := R3.zr 1
  have y2 : w3.cell? ⟨w.heap.size, 2, none⟩ = some (.int .u64 0) := R3.rr 2
  have z2 := R3.zr 2
  have y3 : w3.cell? ⟨w.heap.size, 3, none⟩ = some (.bool false) := R3.rr 3
  have z3 := R3.zr 3
  have y4 : w3.cell? ⟨w.heap.size, 4, none⟩ = some (.int .u64 0) := R3.rr 4
  have z4 := R3.zr 4
  have y5 : w3.cell? ⟨w.heap.size, 5, none⟩ = some (.int .u64 0) := R3.rr 5
  have z5 := R3.zr 5
  have y6 : w3.cell? ⟨w.heap.size, 6, none⟩ = some (.bool false) := R3.rr 6
  have z6 := R3.zr 6
  have y7 : w3.cell? ⟨w.heap.size, 7, none⟩ = some (.int .u64 0) := R3.rr 7
  have z7 := R3.zr 7
  have y8 : w3.cell? ⟨w.heap.size, 8, none⟩ = some (.int .u64 0) := R3.rr 8
  have z8 := R3.zr 8
  have y9 : w3.cell? ⟨w.heap.size, 9, none⟩ = some (.bool false) := R3.rr 9
  have z9 := R3.zr 9
  have y10 : w3.cell? ⟨w.heap.size, 10, none⟩ = some (.int .u64 0) := R3.rr 10
  have z10 := R3.zr 10
  have y11 : w3.cell? ⟨w.heap.size, 11, none⟩ = some (.int .u64 0) := R3.rr 11
  have z11 := R3.zr 11
  unfold pv
  go_wp2
  have hfr := far_sets w3 w.heap.size (.bool (q 0).e) (.int .u64 (q 0).f) (.int .u64 (q 0).l) (.bool (q 1).e) (.int .u64 (q 1).f) (.int .u64 (q 1).l) (.bool (q 2).e) (.int .u64 (q 2).f) (.int .u64 (q 2).l) (.bool (q 3).e) (.int .u64 (q 3).f) (.int .u64 (q 3).l)
  refine bodyPost_ret (v := pv q) (by simp [results, Tryd.results96, go_sem, pv, y0, y1, y2, y3, y4, y5, y6, y7, y8, y9, y10, y11]) rfl ⟨by rw [Hq.out], ?_, ?_⟩
  · rw [Hs.out]; exact m3.fr hfr (by simp; omega) (by simp; omega) (by simp; omega)
  · exact F3.trans' hfr (by simp)

set_option maxRecDepth 100000 in
set_option maxHeartbeats 2000000 in
theorem atom_dot (h : M w r pb t wh s) (hi : Inv t s) (hs : t.size ≤ 50) (hc : peekF t s = 46) :
    Calls Tryd.prog 96 #[.pointer (some ⟨r, 0, none⟩)] w (Post w r pb t wh (takeF (advF s) 0 255)) := by
  have hp : peekF t s ≠ -1 := by rw [hc]; decide
  have hrl := h.rlt
  have hpl := h.pat.lt
  have hps := hi.pos
  have hat := hi.at_
  have hlt := (peek_ne hp).2
  have hadv := hi.adv hp
  have e40 : (peekF t s == 40) = false := by simp [hc]
  have e91 : (peekF t s == 91) = false := by simp [hc]
  have e46 : (peekF t s == 46) = true := by simp [hc]
  have hcl := fun (W : World) (hW : M W r pb t wh (advF s)) => take_any 0 255 (by decide) (by decide) hW (by simp [advF]; omega) (hadv.tk64 hs)
  simp only [Int.natCast_zero, show ((255 : Nat) : Int) = 255 from rfl] at hcl
  unfold Post
  obtain ⟨q, hq⟩ : ∃ q, (takeF (advF s) 0 255).1 = q := ⟨_, rfl⟩
  obtain ⟨sq, hsq⟩ : ∃ q, (takeF (advF s) 0 255).2 = q := ⟨_, rfl⟩
  simp only [hq, hsq] at hcl
  have Hq : Hid (_ = q) := hq
  have Hs : Hid (_ = sq) := hsq
  have Hcl := (show Hid _ from hcl)
  clear hq hsq hcl hc
  go_enter Tryd.func96, Tryd.ntmps96
  go_wp2_with fail
  refine (peek_any (h.fr (((Fr.refl [] w).alloc (Obj.cells #[.bool false, .int .u64 0, .int .u64 0, .bool false, .int .u64 0, .int .u64 0, .bool false, .int .u64 0, .int .u64 0, .bool false, .int .u64 0, .int .u64 0] 73))) (by simp) (by simp) (by simp)) hs).mono ?_
  rintro e w1 ⟨rfl, n1, rfl⟩
  have m1 : M ((w.alloc (Obj.cells #[.bool false, .int .u64 0, .int .u64 0, .bool false, .int .u64 0, .int .u64 0, .bool false, .int .u64 0, .int .u64 0, .bool false, .int .u64 0, .int .u64 0] 73)).drewN n1) r pb t wh s := (h.fr (((Fr.refl [] w).alloc (Obj.cells #[.bool false, .int .u64 0, .int .u64 0, .bool false, .int .u64 0, .int .u64 0, .bool false, .int .u64 0, .int .u64 0, .bool false, .int .u64 0, .int .u64 0] 73))) (by simp) (by simp) (by simp)).heap rfl
  have R1 := (Res.new w).drewN n1
  have F1 : Fr [r, pb] w ((w.alloc (Obj.cells #[.bool false, .int .u64 0, .int .u64 0, .bool false, .int .u64 0, .int .u64 0, .bool false, .int .u64 0, .int .u64 0, .bool false, .int .u64 0, .int .u64 0] 73)).drewN n1) := ((Fr.refl _ w).alloc _).drewN n1
  generalize (w.alloc (Obj.cells #[.bool false, .int .u64 0, .int .u64 0, .bool false, .int .u64 0, .int .u64 0, .bool false, .int .u64 0, .int .u64 0, .bool false, .int .u64 0, .int .u64 0] 73)).drewN n1 = W1 at *
  have c1 := m1.rd.c1
  have z1 := m1.rd.f1
  have p1 : (s.pos : Int) ≤ 50 := by omega
  go_wp2_with fail
  have m2 := m1.adv
  have f2 : Fr [r] W1 (W1.setCell ⟨r, 1, none⟩ (.int .i64 ((s.pos : Int) + 1))) := (Fr.refl [r] W1).setCell (p := ⟨r, 1, none⟩) (.inl (by simp)) _
  have R2 := R1.fr f2 (by simp; omega)
  have F2 := F1.trans (f2.mono (S' := [r, pb]) (by simp))
  clear c1 z1 m1 R1 F1 f2
  refine (Hcl.out _ m2).mono ?_
  clear m2
  rintro e w3 ⟨rfl, m3, f3⟩
  have R3 := R2.fr f3 (by simp; omega)
  have F3 := F2.trans f3
  clear R2 F2 f3
  have y0 : w3.cell? ⟨w.heap.size, 0, none⟩ = some (.bool false) := R3.rr 0
  have z0 := R3.zr 0
  have y1 : w3.cell? ⟨w.heap.size, 1, none⟩ = some (.int .u64 0) := R3.rr 1
  have z1 := R3.zr 1
  have y2 : w3.cell? ⟨w.heap.size, 2, none⟩ = some (.int .u64 0) := R3.rr 2
  have z2 := R3.zr 2
  have y3 : w3.cell? ⟨w.heap.size, 3, none⟩ = some (.bool false) := R3.rr 3
  have z3 := R3.zr 3
  have y4 : w3.cell? ⟨w.heap.size, 4, none⟩ = some (.int .u64 0) := R3.rr 4
  have z4 := R3.zr 4
  have y5 : w3.cell? ⟨w.heap.size, 5, none⟩ = some (.int .u64 0) := R3.rr 5
  have z5 := R3.zr 5
  have y6 : w3.cell? ⟨w.heap.size, 6, none⟩ = some (.bool false) := R3.rr 6
  have z6 := R3.zr 6
  have y7 : w3.cell? ⟨w.heap.size, 7, none⟩ = some (.int .u64 0) := R3.rr 7
  have z7 := R3.zr 7
  have y8 : w3.cell? ⟨w.heap.size, 8, none⟩ = some (.int .u64 0) := R3.rr 8
  have z8 := R3.zr 8
  have y9 : w3.cell? ⟨w.heap.size, 9, none⟩ = some (.bool false) := R3.rr 9
  have z9 := R3.zr 9
  have y10 : w3.cell? ⟨w.heap.size, 10, none⟩ = some (.int .u64 0) := R3.rr 10
  have z10 := R3.zr 10
  have y11 : w3.cell? ⟨w.heap.size, 11, none⟩ = some (.int .u64 0) := R3.rr 11
  have z11 := R3.zr 11
  unfold pv
  go_wp2
  have hfr := far_sets w3 w.heap.size (.bool (q 0).e) (.int .u64 (q 0).f) (.int .u64 (q 0).l) (.bool (q 1).e) (.int .u64 (q 1).f) (.int .u64 (q 1).l) (.bool (q 2).e) (.int .u64 (q 2).f) (.int .u64 (q 2).l) (.bool (q 3).e) (.int .u64 (q 3).f) (.int .u64 (q 3).l)
  refine bodyPost_ret (v := pv q) (by simp [results, Tryd.results96, go_sem, pv, y0, y1, y2, y3, y4, y5, y6, y7, y8, y9, y10, y11]) rfl ⟨by rw [Hq.out], ?_, ?_⟩
  · rw [Hs.out]; exact m3.fr hfr (by simp; omega) (by simp; omega) (by simp; omega)
  · exact F3.trans' hfr (by simp)

set_option maxRecDepth 100000 in
set_option maxHeartbeats 2000000 in
theorem atom_begin (h : M w r pb t wh s) (hi : Inv t s) (hs : t.size ≤ 50) (hc : peekF t s = 94) :
    Calls Tryd.prog 96 #[.pointer (some ⟨r, 0, none⟩)] w (Post w r pb t wh (anchorF 1, advF s)) := by
  have hp : peekF t s ≠ -1 := by rw [hc]; decide
  have hrl := h.rlt
  have hpl := h.pat.lt
  have hps := hi.pos
  have hat := hi.at_
  have hlt := (peek_ne hp).2
  have hadv := hi.adv hp
  have e40 : (peekF t s == 40) = false := by simp [hc]
  have e91 : (peekF t s == 91) = false := by simp [hc]
  have e46 : (peekF t s == 46) = false := by simp [hc]
  have e94 : (peekF t s == 94) = true := by simp [hc]
  unfold Post
  obtain ⟨q, hq⟩ : ∃ q, anchorF 1 = q := ⟨_, rfl⟩
  have hcl := fun (W : World) => anchor_begin W
  simp only [hq] at hcl
  have Hq : Hid (_ = q) := hq
  have Hcl := (show Hid _ from hcl)
  clear hq hcl hc
  go_enter Tryd.func96, Tryd.ntmps96
  go_wp2_with fail
  refine (peek_any (h.fr (((Fr.refl [] w).alloc (Obj.cells #[.bool false, .int .u64 0, .int .u64 0, .bool false, .int .u64 0, .int .u64 0, .bool false, .int .u64 0, .int .u64 0, .bool false, .int .u64 0, .int .u64 0] 73))) (by simp) (by simp) (by simp)) hs).mono ?_
  rintro e w1 ⟨rfl, n1, rfl⟩
  have m1 : M ((w.alloc (Obj.cells #[.bool false, .int .u64 0, .int .u64 0, .bool false, .int .u64 0, .int .u64 0, .bool false, .int .u64 0, .int .u64 0, .bool false, .int .u64 0, .int .u64 0] 73)).drewN n1) r pb t wh s := (h.fr (((Fr.refl [] w).alloc (Obj.cells #[.bool false, .int .u64 0, .int .u64 0, .bool false, .int .u64 0, .int .u64 0, .bool false, .int .u64 0, .int .u64 0, .bool false, .int .u64 0, .int .u64 0] 73))) (by simp) (by simp) (by simp)).heap rfl
  have R1 := (Res.new w).drewN n1
  have F1 : Fr [r, pb] w ((w.alloc (Obj.cells #[.bool false, .int .u64 0, .int .u64 0, .bool false, .int .u64 0, .int .u64 0, .bool false, .int .u64 0, .int .u64 0, .bool false, .int .u64 0, .int .u64 0] 73)).drewN n1) := ((Fr.refl _ w).alloc _).drewN n1
  generalize (w.alloc (Obj.cells #[.bool false, .int .u64 0, .int .u64 0, .bool false, .int .u64 0, .int .u64 0, .bool false, .int .u64 0, .int .u64 0, .bool false, .int .u64 0, .int .u64 0] 73)).drewN n1 = W1 at *
  have c1 := m1.rd.c1
  have z1 := m1.rd.f1
  have p1 : (s.pos : Int) ≤ 50 := by omega
  go_wp2_with fail
  have m2 := m1.adv
  have f2 : Fr [r] W1 (W1.setCell ⟨r, 1, none⟩ (.int .i64 ((s.pos : Int) + 1))) := (Fr.refl [r] W1).setCell (p := ⟨r, 1, none⟩) (.inl (by simp)) _
  have R2 := R1.fr f2 (by simp; omega)
  have F2 := F1.trans (f2.mono (S' := [r, pb]) (by simp))
  clear c1 z1 m1 R1 F1 f2
  refine (Hcl.out _).mono ?_
  rintro e w3 ⟨rfl, f3⟩
  have m3 := m2.fr f3 (by simp) (by simp) (by simp)
  have R3 := R2.fr f3 (by simp)
  have F3 := F2.trans (f3.mono (S' := [r, pb]) (by simp))
  clear R2 F2 f3 m2
  have y0 : w3.cell? ⟨w.heap.size, 0, none⟩ = some (.bool false) := R3.rr 0
  have z0 := R3.zr 0
  have y1 : w3.cell? ⟨w.heap.size, 1, none⟩ = some (.int .u64 0) := R3.rr 1
  have z1 := R3.zr 1
  have y2 : w3.cell? ⟨w.heap.size, 2, none⟩ = some (.int .u64 0) := R3.rr 2
  have z2 := R3.zr 2
  have y3 : w3.cell? ⟨w.heap.size, 3, none⟩ = some (.bool false) := R3.rr 3
  have z3 := R3.zr 3
  have y4 : w3.cell? ⟨w.heap.size, 4, none⟩ = some (.int .u64 0) := R3.rr 4
  have z4 := R3.zr 4
  have y5 : w3.cell? ⟨w.heap.size, 5, none⟩ = some (.int .u64 0) := R3.rr 5
  have z5 := R3.zr 5
  have y6 : w3.cell? ⟨w.heap.size, 6, none⟩ = some (.bool false) := R3.rr 6
  have z6 := R3.zr 6
  have y7 : w3.cell? ⟨w.heap.size, 7, none⟩ = some (.int .u64 0) := R3.rr 7
  have z7 := R3.zr 7
  have y8 : w3.cell? ⟨w.heap.size, 8, none⟩ = some (.int .u64 0) := R3.rr 8
  have z8 := R3.zr 8
  have y9 : w3.cell? ⟨w.heap.size, 9, none⟩ = some (.bool false) := R3.rr 9
  have z9 := R3.zr 9
  have y10 : w3.cell? ⟨w.heap.size, 10, none⟩ = some (.int .u64 0) := R3.rr 10
  have z10 := R3.zr 10
  have y11 : w3.cell? ⟨w.heap.size, 11, none⟩ = some (.int .u64 0) := R3.rr 11
  have z11 := R3.zr 11
  unfold pv
  go_wp2
  have hfr := far_sets w3 w.heap.size (.bool (q 0).e) (.int .u64 (q 0).f) (.int .u64 (q 0).l) (.bool (q 1).e) (.int .u64 (q 1).f) (.int .u64 (q 1).l) (.bool (q 2).e) (.int .u64 (q 2).f) (.int .u64 (q 2).l) (.bool (q 3).e) (.int .u64 (q 3).f) (.int .u64 (q 3).l)
  refine bodyPost_ret (v := pv q) (by simp [results, Tryd.results96, go_sem, pv, y0, y1, y2, y3, y4, y5, y6, y7, y8, y9, y10, y11]) rfl ⟨by rw [Hq.out], ?_, ?_⟩
  · exact m3.fr hfr (by simp; omega) (by simp; omega) (by simp; omega)
  · exact F3.trans' hfr (by simp)

set_option maxRecDepth 100000 in
set_option maxHeartbeats 2000000 in
theorem atom_end (h : M w r pb t wh s) (hi : Inv t s) (hs : t.size ≤ 50) (hc : peekF t s = 36) :
    Calls Tryd.prog 96 #[.pointer (some ⟨r, 0, none⟩)] w (Post w r pb t wh (anchorF 2, advF s)) := by
  have hp : peekF t s ≠ -1 := by rw [hc]; decide
  have hrl := h.rlt
  have hpl := h.pat.lt
  have hps := hi.pos
  have hat := hi.at_
  have hlt := (peek_ne hp).2
  have hadv := hi.adv hp
  have e40 : (peekF t s == 40) = false := by simp [hc]
  have e91 : (peekF t s == 91) = false := by simp [hc]
  have e46 : (peekF t s == 46) = false := by simp [hc]
  have e94 : (peekF t s == 94) = false := by simp [hc]
  have e36 : (peekF t s == 36) = true := by simp [hc]
  unfold Post
  obtain ⟨q, hq⟩ : ∃ q, anchorF 2 = q := ⟨_, rfl⟩
  have hcl := fun (W : World) => anchor_end W
  simp only [hq] at hcl
  have Hq : Hid (_ = q) := hq
  have Hcl := (show Hid _ from hcl)
  clear hq hcl hc
  go_enter Tryd.func96, Tryd.ntmps96
  go_wp2_with fail
  refine (peek_any (h.fr (((Fr.refl [] w).alloc (Obj.cells #[.bool false, .int .u64 0, .int .u64 0, .bool false, .int .u64 0, .int .u64 0, .bool false, .int .u64 0, .int .u64 0, .bool false, .int .u64 0, .int .u64 0] 73))) (by simp) (by simp) (by simp)) hs).mono ?_
  rintro e w1 ⟨rfl, n1, rfl⟩
  have m1 : M ((w.alloc (Obj.cells #[.bool false, .int .u64 0, .int .u64 0, .bool false, .int .u64 0, .int .u64 0, .bool false, .int .u64 0, .int .u64 0, .bool false, .int .u64 0, .int .u64 0] 73)).drewN n1) r pb t wh s := (h.fr (((Fr.refl [] w).alloc (Obj.cells #[.bool false, .int .u64 0, .int .u64 0, .bool false, .int .u64 0, .int .u64 0, .bool false, .int .u64 0, .int .u64 0, .bool false, .int .u64 0, .int .u64 0] 73))) (by simp) (by simp) (by simp)).heap rfl
  have R1 := (Res.new w).drewN n1
  have F1 : Fr [r, pb] w ((w.alloc (Obj.cells #[.bool false, .int .u64 0, .int .u64 0, .bool false, .int .u64 0, .int .u64 0, .bool false, .int .u64 0, .int .u64 0, .bool false, .int .u64 0, .int .u64 0] 73)).drewN n1) := ((Fr.refl _ w).alloc _).drewN n1
  generalize (w.alloc (Obj.cells #[.bool false, .int .u64 0, .int .u64 0, .bool false, .int .u64 0, .int .u64 0, .bool false, .int .u64 0, .int .u64 0, .bool false, .int .u64 0, .int .u64 0] 73)).drewN n1 = W1 at *
  have c1 := m1.rd.c1
  have z1 := m1.rd.f1
  have p1 : (s.pos : Int) ≤ 50 := by omega
  go_wp2_with fail
  have m2 := m1.adv
  have f2 : Fr [r] W1 (W1.setCell ⟨r, 1, none⟩ (.int .i64 ((s.pos : Int) + 1))) := (Fr.refl [r] W1).setCell (p := ⟨r, 1, none⟩) (.inl (by simp)) _
  have R2 := R1.fr f2 (by simp; omega)
  have F2 := F1.trans (f2.mono (S' := [r, pb]) (by simp))
  clear c1 z1 m1 R1 F1 f2
  refine (Hcl.out _).mono ?_
  rintro e w3 ⟨rfl, f3⟩
  have m3 := m2.fr f3 (by simp) (by simp) (by simp)
  have R3 := R2.fr f3 (by simp)
  have F3 := F2.trans (f3.mono (S' := [r, pb]) (by simp))
  clear R2 F2 f3 m2
  have y0 : w3.cell? ⟨w.heap.size, 0, none⟩ = some (.bool false) := R3.rr 0
  have z0 := R3.zr 0
  have y1 : w3.cell? ⟨w.heap.size, 1, none⟩ = some (.int .u64 0) := R3.rr 1
  have z1 := R3.zr 1
  have y2 : w3.cell? ⟨w.heap.size, 2, none⟩ = some (.int .u64 0) := R3.rr 2
  have z2 := R3.zr 2
  have y3 : w3.cell? ⟨w.heap.size, 3, none⟩ = some (.bool false) := R3.rr 3
  have z3 := R3.zr 3
  have y4 : w3.cell? ⟨w.heap.size, 4, none⟩ = some (.int .u64 0) := R3.rr 4
  have z4 := R3.zr 4
  have y5 : w3.cell? ⟨w.heap.size, 5, none⟩ = some (.int .u64 0) := R3.rr 5
  have z5 := R3.zr 5
  have y6 : w3.cell? ⟨w.heap.size, 6, none⟩ = some (.bool false) := R3.rr 6
  have z6 := R3.zr 6
  have y7 : w3.cell? ⟨w.heap.size, 7, none⟩ = some (.int .u64 0) := R3.rr 7
  have z7 := R3.zr 7
  have y8 : w3.cell? ⟨w.heap.size, 8, none⟩ = some (.int .u64 0) := R3.rr 8
  have z8 := R3.zr 8
  have y9 : w3.cell? ⟨w.heap.size, 9, none⟩ = some (.bool false) := R3.rr 9
  have z9 := R3.zr 9
  have y10 : w3.cell? ⟨w.heap.size, 10, none⟩ = some (.int .u64 0) := R3.rr 10
  have z10 := R3.zr 10
  have y11 : w3.cell? ⟨w.heap.size, 11, none⟩ = some (.int .u64 0) := R3.rr 11
  have z11 := R3.zr 11
  unfold pv
  go_wp2
  have hfr := far_sets w3 w.heap.size (.bool (q 0).e) (.int .u64 (q 0).f) (.int .u64 (q 0).l) (.bool (q 1).e) (.int .u64 (q 1).f) (.int .u64 (q 1).l) (.bool (q 2).e) (.int .u64 (q 2).f) (.int .u64 (q 2).l) (.bool (q 3).e) (.int .u64 (q 3).f) (.int .u64 (q 3).l)
  refine bodyPost_ret (v := pv q) (by simp [results, Tryd.results96, go_sem, pv, y0, y1, y2, y3, y4, y5, y6, y7, y8, y9, y10, y11]) rfl ⟨by rw [Hq.out], ?_, ?_⟩
  · exact m3.fr hfr (by simp; omega) (by simp; omega) (by simp; omega)
  · exact F3.trans' hfr (by simp)

set_option maxRecDepth 100000 in
set_option maxHeartbeats 2000000 in
theorem atom_plain (h : M w r pb t wh s) (hi : Inv t s) (hs : t.size ≤ 50) (hp : peekF t s ≠ -1) (h40 : peekF t s ≠ 40) (h91 : peekF t s ≠ 91) (h46 : peekF t s ≠ 46) (h94 : peekF t s ≠ 94) (h36 : peekF t s ≠ 36) :
    Calls Tryd.prog 96 #[.pointer (some ⟨r, 0, none⟩)] w (Post w r pb t wh (takeF (plainF t s).2 (plainF t s).1 (plainF t s).1)) := by
  have hrl := h.rlt
  have hpl := h.pat.lt
  have hps := hi.pos
  have hat := hi.at_
  have hlt := (peek_ne hp).2
  have hadv := hi.adv hp
  have e40 : (peekF t s == 40) = false := by simpa using h40
  have e91 : (peekF t s == 91) = false := by simpa using h91
  have e46 : (peekF t s == 46) = false := by simpa using h46
  have e94 : (peekF t s == 94) = false := by simpa using h94
  have e36 : (peekF t s == 36) = false := by simpa using h36
  obtain ⟨pn, pl⟩ := plain_near s hp
  have pin := pn.inv hi
  have pr := plain_range t s
  have hpa := fun (W : World) (hW : M W r pb t wh s) => plain_any hW hs (by omega)
  have pat := pn.atoms
  have ptk := pin.tk64 hs
  unfold Post
  obtain ⟨b', hb⟩ : ∃ q, (plainF t s).1 = q := ⟨_, rfl⟩
  obtain ⟨s1, hs1⟩ : ∃ q, (plainF t s).2 = q := ⟨_, rfl⟩
  simp only [hb, hs1] at hpa pat ptk pr ⊢
  clear hb hs1 pn pl pin h40 h91 h46 h94 h36 hp
  obtain ⟨b, rfl⟩ := Int.eq_ofNat_of_zero_le pr.1
  have hcl := fun (W : World) (hW : M W r pb t wh s1) => take_any b b (Nat.le_refl _) (by omega) hW (by omega) ptk
  obtain ⟨q, hq⟩ : ∃ q, (takeF s1 b b).1 = q := ⟨_, rfl⟩
  obtain ⟨sq, hsq⟩ : ∃ q, (takeF s1 b b).2 = q := ⟨_, rfl⟩
  simp only [hq, hsq] at hcl
  have Hq : Hid (_ = q) := hq
  have Hs : Hid (_ = sq) := hsq
  have Hcl := (show Hid _ from hcl)
  have Hpa := (show Hid _ from hpa)
  clear hq hsq hcl hpa pat ptk
  go_enter Tryd.func96, Tryd.ntmps96
  go_wp2_with fail
  refine (peek_any (h.fr (((Fr.refl [] w).alloc (Obj.cells #[.bool false, .int .u64 0, .int .u64 0, .bool false, .int .u64 0, .int .u64 0, .bool false, .int .u64 0, .int .u64 0, .bool false, .int .u64 0, .int .u64 0] 73))) (by simp) (by simp) (by simp)) hs).mono ?_
  rintro e w1 ⟨rfl, n1, rfl⟩
  have m1 : M ((w.alloc (Obj.cells #[.bool false, .int .u64 0, .int .u64 0, .bool false, .int .u64 0, .int .u64 0, .bool false, .int .u64 0, .int .u64 0, .bool false, .int .u64 0, .int .u64 0] 73)).drewN n1) r pb t wh s := (h.fr (((Fr.refl [] w).alloc (Obj.cells #[.bool false, .int .u64 0, .int .u64 0, .bool false, .int .u64 0, .int .u64 0, .bool false, .int .u64 0, .int .u64 0, .bool false, .int .u64 0, .int .u64 0] 73))) (by simp) (by simp) (by simp)).heap rfl
  have R1 := (Res.new w).drewN n1
  have F1 : Fr [r, pb] w ((w.alloc (Obj.cells #[.bool false, .int .u64 0, .int .u64 0, .bool false, .int .u64 0, .int .u64 0, .bool false, .int .u64 0, .int .u64 0, .bool false, .int .u64 0, .int .u64 0] 73)).drewN n1) := ((Fr.refl _ w).alloc _).drewN n1
  generalize (w.alloc (Obj.cells #[.bool false, .int .u64 0, .int .u64 0, .bool false, .int .u64 0, .int .u64 0, .bool false, .int .u64 0, .int .u64 0, .bool false, .int .u64 0, .int .u64 0] 73)).drewN n1 = W1 at *
  have c1 := m1.rd.c1
  have z1 := m1.rd.f1
  have p1 : (s.pos : Int) ≤ 50 := by omega
  clear c1 z1
  go_wp2_with fail
  refine (Hpa.out _ m1).mono ?_
  clear m1
  rintro e w2 ⟨rfl, m2, f2⟩
  have R2 := R1.fr f2 (by simp; omega)
  have F2 := F1.trans (f2.mono (S' := [r, pb]) (by simp))
  clear R1 F1 f2
  go_wp2_with fail
  refine (Hcl.out _ m2).mono ?_
  clear m2
  rintro e w3 ⟨rfl, m3, f3⟩
  have R3 := R2.fr f3 (by simp; omega)
  have F3 := F2.trans f3
  clear R2 F2 f3
  have y0 : w3.cell? ⟨w.heap.size, 0, none⟩ = some (.bool false) := R3.rr 0
  have z0 := R3.zr 0
  have y1 : w3.cell? ⟨w.heap.size, 1, none⟩ = some (.int .u64 0) := R3.rr 1
  have z1 := R3.zr 1
  have y2 : w3.cell? ⟨w.heap.size, 2, none⟩ = some (.int .u64 0) := R3.rr 2
  have z2 := R3.zr 2
  have y3 : w3.cell? ⟨w.heap.size, 3, none⟩ = some (.bool false) := R3.rr 3
  have z3 := R3.zr 3
  have y4 : w3.cell? ⟨w.heap.size, 4, none⟩ = some (.int .u64 0) := R3.rr 4
  have z4 := R3.zr 4
  have y5 : w3.cell? ⟨w.heap.size, 5, none⟩ = some (.int .u64 0) := R3.rr 5
  have z5 := R3.zr 5
  have y6 : w3.cell? ⟨w.heap.size, 6, none⟩ = some (.bool false) := R3.rr 6
  have z6 := R3.zr 6
  have y7 : w3.cell? ⟨w.heap.size, 7, none⟩ = some (.int .u64 0) := R3.rr 7
  have z7 := R3.zr 7
  have y8 : w3.cell? ⟨w.heap.size, 8, none⟩ = some (.int .u64 0) := R3.rr 8
  have z8 := R3.zr 8
  have y9 : w3.cell? ⟨w.heap.size, 9, none⟩ = some (.bool false) := R3.rr 9
  have z9 := R3.zr 9
  have y10 : w3.cell? ⟨w.heap.size, 10, none⟩ = some (.int .u64 0) := R3.rr 10
  have z10 := R3.zr 10
  have y11 : w3.cell? ⟨w.heap.size, 11, none⟩ = some (.int .u64 0) := R3.rr 11
  have z11 := R3.zr 11
  unfold pv
  go_wp2
  have hfr := far_sets w3 w.heap.size (.bool (q 0).e) (.int .u64 (q 0).f) (.int .u64 (q 0).l) (.bool (q 1).e) (.int .u64 (q 1).f) (.int .u64 (q 1).l) (.bool (q 2).e) (.int .u64 (q 2).f) (.int .u64 (q 2).l) (.bool (q 3).e) (.int .u64 (q 3).f) (.int .u64 (q 3).l)
  refine bodyPost_ret (v := pv q) (by simp [results, Tryd.results96, go_sem, pv, y0, y1, y2, y3, y4, y5, y6, y7, y8, y9, y10, y11]) rfl ⟨by rw [Hq.out], ?_, ?_⟩
  · rw [Hs.out]; exact m3.fr hfr (by simp; omega) (by simp; omega) (by simp; omega)
  · exact F3.trans' hfr (by simp)

end

theorem atom_said (n : Nat) (hA : SaidAlt n) : SaidAtom (n + 1) := by
  intro w r pb t wh s h hi hs hp hn
  rw [atomF_s]
  split
  · rename_i hc; exact atom_group n hA h hi hs hc hn
  · split
    · rename_i _ hc; exact atom_class n h hi hs hc hn
    · split
      · rename_i _ _ hc; exact atom_dot h hi hs hc
      · split
        · rename_i _ _ _ hc; exact atom_begin h hi hs hc
        · split
          · rename_i _ _ _ _ hc; exact atom_end h hi hs hc
          · rename_i h1 h2 h3 h4 h5; exact atom_plain h hi hs hp h1 h2 h3 h4 h5

end Go.Proofs.YticaoekmlaipnaaDoor

namespace Go.Proofs.YticaoekmlaipnaaDoor
open Go.RowKit

theorem row_sets (W : World) (b : Nat) (a0 a1 a2 a3 a4 a5 a6 a7 a8 a9 a10 a11 v0 v1 v2 v3 v4 v5 v6 v7 v8 v9 v10 v11 : Value) (h : RowIs W b [a0, a1, a2, a3, a4, a5, a6, a7, a8, a9, a10, a11]) : RowIs ((((((((((((W.setCell { block := b, off := 0 } (v0)).setCell { block := b, off := 1 } (v1)).setCell { block := b, off := 2 } (v2)).setCell { block := b, off := 3 } (v3)).setCell { block := b, off := 4 } (v4)).setCell { block := b, off := 5 } (v5)).setCell { block := b, off := 6 } (v6)).setCell { block := b, off := 7 } (v7)).setCell { block := b, off := 8 } (v8)).setCell { block := b, off := 9 } (v9)).setCell { block := b, off := 10 } (v10)).setCell { block := b, off := 11 } (v11)) b [v0, v1, v2, v3, v4, v5, v6, v7, v8, v9, v10, v11] :=
  ((((((((((((h.set 0 (by simp) v0).set 1 (by simp) v1).set 2 (by simp) v2).set 3 (by simp) v3).set 4 (by simp) v4).set 5 (by simp) v5).set 6 (by simp) v6).set 7 (by simp) v7).set 8 (by simp) v8).set 9 (by simp) v9).set 10 (by simp) v10).set 11 (by simp) v11)
theorem frozen_sets (W : World) (b : Nat) (v0 v1 v2 v3 v4 v5 v6 v7 v8 v9 v10 v11 : Value) (a : Addr) : ((((((((((((W.setCell { block := b, off := 0 } (v0)).setCell { block := b, off := 1 } (v1)).setCell { block := b, off := 2 } (v2)).setCell { block := b, off := 3 } (v3)).setCell { block := b, off := 4 } (v4)).setCell { block := b, off := 5 } (v5)).setCell { block := b, off := 6 } (v6)).setCell { block := b, off := 7 } (v7)).setCell { block := b, off := 8 } (v8)).setCell { block := b, off := 9 } (v9)).setCell { block := b, off := 10 } (v10)).setCell { block := b, off := 11 } (v11)).frozen? a = W.frozen? a := by
  simp only [World.frozen?_setCell]

/-- A variable that holds a piece. -/
structure Out (b : Nat) (q : Piece) (W : World) : Prop where
  rr : RowIs W b [.bool (q 0).e, .int .u64 (q 0).f, .int .u64 (q 0).l, .bool (q 1).e, .int .u64 (q 1).f, .int .u64 (q 1).l, .bool (q 2).e, .int .u64 (q 2).f, .int .u64 (q 2).l, .bool (q 3).e, .int .u64 (q 3).f, .int .u64 (q 3).l]
  zr : ∀ i, W.frozen? ⟨b, i, none⟩ = false
theorem Out.lt {b : Nat} {q : Piece} {W : World} (h : Out b q W) : b < W.heap.size := lt_of_cell (a := ⟨b, 0, none⟩) (h.rr 0)
theorem Out.fr {S : List Nat} {b : Nat} {q : Piece} {W W' : World} (h : Out b q W) (hf : Fr S W W') (hb : b ∉ S) : Out b q W' := ⟨h.rr.fr hf hb h.lt, fun i => (hf.frozen (p := ⟨b, i, none⟩) h.lt hb).trans (h.zr i)⟩
theorem Out.heap {b : Nat} {q : Piece} {W W' : World} (h : Out b q W) (hh : W'.heap = W.heap) : Out b q W' :=
  ⟨fun i => (World.cell?_of_block (w := W) (a := ⟨b, i, none⟩) (by rw [hh])).trans (h.rr i), fun i => (World.frozen?_of_block (w := W) (a := ⟨b, i, none⟩) (by rw [hh])).trans (h.zr i)⟩
theorem Out.new (W : World) (q : Piece) : Out W.heap.size q (W.alloc (Obj.cells #[.bool (q 0).e, .int .u64 (q 0).f, .int .u64 (q 0).l, .bool (q 1).e, .int .u64 (q 1).f, .int .u64 (q 1).l, .bool (q 2).e, .int .u64 (q 2).f, .int .u64 (q 2).l, .bool (q 3).e, .int .u64 (q 3).f, .int .u64 (q 3).l] 73)) := ⟨rowIs_new W _ 73, frozen_all_new W _ 73⟩
theorem Out.set {b : Nat} {q : Piece} {W : World} (h : Out b q W) (p : Piece) : Out b p ((((((((((((W.setCell { block := b, off := 0 } (.bool (p 0).e)).setCell { block := b, off := 1 } (.int .u64 (p 0).f)).setCell { block := b, off := 2 } (.int .u64 (p 0).l)).setCell { block := b, off := 3 } (.bool (p 1).e)).setCell { block := b, off := 4 } (.int .u64 (p 1).f)).setCell { block := b, off := 5 } (.int .u64 (p 1).l)).setCell { block := b, off := 6 } (.bool (p 2).e)).setCell { block := b, off := 7 } (.int .u64 (p 2).f)).setCell { block := b, off := 8 } (.int .u64 (p 2).l)).setCell { block := b, off := 9 } (.bool (p 3).e)).setCell { block := b, off := 10 } (.int .u64 (p 3).f)).setCell { block := b, off := 11 } (.int .u64 (p 3).l)) :=
  ⟨row_sets W b _ _ _ _ _ _ _ _ _ _ _ _ (.bool (p 0).e) (.int .u64 (p 0).f) (.int .u64 (p 0).l) (.bool (p 1).e) (.int .u64 (p 1).f) (.int .u64 (p 1).l) (.bool (p 2).e) (.int .u64 (p 2).f) (.int .u64 (p 2).l) (.bool (p 3).e) (.int .u64 (p 3).f) (.int .u64 (p 3).l) h.rr, fun i => (frozen_sets W b (.bool (p 0).e) (.int .u64 (p 0).f) (.int .u64 (p 0).l) (.bool (p 1).e) (.int .u64 (p 1).f) (.int .u64 (p 1).l) (.bool (p 2).e) (.int .u64 (p 2).f) (.int .u64 (p 2).l) (.bool (p 3).e) (.int .u64 (p 3).f) (.int .u64 (p 3).l) _).trans (h.zr i)⟩
theorem Res.heap {b : Nat} {W W' : World} (h : Res b W) (hh : W'.heap = W.heap) : Res b W' :=
  ⟨fun i => (World.cell?_of_block (w := W) (a := ⟨b, i, none⟩) (by rw [hh])).trans (h.rr i), fun i => (World.frozen?_of_block (w := W) (a := ⟨b, i, none⟩) (by rw [hh])).trans (h.zr i)⟩
theorem Fr.heap {S : List Nat} {a w w' : World} (h : Fr S a w) (hh : w'.heap = w.heap) (ho : w'.os = w.os) (ht : w'.tape = w.tape) (hu : w'.output = w.output) : Fr S a w' :=
  ⟨ho.trans h.os, ht.trans h.tape, hu.trans h.output, by rw [hh]; exact h.size, by rw [hh]; exact h.block⟩

/-- The reader, its result's place and a piece in a variable. -/
structure Work (w : World) (r pb : Nat) (t : ByteArray) (wh : Nat → Value) (ob : Nat) (q : Piece) (s : St) (W : World) : Prop where
  m : M W r pb t wh s
  out : Out ob q W
  res : Res w.heap.size W
  fr : Fr [r, pb] w W
  lo : w.heap.size < ob
  rl : r < w.heap.size
  pl : pb < w.heap.size

theorem Work.heap {w : World} {r pb : Nat} {t : ByteArray} {wh : Nat → Value} {ob : Nat} {q : Piece} {s : St} {W W' : World} (h : Work w r pb t wh ob q s W) (hh : W'.heap = W.heap) (ho : W'.os = W.os) (ht : W'.tape = W.tape) (hu : W'.output = W.output) : Work w r pb t wh ob q s W' :=
  ⟨h.m.heap hh, h.out.heap hh, h.res.heap hh, h.fr.heap hh ho ht hu, h.lo, h.rl, h.pl⟩
theorem Work.kept {w : World} {r pb : Nat} {t : ByteArray} {wh : Nat → Value} {ob : Nat} {q : Piece} {s : St} {W W' : World} (h : Work w r pb t wh ob q s W) (hf : Fr [] W W') : Work w r pb t wh ob q s W' :=
  ⟨h.m.fr hf (by simp) (by simp) (by simp), h.out.fr hf (by simp), h.res.fr hf (by simp), h.fr.trans (hf.mono (by simp)), h.lo, h.rl, h.pl⟩
theorem Work.call {w : World} {r pb : Nat} {t : ByteArray} {wh : Nat → Value} {ob : Nat} {q : Piece} {s s' : St} {W W' : World} (h : Work w r pb t wh ob q s W) (hm : M W' r pb t wh s') (hf : Fr [r, pb] W W') : Work w r pb t wh ob q s' W' :=
  have h1 := h.lo
  have h2 := h.rl
  have h3 := h.pl
  ⟨hm, h.out.fr hf (by simp; omega), h.res.fr hf (by simp; omega), h.fr.trans hf, h.lo, h.rl, h.pl⟩
theorem Work.set {w : World} {r pb : Nat} {t : ByteArray} {wh : Nat → Value} {ob : Nat} {q : Piece} {s : St} {W : World} (h : Work w r pb t wh ob q s W) (p : Piece) : Work w r pb t wh ob p s ((((((((((((W.setCell { block := ob, off := 0 } (.bool (p 0).e)).setCell { block := ob, off := 1 } (.int .u64 (p 0).f)).setCell { block := ob, off := 2 } (.int .u64 (p 0).l)).setCell { block := ob, off := 3 } (.bool (p 1).e)).setCell { block := ob, off := 4 } (.int .u64 (p 1).f)).setCell { block := ob, off := 5 } (.int .u64 (p 1).l)).setCell { block := ob, off := 6 } (.bool (p 2).e)).setCell { block := ob, off := 7 } (.int .u64 (p 2).f)).setCell { block := ob, off := 8 } (.int .u64 (p 2).l)).setCell { block := ob, off := 9 } (.bool (p 3).e)).setCell { block := ob, off := 10 } (.int .u64 (p 3).f)).setCell { block := ob, off := 11 } (.int .u64 (p 3).l)) := by
  have h1 := h.lo
  have h2 := h.rl
  have h3 := h.pl
  have hf := far_sets W ob (.bool (p 0).e) (.int .u64 (p 0).f) (.int .u64 (p 0).l) (.bool (p 1).e) (.int .u64 (p 1).f) (.int .u64 (p 1).l) (.bool (p 2).e) (.int .u64 (p 2).f) (.int .u64 (p 2).l) (.bool (p 3).e) (.int .u64 (p 3).f) (.int .u64 (p 3).l)
  exact ⟨h.m.fr hf (by simp; omega) (by simp; omega) (by simp; omega), h.out.set p, h.res.fr hf (by simp; omega), h.fr.trans' hf (by simp; omega), h.lo, h.rl, h.pl⟩
theorem Work.adv {w : World} {r pb : Nat} {t : ByteArray} {wh : Nat → Value} {ob : Nat} {q : Piece} {s : St} {W : World} (h : Work w r pb t wh ob q s W) : Work w r pb t wh ob q (advF s) (W.setCell ⟨r, 1, none⟩ (.int .i64 ((s.pos : Int) + 1))) :=
  h.call h.m.adv ((Fr.refl [r, pb] W).setCell (p := ⟨r, 1, none⟩) (.inl (by simp)) _)
theorem Work.tie {w : World} {r pb : Nat} {t : ByteArray} {wh : Nat → Value} {ob : Nat} {q : Piece} {s : St} {W W' : World} {fo : Nat → Nat → Nat} (h : Work w r pb t wh ob q s W) (hP : PatAt W' pb wh s.tk fo) (hf : Fr [pb] W W') : Work w r pb t wh ob q { s with fo := fo } W' :=
  h.call ⟨h.m.rd.of_block (hf.block r h.m.rlt (by simpa using h.m.n1)), hP, h.m.tab.fr hf (by simpa using fun e => h.m.n3 e.symm), h.m.n1, h.m.n2, h.m.n3⟩ (hf.mono (by simp))

end Go.Proofs.YticaoekmlaipnaaDoor

