/-
  An atom: the other ways.
-/
import Derived.Test.YticaoekmlaipnaaDoorWp
set_option linter.unusedSimpArgs false
set_option linter.unusedVariables false
namespace Go.Proofs.YticaoekmlaipnaaDoor
open Go.RowKit

theorem plain_range (t : ByteArray) (s : St) : 0 ≤ (plainF t s).1 ∧ (plainF t s).1 < 256 := by
  have h := peek_lt t (skipF t s 92).2
  unfold plainF
  split
  · simp
  · simp only; omega

section
variable {w : World} {r pb : Nat} {t : ByteArray} {wh : Nat → Value} {s : St}

set_option maxRecDepth 100000 in
set_option maxHeartbeats 2000000 in
theorem atom_class (n : Nat) (h : M w r pb t wh s) (hi : Inv t s) (hs : t.size ≤ 50) (hc : peekF t s = 91) (hn : 6 * (t.size - s.pos) + 1 ≤ n + 1) :
    Calls Tryd.prog 96 #[.pointer (some ⟨r, 0, none⟩)] w (Post w r pb t wh (classF t n (advF s))) := by
  have hp : peekF t s ≠ -1 := by rw [hc]; decide
  have hrl := h.rlt
  have hpl := h.pat.lt
  have hps := hi.pos
  have hat := hi.at_
  have hlt := (peek_ne hp).2
  have hadv := hi.adv hp
  have e40 : (peekF t s == 40) = false := by simp [hc]
  have e91 : (peekF t s == 91) = true := by simp [hc]
  have hcl := fun (W : World) (hW : M W r pb t wh (advF s)) => class_any n hW hadv hs (by simp [advF]; omega) (by simp [advF]; omega)
  unfold Post
  obtain ⟨q, hq⟩ : ∃ q, (classF t n (advF s)).1 = q := ⟨_, rfl⟩
  obtain ⟨sq, hsq⟩ : ∃ q, (classF t n (advF s)).2 = q := ⟨_, rfl⟩
  simp only [hq, hsq] at hcl
  have Hq : Hid (_ = q) := hq
  have Hs : Hid (_ = sq) := hsq
  have Hcl := (show Hid _ from hcl)
  clear hq hsq hcl hc
  go_enter Tryd.func96, Tryd.ntmps96
  go_wp2_with fail
  refine (peek_any (h.fr (((Fr.refl [] w).alloc (Obj.cells #[.bool false, .int .u64 0, .int .u64 0, .bool false, .int .u64 0, .int .u64 0, .bool false, .int .u64 0, .int .u64 0, .bool false, .int .u64 0, .int .u64 0] 73))) (by simp) (by simp) (by simp)) hs).mono ?_
  rintro e w1 ⟨rfl, n1, rfl⟩
  have m1 : M ((w.alloc (Obj.cells #[.bool false, .int .u64 0, .int .u64 0, .bool false, .int .u64 0, .int .u64 0, .bool false, .int .u64 0, .int .u64 0, .bool false, .int .u64 0, .int .u64 0] 73)).drewN n1) r pb t wh s := (h.fr (((Fr.refl [] w).alloc (Obj.cells #[.bool false, .int .u64 0, .int .u64 0, .bool false, .int .u64 0, .int .u64 0, .bool false, .int .u64 0, .int .u64 0, .bool false, .int .u64 0, .int .u64 0] 73))) (by simp) (by simp) (by simp)).heap rfl
  have R1 := (Res.new w).drewN n1
  have F1 : Fr [r, pb] w ((w.alloc (Obj.cells #[.bool false, .int .u64 0, .int .u64 0, .bool false, .int .u64 0, .int .u64 0, .bool false, .int .u64 0, .int .u64 0, .bool false, .int .u64 0, .int .u64 0] 73)).drewN n1) := ((Fr.refl _ w).alloc _).drewN n1
  generalize (w.alloc (Obj.cells #[.bool false, .int .u64 0, .int .u64 0, .bool false, .int .u64 0, .int .u64 0, .bool false, .int .u64 0, .int .u64 0, .bool false, .int .u64 0, .int .u64 0] 73)).drewN n1 = W1 at *
  have c1 := m1.rd.c1
  have z1 := m1.rd.f1
  have p1 : (s.pos : Int) ≤ 50 := by omega
  go_wp2_with fail
  have m2 := m1.adv
  have f2 : Fr [r] W1 (W1.setCell ⟨r, 1, none⟩ (.int .i64 ((s.pos : Int) + 1))) := (Fr.refl [r] W1).setCell (p := ⟨r, 1, none⟩) (.inl (by simp)) _
  have R2 := R1.fr f2 (by simp; omega)
  have F2 := F1.trans (f2.mono (S' := [r, pb]) (by simp))
  clear c1 z1 m1 R1 F1 f2
  refine (Hcl.out _ m2).mono ?_
  clear m2
  rintro e w3 ⟨rfl, m3, f3⟩
  have R3 := R2.fr f3 (by simp; omega)
  have F3 := F2.trans f3
  clear R2 F2 f3
  have y0 : w3.cell? ⟨w.heap.size, 0, none⟩ = some (.bool false) := R3.rr 0
  have z0 := R3.zr 0
  have y1 : w3.cell? ⟨w.heap.size, 1, none⟩ = some (.int .u64 0) := R3.rr 1
  have z1 := R3.zr 1
  have y2 : w3.cell? ⟨w.heap.size, 2, none⟩ = some (.int .u64 0) := R3.rr 2
  have z2 := R3.zr 2
  have y3 : w3.cell? ⟨w.heap.size, 3, none⟩ = some (.bool false) := R3.rr 3
  have z3 := R3.zr 3
  have y4 : w3.cell? ⟨w.heap.size, 4, none⟩ = some (.int .u64 0) := R3.rr 4
  have z4 := R3.zr 4
  have y5 : w3.cell? ⟨w.heap.size, 5, none⟩ = some (.int .u64 0) := R3.rr 5
  have z5 := R3.zr 5
  have y6 : w3.cell? ⟨w.heap.size, 6, none⟩ = some (.bool false) := R3.rr 6
  have z6 := R3.zr 6
  have y7 : w3.cell? ⟨w.heap.size, 7, none⟩ = some (.int .u64 0) := R3.rr 7
  have z7 := R3.zr 7
  have y8 : w3.cell? ⟨w.heap.size, 8, none⟩ = some (.int .u64 0) := R3.rr 8
  have z8 := R3.zr 8
  have y9 : w3.cell? ⟨w.heap.size, 9, none⟩ = some (.bool false) := R3.rr 9
  have z9 := R3.zr 9
  have y10 : w3.cell? ⟨w.heap.size, 10, none⟩ = some (.int .u64 0) := R3.rr 10
  have z10 := R3.zr 10
  have y11 : w3.cell? ⟨w.heap.size, 11, none⟩ = some (.int .u64 0) := R3.rr 11
  have z11 := R3.zr 11
  unfold pv
  go_wp2
  have hfr := far_sets w3 w.heap.size (.bool (q 0).e) (.int .u64 (q 0).f) (.int .u64 (q 0).l) (.bool (q 1).e) (.int .u64 (q 1).f) (.int .u64 (q 1).l) (.bool (q 2).e) (.int .u64 (q 2).f) (.int .u64 (q 2).l) (.bool (q 3).e) (.int .u64 (q 3).f) (.int .u64 (q 3).l)
  refine bodyPost_ret (v := pv q) (by simp [results, Tryd.results96, go_sem, pv, y0, y1, y2, y3, y4, y5, y6, y7, y8, y9, y10, y11]) rfl ⟨by rw [Hq.out], ?_, ?_⟩
  · rw [Hs.out]; exact m3.fr hfr (by simp; omega) (by simp; omega) (by simp; omega)
  · exact F3.trans' hfr (by simp)

set_option maxRecDepth 100000 in
set_option maxHeartbeats 2000000 in
theorem atom_dot (h : M w r pb t wh s) (hi : Inv t s) (hs : t.size ≤ 50) (hc : peekF t s = 46) :
    Calls Tryd.prog 96 #[.pointer (some ⟨r, 0, none⟩)] w (Post w r pb t wh (takeF (advF s) 0 255)) := by
  have hp : peekF t s ≠ -1 := by rw [hc]; decide
  have hrl := h.rlt
  have hpl := h.pat.lt
  have hps := hi.pos
  have hat := hi.at_
  have hlt := (peek_ne hp).2
  have hadv := hi.adv hp
  have e40 : (peekF t s == 40) = false := by simp [hc]
  have e91 : (peekF t s == 91) = false := by simp [hc]
  have e46 : (peekF t s == 46) = true := by simp [hc]
  have hcl := fun (W : World) (hW : M W r pb t wh (advF s)) => take_any 0 255 (by decide) (by decide) hW (by simp [advF]; omega) (hadv.tk64 hs)
  simp only [Int.natCast_zero, show ((255 : Nat) : Int) = 255 from rfl] at hcl
  unfold Post
  obtain ⟨q, hq⟩ : ∃ q, (takeF (advF s) 0 255).1 = q := ⟨_, rfl⟩
  obtain ⟨sq, hsq⟩ : ∃ q, (takeF (advF s) 0 255).2 = q := ⟨_, rfl⟩
  simp only [hq, hsq] at hcl
  have Hq : Hid (_ = q) := hq
  have Hs : Hid (_ = sq) := hsq
  have Hcl := (show Hid _ from hcl)
  clear hq hsq hcl hc
  go_enter Tryd.func96, Tryd.ntmps96
  go_wp2_with fail
  refine (peek_any (h.fr (((Fr.refl [] w).alloc (Obj.cells #[.bool false, .int .u64 0, .int .u64 0, .bool false, .int .u64 0, .int .u64 0, .bool false, .int .u64 0, .int .u64 0, .bool false, .int .u64 0, .int .u64 0] 73))) (by simp) (by simp) (by simp)) hs).mono ?_
  rintro e w1 ⟨rfl, n1, rfl⟩
  have m1 : M ((w.alloc (Obj.cells #[.bool false, .int .u64 0, .int .u64 0, .bool false, .int .u64 0, .int .u64 0, .bool false, .int .u64 0, .int .u64 0, .bool false, .int .u64 0, .int .u64 0] 73)).drewN n1) r pb t wh s := (h.fr (((Fr.refl [] w).alloc (Obj.cells #[.bool false, .int .u64 0, .int .u64 0, .bool false, .int .u64 0, .int .u64 0, .bool false, .int .u64 0, .int .u64 0, .bool false, .int .u64 0, .int .u64 0] 73))) (by simp) (by simp) (by simp)).heap rfl
  have R1 := (Res.new w).drewN n1
  have F1 : Fr [r, pb] w ((w.alloc (Obj.cells #[.bool false, .int .u64 0, .int .u64 0, .bool false, .int .u64 0, .int .u64 0, .bool false, .int .u64 0, .int .u64 0, .bool false, .int .u64 0, .int .u64 0] 73)).drewN n1) := ((Fr.refl _ w).alloc _).drewN n1
  generalize (w.alloc (Obj.cells #[.bool false, .int .u64 0, .int .u64 0, .bool false, .int .u64 0, .int .u64 0, .bool false, .int .u64 0, .int .u64 0, .bool false, .int .u64 0, .int .u64 0] 73)).drewN n1 = W1 at *
  have c1 := m1.rd.c1
  have z1 := m1.rd.f1
  have p1 : (s.pos : Int) ≤ 50 := by omega
  go_wp2_with fail
  have m2 := m1.adv
  have f2 : Fr [r] W1 (W1.setCell ⟨r, 1, none⟩ (.int .i64 ((s.pos : Int) + 1))) := (Fr.refl [r] W1).setCell (p := ⟨r, 1, none⟩) (.inl (by simp)) _
  have R2 := R1.fr f2 (by simp; omega)
  have F2 := F1.trans (f2.mono (S' := [r, pb]) (by simp))
  clear c1 z1 m1 R1 F1 f2
  refine (Hcl.out _ m2).mono ?_
  clear m2
  rintro e w3 ⟨rfl, m3, f3⟩
  have R3 := R2.fr f3 (by simp; omega)
  have F3 := F2.trans f3
  clear R2 F2 f3
  have y0 : w3.cell? ⟨w.heap.size, 0, none⟩ = some (.bool false) := R3.rr 0
  have z0 := R3.zr 0
  have y1 : w3.cell? ⟨w.heap.size, 1, none⟩ = some (.int .u64 0) := R3.rr 1
  have z1 := R3.zr 1
  have y2 : w3.cell? ⟨w.heap.size, 2, none⟩ = some (.int .u64 0) := R3.rr 2
  have z2 := R3.zr 2
  have y3 : w3.cell? ⟨w.heap.size, 3, none⟩ = some (.bool false) := R3.rr 3
  have z3 := R3.zr 3
  have y4 : w3.cell? ⟨w.heap.size, 4, none⟩ = some (.int .u64 0) := R3.rr 4
  have z4 := R3.zr 4
  have y5 : w3.cell? ⟨w.heap.size, 5, none⟩ = some (.int .u64 0) := R3.rr 5
  have z5 := R3.zr 5
  have y6 : w3.cell? ⟨w.heap.size, 6, none⟩ = some (.bool false) := R3.rr 6
  have z6 := R3.zr 6
  have y7 : w3.cell? ⟨w.heap.size, 7, none⟩ = some (.int .u64 0) := R3.rr 7
  have z7 := R3.zr 7
  have y8 : w3.cell? ⟨w.heap.size, 8, none⟩ = some (.int .u64 0) := R3.rr 8
  have z8 := R3.zr 8
  have y9 : w3.cell? ⟨w.heap.size, 9, none⟩ = some (.bool false) := R3.rr 9
  have z9 := R3.zr 9
  have y10 : w3.cell? ⟨w.heap.size, 10, none⟩ = some (.int .u64 0) := R3.rr 10
  have z10 := R3.zr 10
  have y11 : w3.cell? ⟨w.heap.size, 11, none⟩ = some (.int .u64 0) := R3.rr 11
  have z11 := R3.zr 11
  unfold pv
  go_wp2
  have hfr := far_sets w3 w.heap.size (.bool (q 0).e) (.int .u64 (q 0).f) (.int .u64 (q 0).l) (.bool (q 1).e) (.int .u64 (q 1).f) (.int .u64 (q 1).l) (.bool (q 2).e) (.int .u64 (q 2).f) (.int .u64 (q 2).l) (.bool (q 3).e) (.int .u64 (q 3).f) (.int .u64 (q 3).l)
  refine bodyPost_ret (v := pv q) (by simp [results, Tryd.results96, go_sem, pv, y0, y1, y2, y3, y4, y5, y6, y7, y8, y9, y10, y11]) rfl ⟨by rw [Hq.out], ?_, ?_⟩
  · rw [Hs.out]; exact m3.fr hfr (by simp; omega) (by simp; omega) (by simp; omega)
  · exact F3.trans' hfr (by simp)

set_option maxRecDepth 100000 in
set_option maxHeartbeats 2000000 in
theorem atom_begin (h : M w r pb t wh s) (hi : Inv t s) (hs : t.size ≤ 50) (hc : peekF t s = 94) :
    Calls Tryd.prog 96 #[.pointer (some ⟨r, 0, none⟩)] w (Post w r pb t wh (anchorF 1, advF s)) := by
  have hp : peekF t s ≠ -1 := by rw [hc]; decide
  have hrl := h.rlt
  have hpl := h.pat.lt
  have hps := hi.pos
  have hat := hi.at_
  have hlt := (peek_ne hp).2
  have hadv := hi.adv hp
  have e40 : (peekF t s == 40) = false := by simp [hc]
  have e91 : (peekF t s == 91) = false := by simp [hc]
  have e46 : (peekF t s == 46) = false := by simp [hc]
  have e94 : (peekF t s == 94) = true := by simp [hc]
  unfold Post
  obtain ⟨q, hq⟩ : ∃ q, anchorF 1 = q := ⟨_, rfl⟩
  have hcl := fun (W : World) => anchor_begin W
  simp only [hq] at hcl
  have Hq : Hid (_ = q) := hq
  have Hcl := (show Hid _ from hcl)
  clear hq hcl hc
  go_enter Tryd.func96, Tryd.ntmps96
  go_wp2_with fail
  refine (peek_any (h.fr (((Fr.refl [] w).alloc (Obj.cells #[.bool false, .int .u64 0, .int .u64 0, .bool false, .int .u64 0, .int .u64 0, .bool false, .int .u64 0, .int .u64 0, .bool false, .int .u64 0, .int .u64 0] 73))) (by simp) (by simp) (by simp)) hs).mono ?_
  rintro e w1 ⟨rfl, n1, rfl⟩
  have m1 : M ((w.alloc (Obj.cells #[.bool false, .int .u64 0, .int .u64 0, .bool false, .int .u64 0, .int .u64 0, .bool false, .int .u64 0, .int .u64 0, .bool false, .int .u64 0, .int .u64 0] 73)).drewN n1) r pb t wh s := (h.fr (((Fr.refl [] w).alloc (Obj.cells #[.bool false, .int .u64 0, .int .u64 0, .bool false, .int .u64 0, .int .u64 0, .bool false, .int .u64 0, .int .u64 0, .bool false, .int .u64 0, .int .u64 0] 73))) (by simp) (by simp) (by simp)).heap rfl
  have R1 := (Res.new w).drewN n1
  have F1 : Fr [r, pb] w ((w.alloc (Obj.cells #[.bool false, .int .u64 0, .int .u64 0, .bool false, .int .u64 0, .int .u64 0, .bool false, .int .u64 0, .int .u64 0, .bool false, .int .u64 0, .int .u64 0] 73)).drewN n1) := ((Fr.refl _ w).alloc _).drewN n1
  generalize (w.alloc (Obj.cells #[.bool false, .int .u64 0, .int .u64 0, .bool false, .int .u64 0, .int .u64 0, .bool false, .int .u64 0, .int .u64 0, .bool false, .int .u64 0, .int .u64 0] 73)).drewN n1 = W1 at *
  have c1 := m1.rd.c1
  have z1 := m1.rd.f1
  have p1 : (s.pos : Int) ≤ 50 := by omega
  go_wp2_with fail
  have m2 := m1.adv
  have f2 : Fr [r] W1 (W1.setCell ⟨r, 1, none⟩ (.int .i64 ((s.pos : Int) + 1))) := (Fr.refl [r] W1).setCell (p := ⟨r, 1, none⟩) (.inl (by simp)) _
  have R2 := R1.fr f2 (by simp; omega)
  have F2 := F1.trans (f2.mono (S' := [r, pb]) (by simp))
  clear c1 z1 m1 R1 F1 f2
  refine (Hcl.out _).mono ?_
  rintro e w3 ⟨rfl, f3⟩
  have m3 := m2.fr f3 (by simp) (by simp) (by simp)
  have R3 := R2.fr f3 (by simp)
  have F3 := F2.trans (f3.mono (S' := [r, pb]) (by simp))
  clear R2 F2 f3 m2
  have y0 : w3.cell? ⟨w.heap.size, 0, none⟩ = some (.bool false) := R3.rr 0
  have z0 := R3.zr 0
  have y1 : w3.cell? ⟨w.heap.size, 1, none⟩ = some (.int .u64 0) := R3.rr 1
  have z1 := R3.zr 1
  have y2 : w3.cell? ⟨w.heap.size, 2, none⟩ = some (.int .u64 0) := R3.rr 2
  have z2 := R3.zr 2
  have y3 : w3.cell? ⟨w.heap.size, 3, none⟩ = some (.bool false) := R3.rr 3
  have z3 := R3.zr 3
  have y4 : w3.cell? ⟨w.heap.size, 4, none⟩ = some (.int .u64 0) := R3.rr 4
  have z4 := R3.zr 4
  have y5 : w3.cell? ⟨w.heap.size, 5, none⟩ = some (.int .u64 0) := R3.rr 5
  have z5 := R3.zr 5
  have y6 : w3.cell? ⟨w.heap.size, 6, none⟩ = some (.bool false) := R3.rr 6
  have z6 := R3.zr 6
  have y7 : w3.cell? ⟨w.heap.size, 7, none⟩ = some (.int .u64 0) := R3.rr 7
  have z7 := R3.zr 7
  have y8 : w3.cell? ⟨w.heap.size, 8, none⟩ = some (.int .u64 0) := R3.rr 8
  have z8 := R3.zr 8
  have y9 : w3.cell? ⟨w.heap.size, 9, none⟩ = some (.bool false) := R3.rr 9
  have z9 := R3.zr 9
  have y10 : w3.cell? ⟨w.heap.size, 10, none⟩ = some (.int .u64 0) := R3.rr 10
  have z10 := R3.zr 10
  have y11 : w3.cell? ⟨w.heap.size, 11, none⟩ = some (.int .u64 0) := R3.rr 11
  have z11 := R3.zr 11
  unfold pv
  go_wp2
  have hfr := far_sets w3 w.heap.size (.bool (q 0).e) (.int .u64 (q 0).f) (.int .u64 (q 0).l) (.bool (q 1).e) (.int .u64 (q 1).f) (.int .u64 (q 1).l) (.bool (q 2).e) (.int .u64 (q 2).f) (.int .u64 (q 2).l) (.bool (q 3).e) (.int .u64 (q 3).f) (.int .u64 (q 3).l)
  refine bodyPost_ret (v := pv q) (by simp [results, Tryd.results96, go_sem, pv, y0, y1, y2, y3, y4, y5, y6, y7, y8, y9, y10, y11]) rfl ⟨by rw [Hq.out], ?_, ?_⟩
  · exact m3.fr hfr (by simp; omega) (by simp; omega) (by simp; omega)
  · exact F3.trans' hfr (by simp)

set_option maxRecDepth 100000 in
set_option maxHeartbeats 2000000 in
theorem atom_end (h : M w r pb t wh s) (hi : Inv t s) (hs : t.size ≤ 50) (hc : peekF t s = 36) :
    Calls Tryd.prog 96 #[.pointer (some ⟨r, 0, none⟩)] w (Post w r pb t wh (anchorF 2, advF s)) := by
  have hp : peekF t s ≠ -1 := by rw [hc]; decide
  have hrl := h.rlt
  have hpl := h.pat.lt
  have hps := hi.pos
  have hat := hi.at_
  have hlt := (peek_ne hp).2
  have hadv := hi.adv hp
  have e40 : (peekF t s == 40) = false := by simp [hc]
  have e91 : (peekF t s == 91) = false := by simp [hc]
  have e46 : (peekF t s == 46) = false := by simp [hc]
  have e94 : (peekF t s == 94) = false := by simp [hc]
  have e36 : (peekF t s == 36) = true := by simp [hc]
  unfold Post
  obtain ⟨q, hq⟩ : ∃ q, anchorF 2 = q := ⟨_, rfl⟩
  have hcl := fun (W : World) => anchor_end W
  simp only [hq] at hcl
  have Hq : Hid (_ = q) := hq
  have Hcl := (show Hid _ from hcl)
  clear hq hcl hc
  go_enter Tryd.func96, Tryd.ntmps96
  go_wp2_with fail
  refine (peek_any (h.fr (((Fr.refl [] w).alloc (Obj.cells #[.bool false, .int .u64 0, .int .u64 0, .bool false, .int .u64 0, .int .u64 0, .bool false, .int .u64 0, .int .u64 0, .bool false, .int .u64 0, .int .u64 0] 73))) (by simp) (by simp) (by simp)) hs).mono ?_
  rintro e w1 ⟨rfl, n1, rfl⟩
  have m1 : M ((w.alloc (Obj.cells #[.bool false, .int .u64 0, .int .u64 0, .bool false, .int .u64 0, .int .u64 0, .bool false, .int .u64 0, .int .u64 0, .bool false, .int .u64 0, .int .u64 0] 73)).drewN n1) r pb t wh s := (h.fr (((Fr.refl [] w).alloc (Obj.cells #[.bool false, .int .u64 0, .int .u64 0, .bool false, .int .u64 0, .int .u64 0, .bool false, .int .u64 0, .int .u64 0, .bool false, .int .u64 0, .int .u64 0] 73))) (by simp) (by simp) (by simp)).heap rfl
  have R1 := (Res.new w).drewN n1
  have F1 : Fr [r, pb] w ((w.alloc (Obj.cells #[.bool false, .int .u64 0, .int .u64 0, .bool false, .int .u64 0, .int .u64 0, .bool false, .int .u64 0, .int .u64 0, .bool false, .int .u64 0, .int .u64 0] 73)).drewN n1) := ((Fr.refl _ w).alloc _).drewN n1
  generalize (w.alloc (Obj.cells #[.bool false, .int .u64 0, .int .u64 0, .bool false, .int .u64 0, .int .u64 0, .bool false, .int .u64 0, .int .u64 0, .bool false, .int .u64 0, .int .u64 0] 73)).drewN n1 = W1 at *
  have c1 := m1.rd.c1
  have z1 := m1.rd.f1
  have p1 : (s.pos : Int) ≤ 50 := by omega
  go_wp2_with fail
  have m2 := m1.adv
  have f2 : Fr [r] W1 (W1.setCell ⟨r, 1, none⟩ (.int .i64 ((s.pos : Int) + 1))) := (Fr.refl [r] W1).setCell (p := ⟨r, 1, none⟩) (.inl (by simp)) _
  have R2 := R1.fr f2 (by simp; omega)
  have F2 := F1.trans (f2.mono (S' := [r, pb]) (by simp))
  clear c1 z1 m1 R1 F1 f2
  refine (Hcl.out _).mono ?_
  rintro e w3 ⟨rfl, f3⟩
  have m3 := m2.fr f3 (by simp) (by simp) (by simp)
  have R3 := R2.fr f3 (by simp)
  have F3 := F2.trans (f3.mono (S' := [r, pb]) (by simp))
  clear R2 F2 f3 m2
  have y0 : w3.cell? ⟨w.heap.size, 0, none⟩ = some (.bool false) := R3.rr 0
  have z0 := R3.zr 0
  have y1 : w3.cell? ⟨w.heap.size, 1, none⟩ = some (.int .u64 0) := R3.rr 1
  have z1 := R3.zr 1
  have y2 : w3.cell? ⟨w.heap.size, 2, none⟩ = some (.int .u64 0) := R3.rr 2
  have z2 := R3.zr 2
  have y3 : w3.cell? ⟨w.heap.size, 3, none⟩ = some (.bool false) := R3.rr 3
  have z3 := R3.zr 3
  have y4 : w3.cell? ⟨w.heap.size, 4, none⟩ = some (.int .u64 0) := R3.rr 4
  have z4 := R3.zr 4
  have y5 : w3.cell? ⟨w.heap.size, 5, none⟩ = some (.int .u64 0) := R3.rr 5
  have z5 := R3.zr 5
  have y6 : w3.cell? ⟨w.heap.size, 6, none⟩ = some (.bool false) := R3.rr 6
  have z6 := R3.zr 6
  have y7 : w3.cell? ⟨w.heap.size, 7, none⟩ = some (.int .u64 0) := R3.rr 7
  have z7 := R3.zr 7
  have y8 : w3.cell? ⟨w.heap.size, 8, none⟩ = some (.int .u64 0) := R3.rr 8
  have z8 := R3.zr 8
  have y9 : w3.cell? ⟨w.heap.size, 9, none⟩ = some (.bool false) := R3.rr 9
  have z9 := R3.zr 9
  have y10 : w3.cell? ⟨w.heap.size, 10, none⟩ = some (.int .u64 0) := R3.rr 10
  have z10 := R3.zr 10
  have y11 : w3.cell? ⟨w.heap.size, 11, none⟩ = some (.int .u64 0) := R3.rr 11
  have z11 := R3.zr 11
  unfold pv
  go_wp2
  have hfr := far_sets w3 w.heap.size (.bool (q 0).e) (.int .u64 (q 0).f) (.int .u64 (q 0).l) (.bool (q 1).e) (.int .u64 (q 1).f) (.int .u64 (q 1).l) (.bool (q 2).e) (.int .u64 (q 2).f) (.int .u64 (q 2).l) (.bool (q 3).e) (.int .u64 (q 3).f) (.int .u64 (q 3).l)
  refine bodyPost_ret (v := pv q) (by simp [results, Tryd.results96, go_sem, pv, y0, y1, y2, y3, y4, y5, y6, y7, y8, y9, y10, y11]) rfl ⟨by rw [Hq.out], ?_, ?_⟩
  · exact m3.fr hfr (by simp; omega) (by simp; omega) (by simp; omega)
  · exact F3.trans' hfr (by simp)

set_option maxRecDepth 100000 in
set_option maxHeartbeats 2000000 in
theorem atom_plain (h : M w r pb t wh s) (hi : Inv t s) (hs : t.size ≤ 50) (hp : peekF t s ≠ -1) (h40 : peekF t s ≠ 40) (h91 : peekF t s ≠ 91) (h46 : peekF t s ≠ 46) (h94 : peekF t s ≠ 94) (h36 : peekF t s ≠ 36) :
    Calls Tryd.prog 96 #[.pointer (some ⟨r, 0, none⟩)] w (Post w r pb t wh (takeF (plainF t s).2 (plainF t s).1 (plainF t s).1)) := by
  have hrl := h.rlt
  have hpl := h.pat.lt
  have hps := hi.pos
  have hat := hi.at_
  have hlt := (peek_ne hp).2
  have hadv := hi.adv hp
  have e40 : (peekF t s == 40) = false := by simpa using h40
  have e91 : (peekF t s == 91) = false := by simpa using h91
  have e46 : (peekF t s == 46) = false := by simpa using h46
  have e94 : (peekF t s == 94) = false := by simpa using h94
  have e36 : (peekF t s == 36) = false := by simpa using h36
  obtain ⟨pn, pl⟩ := plain_near s hp
  have pin := pn.inv hi
  have pr := plain_range t s
  have hpa := fun (W : World) (hW : M W r pb t wh s) => plain_any hW hs (by omega)
  have pat := pn.atoms
  have ptk := pin.tk64 hs
  unfold Post
  obtain ⟨b', hb⟩ : ∃ q, (plainF t s).1 = q := ⟨_, rfl⟩
  obtain ⟨s1, hs1⟩ : ∃ q, (plainF t s).2 = q := ⟨_, rfl⟩
  simp only [hb, hs1] at hpa pat ptk pr ⊢
  clear hb hs1 pn pl pin h40 h91 h46 h94 h36 hp
  obtain ⟨b, rfl⟩ := Int.eq_ofNat_of_zero_le pr.1
  have hcl := fun (W : World) (hW : M W r pb t wh s1) => take_any b b (Nat.le_refl _) (by omega) hW (by omega) ptk
  obtain ⟨q, hq⟩ : ∃ q, (takeF s1 b b).1 = q := ⟨_, rfl⟩
  obtain ⟨sq, hsq⟩ : ∃ q, (takeF s1 b b).2 = q := ⟨_, rfl⟩
  simp only [hq, hsq] at hcl
  have Hq : Hid (_ = q) := hq
  have Hs : Hid (_ = sq) := hsq
  have Hcl := (show Hid _ from hcl)
  have Hpa := (show Hid _ from hpa)
  clear hq hsq hcl hpa pat ptk
  go_enter Tryd.func96, Tryd.ntmps96
  go_wp2_with fail
  refine (peek_any (h.fr (((Fr.refl [] w).alloc (Obj.cells #[.bool false, .int .u64 0, .int .u64 0, .bool false, .int .u64 0, .int .u64 0, .bool false, .int .u64 0, .int .u64 0, .bool false, .int .u64 0, .int .u64 0] 73))) (by simp) (by simp) (by simp)) hs).mono ?_
  rintro e w1 ⟨rfl, n1, rfl⟩
  have m1 : M ((w.alloc (Obj.cells #[.bool false, .int .u64 0, .int .u64 0, .bool false, .int .u64 0, .int .u64 0, .bool false, .int .u64 0, .int .u64 0, .bool false, .int .u64 0, .int .u64 0] 73)).drewN n1) r pb t wh s := (h.fr (((Fr.refl [] w).alloc (Obj.cells #[.bool false, .int .u64 0, .int .u64 0, .bool false, .int .u64 0, .int .u64 0, .bool false, .int .u64 0, .int .u64 0, .bool false, .int .u64 0, .int .u64 0] 73))) (by simp) (by simp) (by simp)).heap rfl
  have R1 := (Res.new w).drewN n1
  have F1 : Fr [r, pb] w ((w.alloc (Obj.cells #[.bool false, .int .u64 0, .int .u64 0, .bool false, .int .u64 0, .int .u64 0, .bool false, .int .u64 0, .int .u64 0, .bool false, .int .u64 0, .int .u64 0] 73)).drewN n1) := ((Fr.refl _ w).alloc _).drewN n1
  generalize (w.alloc (Obj.cells #[.bool false, .int .u64 0, .int .u64 0, .bool false, .int .u64 0, .int .u64 0, .bool false, .int .u64 0, .int .u64 0, .bool false, .int .u64 0, .int .u64 0] 73)).drewN n1 = W1 at *
  have c1 := m1.rd.c1
  have z1 := m1.rd.f1
  have p1 : (s.pos : Int) ≤ 50 := by omega
  clear c1 z1
  go_wp2_with fail
  refine (Hpa.out _ m1).mono ?_
  clear m1
  rintro e w2 ⟨rfl, m2, f2⟩
  have R2 := R1.fr f2 (by simp; omega)
  have F2 := F1.trans (f2.mono (S' := [r, pb]) (by simp))
  clear R1 F1 f2
  go_wp2_with fail
  refine (Hcl.out _ m2).mono ?_
  clear m2
  rintro e w3 ⟨rfl, m3, f3⟩
  have R3 := R2.fr f3 (by simp; omega)
  have F3 := F2.trans f3
  clear R2 F2 f3
  have y0 : w3.cell? ⟨w.heap.size, 0, none⟩ = some (.bool false) := R3.rr 0
  have z0 := R3.zr 0
  have y1 : w3.cell? ⟨w.heap.size, 1, none⟩ = some (.int .u64 0) := R3.rr 1
  have z1 := R3.zr 1
  have y2 : w3.cell? ⟨w.heap.size, 2, none⟩ = some (.int .u64 0) := R3.rr 2
  have z2 := R3.zr 2
  have y3 : w3.cell? ⟨w.heap.size, 3, none⟩ = some (.bool false) := R3.rr 3
  have z3 := R3.zr 3
  have y4 : w3.cell? ⟨w.heap.size, 4, none⟩ = some (.int .u64 0) := R3.rr 4
  have z4 := R3.zr 4
  have y5 : w3.cell? ⟨w.heap.size, 5, none⟩ = some (.int .u64 0) := R3.rr 5
  have z5 := R3.zr 5
  have y6 : w3.cell? ⟨w.heap.size, 6, none⟩ = some (.bool false) := R3.rr 6
  have z6 := R3.zr 6
  have y7 : w3.cell? ⟨w.heap.size, 7, none⟩ = some (.int .u64 0) := R3.rr 7
  have z7 := R3.zr 7
  have y8 : w3.cell? ⟨w.heap.size, 8, none⟩ = some (.int .u64 0) := R3.rr 8
  have z8 := R3.zr 8
  have y9 : w3.cell? ⟨w.heap.size, 9, none⟩ = some (.bool false) := R3.rr 9
  have z9 := R3.zr 9
  have y10 : w3.cell? ⟨w.heap.size, 10, none⟩ = some (.int .u64 0) := R3.rr 10
  have z10 := R3.zr 10
  have y11 : w3.cell? ⟨w.heap.size, 11, none⟩ = some (.int .u64 0) := R3.rr 11
  have z11 := R3.zr 11
  unfold pv
  go_wp2
  have hfr := far_sets w3 w.heap.size (.bool (q 0).e) (.int .u64 (q 0).f) (.int .u64 (q 0).l) (.bool (q 1).e) (.int .u64 (q 1).f) (.int .u64 (q 1).l) (.bool (q 2).e) (.int .u64 (q 2).f) (.int .u64 (q 2).l) (.bool (q 3).e) (.int .u64 (q 3).f) (.int .u64 (q 3).l)
  refine bodyPost_ret (v := pv q) (by simp [results, Tryd.results96, go_sem, pv, y0, y1, y2, y3, y4, y5, y6, y7, y8, y9, y10, y11]) rfl ⟨by rw [Hq.out], ?_, ?_⟩
  · rw [Hs.out]; exact m3.fr hfr (by simp; omega) (by simp; omega) (by simp; omega)
  · exact F3.trans' hfr (by simp)

end

theorem atom_said (n : Nat) (hA : SaidAlt n) : SaidAtom (n + 1) := by
  intro w r pb t wh s h hi hs hp hn
  rw [atomF_s]
  split
  · rename_i hc; exact atom_group n hA h hi hs hc hn
  · split
    · rename_i _ hc; exact atom_class n h hi hs hc hn
    · split
      · rename_i _ _ hc; exact atom_dot h hi hs hc
      · split
        · rename_i _ _ _ hc; exact atom_begin h hi hs hc
        · split
          · rename_i _ _ _ _ hc; exact atom_end h hi hs hc
          · rename_i h1 h2 h3 h4 h5; exact atom_plain h hi hs hp h1 h2 h3 h4 h5

end Go.Proofs.YticaoekmlaipnaaDoor
