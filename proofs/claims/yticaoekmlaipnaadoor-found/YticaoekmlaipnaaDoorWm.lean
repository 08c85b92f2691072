/-
  An atom that takes the bytes from one to another; an item of a class.
-/
import Derived.Test.YticaoekmlaipnaaDoorWl
set_option linter.unusedSimpArgs false
set_option linter.unusedVariables false
namespace Go.Proofs.YticaoekmlaipnaaDoor
open Go.RowKit

theorem ByteL.set {w : World} {ab : Nat} {P : Nat → Bool} (h : ByteL w ab P) (k : Nat) (hk : k < 256) : ByteL (w.setCell ⟨ab, k, none⟩ (.bool true)) ab (fun b => P b || decide (b = k)) := by
  refine ⟨fun b hb => ?_, fun b hb => (World.frozen?_setCell _ _ _ _).trans (h.z b hb)⟩
  by_cases e : b = k
  · subst e; simp; exact World.cell?_setCell_same' _ _ _ (by rw [h.c b hk]; rfl)
  · simp [e]; exact (setCell_off (fun e' => e e'.symm)).trans (h.c b hb)

theorem ByteL.congr {w : World} {ab : Nat} {P P' : Nat → Bool} (h : ByteL w ab P) (hp : ∀ b, b < 256 → P b = P' b) : ByteL w ab P' := ⟨fun b hb => by rw [← hp b hb]; exact h.c b hb, h.z⟩

theorem zero256 : Tryd.zeroCells143 = Array.replicate 256 (Value.bool false) := by kernel_rfl

theorem ByteL.new (W : World) : ByteL (W.alloc (.cells Tryd.zeroCells143 143)) W.heap.size (fun _ => false) := by
  have h := World.alloc_heap_new W (.cells Tryd.zeroCells143 143)
  rw [zero256] at h ⊢
  refine ⟨fun b hb => ?_, fun b hb => ?_⟩
  · unfold World.cell?; rw [h]; simp [hb]
  · unfold World.frozen?; rw [h]; simp

structure TkI (w : World) (r pb : Nat) (t : ByteArray) (wh : Nat → Value) (s : St) (P : Nat → Bool) (W : World) : Prop where
  m : M W r pb t wh s
  by_ : ByteL W (w.heap.size + 1) P
  rr : RowIs W w.heap.size [.bool false, .int .u64 0, .int .u64 0, .bool false, .int .u64 0, .int .u64 0, .bool false, .int .u64 0, .int .u64 0, .bool false, .int .u64 0, .int .u64 0]
  zr : ∀ i, W.frozen? ⟨w.heap.size, i, none⟩ = false
  fr : Fr [] w W

set_option maxRecDepth 100000 in
set_option maxHeartbeats 2000000 in
theorem take_any {w : World} {r pb : Nat} {t : ByteArray} {wh : Nat → Value} {s : St} (lo hi : Nat) (hlo : lo ≤ hi) (hhi : hi < 256) (h : M w r pb t wh s) (ha : s.atoms < 50) (htk : ∀ b, s.tk b < 18446744073709551616) :
    Calls Tryd.prog 102 #[.pointer (some ⟨r, 0, none⟩), .int .i64 lo, .int .i64 hi] w fun e w' => e = .returned (pv (takeF s lo hi).1) ∧ M w' r pb t wh (takeF s lo hi).2 ∧ Fr [r, pb] w w' := by
  have hrl := h.rlt
  have hpl := h.pat.lt
  have J0 : TkI w r pb t wh s (fun _ => false) ((w.alloc (Obj.cells #[.bool false, .int .u64 0, .int .u64 0, .bool false, .int .u64 0, .int .u64 0, .bool false, .int .u64 0, .int .u64 0, .bool false, .int .u64 0, .int .u64 0] 73)).alloc (Obj.cells Tryd.zeroCells143 143)) := by
    have f0 : Fr [] w ((w.alloc (Obj.cells #[.bool false, .int .u64 0, .int .u64 0, .bool false, .int .u64 0, .int .u64 0, .bool false, .int .u64 0, .int .u64 0, .bool false, .int .u64 0, .int .u64 0] 73)).alloc (Obj.cells Tryd.zeroCells143 143)) := ((Fr.refl [] _).alloc _).alloc _
    have b0 := ByteL.new (w.alloc (Obj.cells #[.bool false, .int .u64 0, .int .u64 0, .bool false, .int .u64 0, .int .u64 0, .bool false, .int .u64 0, .int .u64 0, .bool false, .int .u64 0, .int .u64 0] 73))
    rw [World.size_alloc] at b0
    refine ⟨h.fr f0 (by simp) (by simp) (by simp), b0, (rowIs_new w [.bool false, .int .u64 0, .int .u64 0, .bool false, .int .u64 0, .int .u64 0, .bool false, .int .u64 0, .int .u64 0, .bool false, .int .u64 0, .int .u64 0] 73).fr ((Fr.refl [] _).alloc _) (by simp) (by simp), fun i => ?_, f0⟩
    exact (World.frozen?_alloc_past _ _ _ (by simp)).trans (frozen_all_new w [.bool false, .int .u64 0, .int .u64 0, .bool false, .int .u64 0, .int .u64 0, .bool false, .int .u64 0, .int .u64 0, .bool false, .int .u64 0, .int .u64 0] 73 i)
  go_enter Tryd.func102, Tryd.ntmps102
  go_wp2
  go_loopw [8] (fun i wr => ∃ k : Nat, lo ≤ k ∧ k ≤ hi + 1 ∧ i = .int .i64 k ∧ TkI w r pb t wh s (fun b => decide (lo ≤ b) && decide (b < k)) wr) (fun i _ => 256 - (intOf i).toNat)
  case atStart => exact ⟨lo, Nat.le_refl _, by omega, rfl, ⟨J0.m, J0.by_.congr (fun b _ => by simp), J0.rr, J0.zr, J0.fr⟩⟩
  case round =>
    obtain ⟨k, hk1, hk2, rfl, J⟩ := hrel
    by_cases hlt : k ≤ hi
    · have g1 : (k : Int) ≤ hi := by omega
      have g2 : (k : Int) < 256 := by omega
      have c1 := J.by_.c k (by omega)
      have z1 := J.by_.z k (by omega)
      go_wp2
      have hf : Fr [w.heap.size + 1] wr (wr.setCell ⟨w.heap.size + 1, k, none⟩ (.bool true)) := (Fr.refl _ wr).setCell (p := ⟨w.heap.size + 1, k, none⟩) (.inl (by simp)) _
      refine ⟨⟨k + 1, by omega, by omega, by go_num, ⟨J.m.fr hf (by simp; omega) (by simp; omega) (by simp), (J.by_.set k (by omega)).congr (fun b _ => ?_), fun i => (setCell_far (by omega)).trans (J.rr i), fun i => (World.frozen?_setCell _ _ _ _).trans (J.zr i), J.fr.trans' hf (by simp)⟩⟩, by simp [intOf]; omega⟩
      by_cases e : b = k
      · subst e; simp; omega
      · have e2 : b < k + 1 ↔ b < k := by omega
        simp [e, e2]
    · have g1 : ¬ ((k : Int) ≤ hi) := by omega
      obtain rfl : k = hi + 1 := by omega
      have hto := takeOf_any (w.heap.size + 1) (fun b => decide (lo ≤ b) && decide (b < hi + 1)) true J.m J.by_ (by omega) (by omega) ha htk
      have hsame : takeOfF s (fun b => (decide (lo ≤ b) && decide (b < hi + 1)) == true) = takeF s lo hi := by
        unfold takeF
        congr 1
        funext b
        simp only [markF, Bool.false_or, beq_true]
        congr 1
        · rw [Bool.eq_iff_iff]; simp
        · rw [Bool.eq_iff_iff]; simp; omega
      rw [hsame] at hto
      clear hsame
      obtain ⟨q, hq⟩ : ∃ q, (takeF s lo hi).1 = q := ⟨_, rfl⟩
      obtain ⟨s2, hs2⟩ : ∃ s2, (takeF s lo hi).2 = s2 := ⟨_, rfl⟩
      rw [hq, hs2] at hto
      have Hq : Hid (_ = q) := hq
      have Hs : Hid (_ = s2) := hs2
      clear hq hs2
      go_wp2_with fail
      refine hto.mono ?_
      rintro e w1 ⟨rfl, m1, f1⟩
      have q1 : w.heap.size < wr.heap.size := lt_of_cell (a := ⟨w.heap.size, 0, none⟩) (J.rr 0)
      have rr1 := J.rr.fr f1 (by simp; omega) q1
      have zr1 := fun i => (f1.frozen (p := ⟨w.heap.size, i, none⟩) q1 (by simp; omega)).trans (J.zr i)
      have y0 : w1.cell? ⟨w.heap.size, 0, none⟩ = some (.bool false) := rr1 0
      have z0 := zr1 0
      have y1 : w1.cell? ⟨w.heap.size, 1, none⟩ = some (.int .u64 0) := rr1 1
      have z1 := zr1 1
      have y2 : w1.cell? ⟨w.heap.size, 2, none⟩ = some (.int .u64 0) := rr1 2
      have z2 := zr1 2
      have y3 : w1.cell? ⟨w.heap.size, 3, none⟩ = some (.bool false) := rr1 3
      have z3 := zr1 3
      have y4 : w1.cell? ⟨w.heap.size, 4, none⟩ = some (.int .u64 0) := rr1 4
      have z4 := zr1 4
      have y5 : w1.cell? ⟨w.heap.size, 5, none⟩ = some (.int .u64 0) := rr1 5
      have z5 := zr1 5
      have y6 : w1.cell? ⟨w.heap.size, 6, none⟩ = some (.bool false) := rr1 6
      have z6 := zr1 6
      have y7 : w1.cell? ⟨w.heap.size, 7, none⟩ = some (.int .u64 0) := rr1 7
      have z7 := zr1 7
      have y8 : w1.cell? ⟨w.heap.size, 8, none⟩ = some (.int .u64 0) := rr1 8
      have z8 := zr1 8
      have y9 : w1.cell? ⟨w.heap.size, 9, none⟩ = some (.bool false) := rr1 9
      have z9 := zr1 9
      have y10 : w1.cell? ⟨w.heap.size, 10, none⟩ = some (.int .u64 0) := rr1 10
      have z10 := zr1 10
      have y11 : w1.cell? ⟨w.heap.size, 11, none⟩ = some (.int .u64 0) := rr1 11
      have z11 := zr1 11
      clear rr1 zr1
      unfold pv
      go_wp2
      have hfr := far_sets w1 w.heap.size (.bool (q 0).e) (.int .u64 (q 0).f) (.int .u64 (q 0).l) (.bool (q 1).e) (.int .u64 (q 1).f) (.int .u64 (q 1).l) (.bool (q 2).e) (.int .u64 (q 2).f) (.int .u64 (q 2).l) (.bool (q 3).e) (.int .u64 (q 3).f) (.int .u64 (q 3).l)
      refine bodyPost_ret (v := pv q) (by simp [results, Tryd.results102, go_sem, pv, y0, y1, y2, y3, y4, y5, y6, y7, y8, y9, y10, y11]) rfl ⟨by rw [Hq.out], ?_, ?_⟩
      · rw [Hs.out]; exact m1.fr hfr (by simp; omega) (by simp; omega) (by simp; omega)
      · exact ((J.fr.mono (by simp)).trans f1).trans' hfr (by simp)

theorem bound_pos {t : ByteArray} {s : St} (least : Int) : s.pos ≤ (boundF t s least).2.pos ∧ (boundF t s least).2.pos ≤ s.pos + 2 := by
  have h := skip_pos (t := t) (s := s) 92
  unfold boundF
  split
  · simp [failF]
  · split
    · simp [failF]; omega
    · simp [advF]; omega

theorem byteAt_lt (t : ByteArray) (k : Nat) : -1 ≤ byteAt t k ∧ byteAt t k < 256 := by
  unfold byteAt
  split
  · rename_i h; have := t[k].toNat_lt; omega
  · omega
theorem peek_lt (t : ByteArray) (s : St) : -1 ≤ peekF t s ∧ peekF t s < 256 := by
  unfold peekF
  split
  · omega
  · exact byteAt_lt _ _

theorem bound_lt {t : ByteArray} {s : St} (least : Int) (hl : 0 ≤ least) : 0 ≤ (boundF t s least).1 ∧ (boundF t s least).1 < 256 := by
  have h := peek_lt t (skipF t s 92).2
  unfold boundF
  split
  · simp
  · split
    · simp
    · simp only; omega

end Go.Proofs.YticaoekmlaipnaaDoor
