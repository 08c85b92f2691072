/-
  An atom that takes the bytes from one to another; an item of a class.
-/
import Derived.Test.YticaoekmlaipnaaDoorM08
import Derived.Test.YticaoekmlaipnaaDoorM06
set_option linter.unusedSimpArgs false
set_option linter.unusedVariables false
namespace Go.Proofs.YticaoekmlaipnaaDoor
open Go.RowKit

theorem ByteL.set {w : World} {ab : Nat} {P : Nat → Bool} (h : ByteL w ab P) (k : Nat) (hk : k < 256) : ByteL (w.setCell ⟨ab, k, none⟩ (.bool true)) ab (fun b => P b || decide (b = k)) := by
  refine ⟨fun b hb => ?_, fun b hb => (World.frozen?_setCell _ _ _ _).trans (h.z b hb)⟩
  by_cases e : b = k
  · subst e; simp; exact World.cell?_setCell_same' _ _ _ (by rw [h.c b hk]; rfl)
  · simp [e]; exact (setCell_off (fun e' => e e'.symm)).trans (h.c b hb)

theorem ByteL.congr {w : World} {ab : Nat} {P P' : Nat → Bool} (h : ByteL w ab P) (hp : ∀ b, b < 256 → P b = P' b) : ByteL w ab P' := ⟨fun b hb => by rw [← hp b hb]; exact h.c b hb, h.z⟩

theorem zero256 : Tryd.zeroCells143 = Array.replicate 256 (Value.bool false) := by kernel_rfl

theorem ByteL.new (W : World) : ByteL (W.alloc (.cells Tryd.zeroCells143 143)) W.heap.size (fun _ => false) := by
  have h := World.alloc_heap_new W (.cells Tryd.zeroCells143 143)
  rw [zero256] at h ⊢
  refine ⟨fun b hb => ?_, fun b hb => ?_⟩
  · unfold World.cell?; rw [h]; simp [hb]
  · unfold World.frozen?; rw [h]; simp

structure TkI (w : World) (r pb : Nat) (t : ByteArray) (wh : Nat → Value) (s : St) (P : Nat → Bool) (W : World) : Prop where
  m : M W r pb t wh s
  by_ : ByteL W (w.heap.size + 1) P
  rr : RowIs W w.heap.size [.bool false, .int .u64 0, .int .u64 0, .bool false, .int .u64 0, .int .u64 0, .bool false, .int .u64 0, .int .u64 0, .bool false, .int .u64 0, .int .u64 0]
  zr : ∀ i, W.frozen? ⟨w.heap.size, i, none⟩ = false
  fr : Fr [] w W

set_option maxRecDepth 100000 in
set_option maxHeartbeats 2000000 in
theorem take_any {w : World} {r pb : Nat} {t : ByteArray} {wh : Nat → Value} {s : St} (lo hi : Nat) (hlo : lo ≤ hi) (hhi : hi < 256) (h : M w r pb t wh s) (ha : s.atoms < 50) (htk : ∀ b, s.tk b < 18446744073709551616) :
    Calls Tryd.prog 102 #[.pointer (some ⟨r, 0, none⟩), .int .i64 lo, .int .i64 hi] w fun e w' => e = .returned (pv (takeF s lo hi).1) ∧ M w' r pb t wh (takeF s lo hi).2 ∧ Fr [r, pb] w w' := by
  have hrl := h.rlt
  have hpl := h.pat.lt
  have J0 : TkI w r pb t wh s (fun _ => false) ((w.alloc (Obj.cells #[.bool false, .int .u64 0, .int .u64 0, .bool false, .int .u64 0, .int .u64 0, .bool false, .int .u64 0, .int .u64 0, .bool false, .int .u64 0, .int .u64 0] 73)).alloc (Obj.cells Tryd.zeroCells143 143)) := by
    have f0 : Fr [] w ((w.alloc (Obj.cells #[.bool false, .int .u64 0, .int .u64 0, .bool false, .int .u64 0, .int .u64 0, .bool false, .int .u64 0, .int .u64 0, .bool false, .int .u64 0, .int .u64 0] 73)).alloc (Obj.cells Tryd.zeroCells143 143)) := ((Fr.refl [] _).alloc _).alloc _
    have b0 := ByteL.new (w.alloc (Obj.cells #[.bool false, .int .u64 0, .int .u64 0, .bool false, .int .u64 0, .int .u64 0, .bool false, .int .u64 0, .int .u64 0, .bool false, .int .u64 0, .int .u64 0] 73))
    rw [World.size_alloc] at b0
    refine ⟨h.fr f0 (by simp) (by simp) (by simp), b0, (rowIs_new w [.bool false, .int .u64 0, .int .u64 0, .bool false, .int .u64 0, .int .u64 0, .bool false, .int .u64 0, .int .u64 0, .bool false, .int .u64 0, .int .u64 0] 73).fr ((Fr.refl [] _).alloc _) (by simp) (by simp), fun i => ?_, f0⟩
    exact (World.frozen?_alloc_past _ _ _ (by simp)).trans (frozen_all_new w [.bool false, .int .u64 0, .int .u64 0, .bool false, .int .u64 0, .int .u64 0, .bool false, .int .u64 0, .int .u64 0, .bool false, .int .u64 0, .int .u64 0] 73 i)
  go_enter Tryd.func102, Tryd.ntmps102
  go_wp2
  go_loopw [8] (fun i wr => ∃ k : Nat, lo ≤ k ∧ k ≤ hi + 1 ∧ i = .int .i64 k ∧ TkI w r pb t wh s (fun b => decide (lo ≤ b) && decide (b < k)) wr) (fun i _ => 256 - (intOf i).toNat)
  case atStart => exact ⟨lo, Nat.le_refl _, by omega, rfl, ⟨J0.m, J0.by_.congr (fun b _ => by simp), J0.rr, J0.zr, J0.fr⟩⟩
  case round =>
    obtain ⟨k, hk1, hk2, rfl, J⟩ := hrel
    by_cases hlt : k ≤ hi
    · have g1 : (k : Int) ≤ hi := by omega
      have g2 : (k : Int) < 256 := by omega
      have c1 := J.by_.c k (by omega)
      have z1 := J.by_.z k (by omega)
      go_wp2
      have hf : Fr [w.heap.size + 1] wr (wr.setCell ⟨w.heap.size + 1, k, none⟩ (.bool true)) := (Fr.refl _ wr).setCell (p := ⟨w.heap.size + 1, k, none⟩) (.inl (by simp)) _
      refine ⟨⟨k + 1, by omega, by omega, by go_num, ⟨J.m.fr hf (by simp; omega) (by simp; omega) (by simp), (J.by_.set k (by omega)).congr (fun b _ => ?_), fun i => (setCell_far (by omega)).trans (J.rr i), fun i => (World.frozen?_setCell _ _ _ _).trans (J.zr i), J.fr.trans' hf (by simp)⟩⟩, by simp [intOf]; omega⟩
      by_cases e : b = k
      · subst e; simp; omega
      · have e2 : b < k + 1 ↔ b < k := by omega
        simp [e, e2]
    · have g1 : ¬ ((k : Int) ≤ hi) := by omega
      obtain rfl : k = hi + 1 := by omega
      have hto := takeOf_any (w.heap.size + 1) (fun b => decide (lo ≤ b) && decide (b < hi + 1)) true J.m J.by_ (by omega) (by omega) ha htk
      have hsame : takeOfF s (fun b => (decide (lo ≤ b) && decide (b < hi + 1)) == true) = takeF s lo hi := by
        unfold takeF
        congr 1
        funext b
        simp only [markF, Bool.false_or, beq_true]
        congr 1
        · rw [Bool.eq_iff_iff]; simp
        · rw [Bool.eq_iff_iff]; simp; omega
      rw [hsame] at hto
      clear hsame
      obtain ⟨q, hq⟩ : ∃ q, (takeF s lo hi).1 = q := ⟨_, rfl⟩
      obtain ⟨s2, hs2⟩ : ∃ s2, (takeF s lo hi).2 = s2 := ⟨_, rfl⟩
      rw [hq, hs2] at hto
      have Hq : Hid (_ = q) := hq
      have Hs : Hid (_ = s2) := hs2
      clear hq hs2
      go_wp2_with fail
      refine hto.mono ?_
      rintro e w1 ⟨rfl, m1, f1⟩
      have q1 : w.heap.size < wr.heap.size := lt_of_cell (a := ⟨w.heap.size, 0, none⟩) (J.rr 0)
      have rr1 := J.rr.fr f1 (by simp; omega) q1
      have zr1 := fun i => (f1.frozen (p := ⟨w.heap.size, i, none⟩) q1 (by simp; omega)).trans (J.zr i)
      have y0 : w1.cell? ⟨w.heap.size, 0, none⟩ = some (.bool false) := rr1 0
      have z0 := zr1 0
      have y1 : w1.cell? ⟨w.heap.size, 1, none⟩ = some (.int .u64 0) := rr1 1
      have z1 := zr1 1
      have y2 : w1.cell? ⟨w.heap.size, 2, none⟩ = some (.int .u64 0) := rr1 2
      have z2 := zr1 2
      have y3 : w1.cell? ⟨w.heap.size, 3, none⟩ = some (.bool false) := rr1 3
      have z3 := zr1 3
      have y4 : w1.cell? ⟨w.heap.size, 4, none⟩ = some (.int .u64 0) := rr1 4
      have z4 := zr1 4
      have y5 : w1.cell? ⟨w.heap.size, 5, none⟩ = some (.int .u64 0) := rr1 5
      have z5 := zr1 5
      have y6 : w1.cell? ⟨w.heap.size, 6, none⟩ = some (.bool false) := rr1 6
      have z6 := zr1 6
      have y7 : w1.cell? ⟨w.heap.size, 7, none⟩ = some (.int .u64 0) := rr1 7
      have z7 := zr1 7
      have y8 : w1.cell? ⟨w.heap.size, 8, none⟩ = some (.int .u64 0) := rr1 8
      have z8 := zr1 8
      have y9 : w1.cell? ⟨w.heap.size, 9, none⟩ = some (.bool false) := rr1 9
      have z9 := zr1 9
      have y10 : w1.cell? ⟨w.heap.size, 10, none⟩ = some (.int .u64 0) := rr1 10
      have z10 := zr1 10
      have y11 : w1.cell? ⟨w.heap.size, 11, none⟩ = some (.int .u64 0) := rr1 11
      have z11 := zr1 11
      clear rr1 zr1
      unfold pv
      go_wp2
      have hfr := far_sets w1 w.heap.size (.bool (q 0).e) (.int .u64 (q 0).f) (.int .u64 (q 0).l) (.bool (q 1).e) (.int .u64 (q 1).f) (.int .u64 (q 1).l) (.bool (q 2).e) (.int .u64 (q 2).f) (.int .u64 (q 2).l) (.bool (q 3).e) (.int .u64 (q 3).f) (.int .u64 (q 3).l)
      refine bodyPost_ret (v := pv q) (by simp [results, Tryd.results102, go_sem, pv, y0, y1, y2, y3, y4, y5, y6, y7, y8, y9, y10, y11]) rfl ⟨by rw [Hq.out], ?_, ?_⟩
      · rw [Hs.out]; exact m1.fr hfr (by simp; omega) (by simp; omega) (by simp; omega)
      · exact ((J.fr.mono (by simp)).trans f1).trans' hfr (by simp)

theorem bound_pos {t : ByteArray} {s : St} (least : Int) : s.pos ≤ (boundF t s least).2.pos ∧ (boundF t s least).2.pos ≤ s.pos + 2 := by
  have h := skip_pos (t := t) (s := s) 92
  unfold boundF
  split
  · simp [failF]
  · split
    · simp [failF]; omega
    · simp [advF]; omega

theorem byteAt_lt (t : ByteArray) (k : Nat) : -1 ≤ byteAt t k ∧ byteAt t k < 256 := by
  unfold byteAt
  split
  · rename_i h; have := t[k].toNat_lt; omega
  · omega
theorem peek_lt (t : ByteArray) (s : St) : -1 ≤ peekF t s ∧ peekF t s < 256 := by
  unfold peekF
  split
  · omega
  · exact byteAt_lt _ _

theorem bound_lt {t : ByteArray} {s : St} (least : Int) (hl : 0 ≤ least) : 0 ≤ (boundF t s least).1 ∧ (boundF t s least).1 < 256 := by
  have h := peek_lt t (skipF t s 92).2
  unfold boundF
  split
  · simp
  · split
    · simp
    · simp only; omega

end Go.Proofs.YticaoekmlaipnaaDoor

namespace Go.Proofs.YticaoekmlaipnaaDoor
open Go.RowKit

theorem mark_start (P : Nat → Bool) (l b : Nat) : P b = (P b || (decide (l ≤ b) && decide (b < l))) := by
  have : (decide (l ≤ b) && decide (b < l)) = false := by simp
  rw [this, Bool.or_false]

theorem mark_step (P : Nat → Bool) (l k b : Nat) (h : l ≤ k) : ((P b || (decide (l ≤ b) && decide (b < k))) || decide (b = k)) = (P b || (decide (l ≤ b) && decide (b < k + 1))) := by
  by_cases e : b = k
  · subst e; simp [h]
  · have e2 : b < k + 1 ↔ b < k := by omega
    simp [e, e2]

theorem mark_end (P : Nat → Bool) (l u k b : Nat) (h1 : l ≤ k) (h2 : k = l ∨ k ≤ u + 1) (h3 : ¬ k ≤ u) : (P b || (decide (l ≤ b) && decide (b < k))) = markF P l u b := by
  unfold markF
  congr 1
  rw [Bool.eq_iff_iff]
  simp
  omega

set_option maxRecDepth 100000 in
set_option maxHeartbeats 2000000 in
theorem item_any {w : World} {r pb : Nat} {t : ByteArray} {wh : Nat → Value} {s : St} (ab : Nat) (P : Nat → Bool) (h : M w r pb t wh s) (hB : ByteL w ab P) (n1 : ab ≠ r) (n2 : ab ≠ pb) (n3 : ab ≠ 0) (hs : t.size ≤ 50) (hp : s.pos ≤ 800) :
    Calls Tryd.prog 106 #[.pointer (some ⟨r, 0, none⟩), .pointer (some ⟨ab, 0, none⟩)] w fun e w' => e = .returned (.tuple #[]) ∧ M w' r pb t wh (itemF t s P).2 ∧ ByteL w' ab (itemF t s P).1 ∧ Fr [r, ab] w w' := by
  have hbd := bound_any 0 h hs (by omega)
  have hps := bound_pos (t := t) (s := s) 0
  have hlo := bound_lt (t := t) (s := s) 0 (Int.le_refl 0)
  unfold itemF
  obtain ⟨lo, hq⟩ : ∃ q, (boundF t s 0).1 = q := ⟨_, rfl⟩
  obtain ⟨s1, hs1⟩ : ∃ s1, (boundF t s 0).2 = s1 := ⟨_, rfl⟩
  rw [hq] at hbd hlo ⊢
  rw [hs1] at hbd hps ⊢
  clear hq hs1
  obtain ⟨l, rfl⟩ := Int.eq_ofNat_of_zero_le hlo.1
  by_cases h45 : peekF t s1 = 45
  · have he : (peekF t s1 == 45) = true := by simp [h45]
    have hcl := fun (W : World) (hW : M W r pb t wh s1) => closes_any (s1.pos + 1) hW hs (by omega)
    cases hc : closesF t (s1.pos + 1)
    · rw [if_pos ⟨h45, rfl⟩]
      rw [hc] at hcl
      have hb2 := fun (W : World) (hW : M W r pb t wh (advF s1)) => bound_any (l : Int) hW hs (by simp [advF]; omega)
      have hhi := bound_lt (t := t) (s := advF s1) (l : Int) (by omega)
      obtain ⟨u', hq⟩ : ∃ q, (boundF t (advF s1) l).1 = q := ⟨_, rfl⟩
      obtain ⟨s2, hs2⟩ : ∃ s2, (boundF t (advF s1) l).2 = s2 := ⟨_, rfl⟩
      simp only [hq, hs2] at hb2 hhi ⊢
      clear hq hs2 h45 hc
      obtain ⟨u, rfl⟩ := Int.eq_ofNat_of_zero_le hhi.1
      have Hb2 := (show Hid _ from hb2)
      have Hcl := (show Hid _ from hcl)
      clear hb2 hcl
      go_enter Tryd.func106, Tryd.ntmps106
      go_wp2_with fail
      refine hbd.mono ?_
      rintro e w1 ⟨rfl, m1, f1⟩
      have c1 := m1.rd.c1
      have z1 := m1.rd.f1
      go_wp2_with fail
      refine (peek_any m1 hs).mono ?_
      rintro e w2 ⟨rfl, n, rfl⟩
      go_wp2_with fail
      have hcl2 := Hcl.out (w1.drewN n) (m1.heap rfl)
      rw [show (((s1.pos + 1 : Nat)) : Int) = (s1.pos : Int) + 1 from by omega] at hcl2
      refine hcl2.mono ?_
      rintro e w3 ⟨rfl, rfl⟩
      go_wp2_with fail
      refine (Hb2.out _ (m1.heap (w' := w1.drewN n) rfl).adv).mono ?_
      rintro e w4 ⟨rfl, m2, f2⟩
      have f3 : Fr [r] w1 w4 := ((((Fr.refl [r] w1).drewN n).setCell (p := ⟨r, 1, none⟩) (.inl (by simp)) _)).trans f2
      clear c1 z1
      go_wp2
      have b1 := (hB.fr f1 (by simpa using n1)).fr f3 (by simpa using n1)
      go_loopw [6] (fun i wr => ∃ k : Nat, l ≤ k ∧ (k = l ∨ k ≤ u + 1) ∧ i = .int .i64 k ∧ M wr r pb t wh s2 ∧ ByteL wr ab (fun b => P b || (decide (l ≤ b) && decide (b < k))) ∧ Fr [r, ab] w wr) (fun i _ => 257 - (intOf i).toNat)
      case atStart => exact ⟨l, Nat.le_refl _, .inl rfl, rfl, m2, (b1).congr (fun b _ => mark_start P l b), (f1.mono (by simp)).trans (f3.mono (by simp))⟩
      case round =>
        obtain ⟨k, hk1, hk2, rfl, m, bl, fr⟩ := hrel
        by_cases hlt : k ≤ u
        · have g1 : (k : Int) ≤ u := by omega
          have g2 : (k : Int) < 256 := by omega
          have c1 := bl.c k (by omega)
          have z1 := bl.z k (by omega)
          go_wp2
          have hf : Fr [ab] wr (wr.setCell ⟨ab, k, none⟩ (.bool true)) := (Fr.refl _ wr).setCell (p := ⟨ab, k, none⟩) (.inl (by simp)) _
          refine ⟨⟨k + 1, by omega, .inr (by omega), by go_num, m.fr hf (by simpa using fun e => n1 e.symm) (by simpa using fun e => n2 e.symm) (by simpa using fun e => n3 e.symm), (bl.set k (by omega)).congr (fun b _ => ?_), fr.trans (hf.mono (by simp))⟩, by simp [intOf]; omega⟩
          exact mark_step P l k b hk1
        · have g1 : ¬ ((k : Int) ≤ u) := by omega
          go_wp2
          go_end0
          exact ⟨rfl, m, bl.congr (fun b _ => mark_end P l u k b hk1 hk2 (by omega)), fr⟩
    · rw [if_neg (fun h => by cases h.2)]
      rw [hc] at hcl
      clear h45 hc
      have Hcl := (show Hid _ from hcl)
      clear hcl
      go_enter Tryd.func106, Tryd.ntmps106
      go_wp2_with fail
      refine hbd.mono ?_
      rintro e w1 ⟨rfl, m1, f1⟩
      have c1 := m1.rd.c1
      go_wp2_with fail
      refine (peek_any m1 hs).mono ?_
      rintro e w2 ⟨rfl, n, rfl⟩
      go_wp2_with fail
      have hcl2 := Hcl.out (w1.drewN n) (m1.heap rfl)
      rw [show (((s1.pos + 1 : Nat)) : Int) = (s1.pos : Int) + 1 from by omega] at hcl2
      refine hcl2.mono ?_
      rintro e w3 ⟨rfl, rfl⟩
      go_wp2
      have b1 := (hB.fr f1 (by simpa using n1))
      go_loopw [6] (fun i wr => ∃ k : Nat, l ≤ k ∧ (k = l ∨ k ≤ l + 1) ∧ i = .int .i64 k ∧ M wr r pb t wh s1 ∧ ByteL wr ab (fun b => P b || (decide (l ≤ b) && decide (b < k))) ∧ Fr [r, ab] w wr) (fun i _ => 257 - (intOf i).toNat)
      case atStart => exact ⟨l, Nat.le_refl _, .inl rfl, rfl, m1.heap rfl, ((⟨b1.c, b1.z⟩ : ByteL (w1.drewN n) ab P)).congr (fun b _ => mark_start P l b), (f1.mono (by simp)).drewN n⟩
      case round =>
        obtain ⟨k, hk1, hk2, rfl, m, bl, fr⟩ := hrel
        by_cases hlt : k ≤ l
        · have g1 : (k : Int) ≤ l := by omega
          have g2 : (k : Int) < 256 := by omega
          have c1 := bl.c k (by omega)
          have z1 := bl.z k (by omega)
          go_wp2
          have hf : Fr [ab] wr (wr.setCell ⟨ab, k, none⟩ (.bool true)) := (Fr.refl _ wr).setCell (p := ⟨ab, k, none⟩) (.inl (by simp)) _
          refine ⟨⟨k + 1, by omega, .inr (by omega), by go_num, m.fr hf (by simpa using fun e => n1 e.symm) (by simpa using fun e => n2 e.symm) (by simpa using fun e => n3 e.symm), (bl.set k (by omega)).congr (fun b _ => ?_), fr.trans (hf.mono (by simp))⟩, by simp [intOf]; omega⟩
          exact mark_step P l k b hk1
        · have g1 : ¬ ((k : Int) ≤ l) := by omega
          go_wp2
          go_end0
          exact ⟨rfl, m, bl.congr (fun b _ => mark_end P l l k b hk1 hk2 (by omega)), fr⟩
  · have he : (peekF t s1 == 45) = false := by simpa using h45
    rw [if_neg (fun h => h45 h.1)]
    clear h45
    go_enter Tryd.func106, Tryd.ntmps106
    go_wp2_with fail
    refine hbd.mono ?_
    rintro e w1 ⟨rfl, m1, f1⟩
    go_wp2_with fail
    refine (peek_any m1 hs).mono ?_
    rintro e w2 ⟨rfl, n, rfl⟩
    go_wp2
    have b1 := (hB.fr f1 (by simpa using n1))
    go_loopw [6] (fun i wr => ∃ k : Nat, l ≤ k ∧ (k = l ∨ k ≤ l + 1) ∧ i = .int .i64 k ∧ M wr r pb t wh s1 ∧ ByteL wr ab (fun b => P b || (decide (l ≤ b) && decide (b < k))) ∧ Fr [r, ab] w wr) (fun i _ => 257 - (intOf i).toNat)
    case atStart => exact ⟨l, Nat.le_refl _, .inl rfl, rfl, m1.heap rfl, ((⟨b1.c, b1.z⟩ : ByteL (w1.drewN n) ab P)).congr (fun b _ => mark_start P l b), (f1.mono (by simp)).drewN n⟩
    case round =>
      obtain ⟨k, hk1, hk2, rfl, m, bl, fr⟩ := hrel
      by_cases hlt : k ≤ l
      · have g1 : (k : Int) ≤ l := by omega
        have g2 : (k : Int) < 256 := by omega
        have c1 := bl.c k (by omega)
        have z1 := bl.z k (by omega)
        go_wp2
        have hf : Fr [ab] wr (wr.setCell ⟨ab, k, none⟩ (.bool true)) := (Fr.refl _ wr).setCell (p := ⟨ab, k, none⟩) (.inl (by simp)) _
        refine ⟨⟨k + 1, by omega, .inr (by omega), by go_num, m.fr hf (by simpa using fun e => n1 e.symm) (by simpa using fun e => n2 e.symm) (by simpa using fun e => n3 e.symm), (bl.set k (by omega)).congr (fun b _ => ?_), fr.trans (hf.mono (by simp))⟩, by simp [intOf]; omega⟩
        exact mark_step P l k b hk1
      · have g1 : ¬ ((k : Int) ≤ l) := by omega
        go_wp2
        go_end0
        exact ⟨rfl, m, bl.congr (fun b _ => mark_end P l l k b hk1 hk2 (by omega)), fr⟩

end Go.Proofs.YticaoekmlaipnaaDoor

namespace Go.Proofs.YticaoekmlaipnaaDoor

variable {t : ByteArray}

structure Inv (t : ByteArray) (s : St) : Prop where
  pos : s.pos ≤ t.size
  at_ : s.atoms ≤ s.pos
  tk : ∀ b, s.tk b < 2 ^ s.atoms
  fo : ∀ x a, s.fo x a < 2 ^ s.atoms

def PB (n : Nat) (q : Piece) : Prop := ∀ x, (q x).f < 2 ^ n ∧ (q x).l < 2 ^ n

theorem PB.mono {n m : Nat} {q : Piece} (h : PB n q) (hm : n ≤ m) : PB m q := fun x =>
  ⟨Nat.lt_of_lt_of_le (h x).1 (Nat.pow_le_pow_right (by decide) hm), Nat.lt_of_lt_of_le (h x).2 (Nat.pow_le_pow_right (by decide) hm)⟩
theorem PB.nothing (n : Nat) : PB n nothingF := fun _ => ⟨Nat.two_pow_pos _, Nat.two_pow_pos _⟩
theorem PB.anchor (n m : Nat) : PB n (anchorF m) := fun _ => ⟨Nat.two_pow_pos _, Nat.two_pow_pos _⟩
theorem PB.either {n : Nat} {a b : Piece} (ha : PB n a) (hb : PB n b) : PB n (eitherF a b) := fun x => ⟨Nat.or_lt_two_pow (ha x).1 (hb x).1, Nat.or_lt_two_pow (ha x).2 (hb x).2⟩
theorem PB.join {n : Nat} {a b : Piece} (ha : PB n a) (hb : PB n b) : PB n (joinF a b) := fun x => by
  simp only [joinF, joinedF]
  refine ⟨?_, ?_⟩
  · split
    · exact Nat.or_lt_two_pow (ha x).1 (hb x).1
    · exact (ha x).1
  · split
    · exact Nat.or_lt_two_pow (hb x).2 (ha x).2
    · exact (hb x).2
theorem Inv.tie {s : St} (h : Inv t s) {q r : Piece} (hr : PB s.atoms r) : Inv t { s with fo := tieP s.fo q r } :=
  ⟨h.pos, h.at_, h.tk, fun x a => by
    simp only [tieP]
    split
    · exact Nat.or_lt_two_pow (h.fo x a) (hr x).1
    · exact h.fo x a⟩

theorem peek_ne {s : St} (h : peekF t s ≠ -1) : s.fault = false ∧ s.pos < t.size := by
  unfold peekF byteAt at h
  cases hf : s.fault
  · rw [hf] at h
    simp at h
    by_cases hk : s.pos < t.size
    · exact ⟨rfl, hk⟩
    · simp [hk] at h
  · rw [hf] at h; simp at h

theorem peek_of {s : St} (h1 : s.fault = false) (h2 : s.pos < t.size) : 0 ≤ peekF t s := by
  unfold peekF byteAt; rw [h1]; simp [h2]

theorem peek_fault' {s : St} (h : s.fault = true) : peekF t s = -1 := by unfold peekF; simp [h]

theorem Inv.adv {s : St} (h : Inv t s) (hp : peekF t s ≠ -1) : Inv t (advF s) := by
  have := (peek_ne hp).2
  exact ⟨by simp [advF]; omega, by have := h.at_; simp [advF]; omega, h.tk, h.fo⟩
theorem Inv.fail {s : St} (h : Inv t s) : Inv t (failF s) := ⟨h.pos, h.at_, h.tk, h.fo⟩

/-- Only the place and the fault may be other. -/
structure Near (t : ByteArray) (s s' : St) : Prop where
  atoms : s'.atoms = s.atoms
  tk : s'.tk = s.tk
  fo : s'.fo = s.fo
  le : s.pos ≤ s'.pos
  pos : s.pos ≤ t.size → s'.pos ≤ t.size
theorem Near.refl (s : St) : Near t s s := ⟨rfl, rfl, rfl, Nat.le_refl _, id⟩
theorem Near.trans {a b c : St} (h : Near t a b) (k : Near t b c) : Near t a c := ⟨k.atoms.trans h.atoms, k.tk.trans h.tk, k.fo.trans h.fo, Nat.le_trans h.le k.le, fun x => k.pos (h.pos x)⟩
theorem Near.inv {s s' : St} (h : Near t s s') (hi : Inv t s) : Inv t s' := ⟨h.pos hi.pos, by rw [h.atoms]; exact Nat.le_trans hi.at_ h.le, by rw [h.tk, h.atoms]; exact hi.tk, by rw [h.fo, h.atoms]; exact hi.fo⟩
theorem near_adv {s : St} (hp : peekF t s ≠ -1) : Near t s (advF s) := ⟨rfl, rfl, rfl, by simp [advF], fun _ => by have := (peek_ne hp).2; simp [advF]; omega⟩
theorem near_fail (s : St) : Near t s (failF s) := ⟨rfl, rfl, rfl, Nat.le_refl _, id⟩

theorem skip_near (s : St) (b : Int) (hb : b ≠ -1) : Near t s (skipF t s b).2 := by
  unfold skipF
  split
  · rename_i h; exact near_adv (by rw [h]; exact hb)
  · exact Near.refl s
theorem need_near (s : St) (b : Int) (hb : b ≠ -1) : Near t s (needF t s b) := by
  unfold needF
  split
  · rename_i h; exact near_adv (by rw [h]; exact hb)
  · exact near_fail s
theorem bound_near (s : St) (least : Int) (hl : 0 ≤ least) : Near t s (boundF t s least).2 := by
  have h := skip_near (t := t) s 92 (by decide)
  unfold boundF
  split
  · exact near_fail s
  · split
    · exact h.trans (near_fail _)
    · exact h.trans (near_adv (by omega))
theorem bound_prog (s : St) (least : Int) (hl : 0 ≤ least) : (boundF t s least).2.fault = true ∨ s.pos < (boundF t s least).2.pos := by
  have h := (skip_near (t := t) s 92 (by decide)).le
  unfold boundF
  split
  · exact .inl rfl
  · split
    · exact .inl rfl
    · exact .inr (by simp [advF]; omega)
theorem bound_ge (s : St) (least : Int) (hl : 0 ≤ least) : 0 ≤ (boundF t s least).1 := by
  unfold boundF
  split
  · simp
  · split
    · simp
    · simp only; omega

theorem item_near (s : St) (P : Nat → Bool) : Near t s (itemF t s P).2 := by
  have h := bound_near (t := t) s 0 (Int.le_refl 0)
  have hg := bound_ge (t := t) s 0 (Int.le_refl 0)
  unfold itemF
  split
  · rename_i hc
    exact (h.trans (near_adv (by rw [hc.1]; decide))).trans (bound_near _ _ hg)
  · exact h
theorem item_prog (s : St) (P : Nat → Bool) : (itemF t s P).2.fault = true ∨ s.pos < (itemF t s P).2.pos := by
  have h := bound_prog (t := t) s 0 (Int.le_refl 0)
  have hg := bound_ge (t := t) s 0 (Int.le_refl 0)
  unfold itemF
  split
  · rename_i hc
    have h2 := (bound_near (t := t) (advF (boundF t s 0).2) _ hg).le
    have h3 := (bound_near (t := t) s 0 (Int.le_refl 0)).le
    exact .inr (by simp only [advF] at h2 ⊢; omega)
  · exact h

theorem classL_near : ∀ (n : Nat) (P : Nat → Bool) (s : St), Near t s (classLF t n P s).2
  | 0, _, s => Near.refl s
  | n + 1, P, s => by
    unfold classLF
    split
    · exact Near.refl s
    · exact (item_near s P).trans (classL_near n _ _)

theorem takeOf_inv {s : St} (P : Nat → Bool) (h : Inv t s) (ha : s.atoms < s.pos) : Inv t (takeOfF s P).2 ∧ PB (takeOfF s P).2.atoms (takeOfF s P).1 := by
  have hp : 2 ^ s.atoms < 2 ^ (s.atoms + 1) := Nat.pow_lt_pow_right (by decide) (by omega)
  refine ⟨⟨h.pos, by simp [takeOfF]; omega, fun b => ?_, fun x a => Nat.lt_trans (h.fo x a) hp⟩, fun x => ⟨hp, hp⟩⟩
  simp only [takeOfF]
  split
  · exact Nat.or_lt_two_pow (Nat.lt_trans (h.tk b) hp) hp
  · exact Nat.lt_trans (h.tk b) hp

/-- What the parts of a pattern leave. -/
structure Gives (t : ByteArray) (s : St) (x : Piece × St) : Prop where
  inv : Inv t x.2
  pb : PB x.2.atoms x.1
  le : s.pos ≤ x.2.pos
  al : s.atoms ≤ x.2.atoms

theorem class_gives (n : Nat) (s : St) (h : Inv t s) (ha : s.atoms < s.pos) : Gives t s (classF t n s) := by
  have n1 := skip_near (t := t) s 94 (by decide)
  have n2 := item_near (t := t) (skipF t s 94).2 (fun _ => false)
  have n3 := classL_near (t := t) n (itemF t (skipF t s 94).2 (fun _ => false)).1 (itemF t (skipF t s 94).2 (fun _ => false)).2
  have n4 := need_near (t := t) (classLF t n (itemF t (skipF t s 94).2 (fun _ => false)).1 (itemF t (skipF t s 94).2 (fun _ => false)).2).2 93 (by decide)
  have n5 := ((n1.trans n2).trans n3).trans n4
  have hi := n5.inv h
  have hlt := Nat.lt_of_lt_of_le ha n5.le
  rw [← n5.atoms] at hlt
  obtain ⟨i1, p1⟩ := takeOf_inv (fun b => (classLF t n (itemF t (skipF t s 94).2 (fun _ => false)).1 (itemF t (skipF t s 94).2 (fun _ => false)).2).1 b == !(skipF t s 94).1) hi hlt
  have ea := n5.atoms
  refine ⟨i1, p1, n5.le, ?_⟩
  show s.atoms ≤ (needF t (classLF t n (itemF t (skipF t s 94).2 (fun _ => false)).1 (itemF t (skipF t s 94).2 (fun _ => false)).2).2 93).atoms + 1
  omega

theorem take_gives {s : St} (s0 : St) (lo hi : Int) (h : Inv t s) (ha : s.atoms < s.pos) (h0 : s0.pos ≤ s.pos) (h1 : s0.atoms ≤ s.atoms) : Gives t s0 (takeF s lo hi) := by
  obtain ⟨i1, p1⟩ := takeOf_inv (markF (fun _ => false) lo hi) h ha
  exact ⟨i1, p1, h0, Nat.le_trans h1 (by simp [takeF, takeOfF])⟩

theorem plain_near (s : St) (hp : peekF t s ≠ -1) : Near t s (plainF t s).2 ∧ s.pos < (plainF t s).2.pos := by
  have h := skip_near (t := t) s 92 (by decide)
  unfold plainF
  split
  · rename_i hc
    refine ⟨h.trans (near_fail _), ?_⟩
    unfold skipF at hc ⊢
    split at hc
    · rename_i h92; rw [if_pos h92]; simp [failF, advF]
    · exact absurd hc hp
  · rename_i hc
    exact ⟨h.trans (near_adv hc), by simp only [advF]; have := h.le; omega⟩

end Go.Proofs.YticaoekmlaipnaaDoor

