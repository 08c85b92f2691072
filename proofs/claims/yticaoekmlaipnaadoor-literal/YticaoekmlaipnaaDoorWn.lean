/-
  An item of a class.
-/
import Derived.Test.YticaoekmlaipnaaDoorWm
set_option linter.unusedSimpArgs false
set_option linter.unusedVariables false
namespace Go.Proofs.YticaoekmlaipnaaDoor
open Go.RowKit

theorem mark_start (P : Nat → Bool) (l b : Nat) : P b = (P b || (decide (l ≤ b) && decide (b < l))) := by
  have : (decide (l ≤ b) && decide (b < l)) = false := by simp
  rw [this, Bool.or_false]

theorem mark_step (P : Nat → Bool) (l k b : Nat) (h : l ≤ k) : ((P b || (decide (l ≤ b) && decide (b < k))) || decide (b = k)) = (P b || (decide (l ≤ b) && decide (b < k + 1))) := by
  by_cases e : b = k
  · subst e; simp [h]
  · have e2 : b < k + 1 ↔ b < k := by omega
    simp [e, e2]

theorem mark_end (P : Nat → Bool) (l u k b : Nat) (h1 : l ≤ k) (h2 : k = l ∨ k ≤ u + 1) (h3 : ¬ k ≤ u) : (P b || (decide (l ≤ b) && decide (b < k))) = markF P l u b := by
  unfold markF
  congr 1
  rw [Bool.eq_iff_iff]
  simp
  omega

set_option maxRecDepth 100000 in
set_option maxHeartbeats 2000000 in
theorem item_any {w : World} {r pb : Nat} {t : ByteArray} {wh : Nat → Value} {s : St} (ab : Nat) (P : Nat → Bool) (h : M w r pb t wh s) (hB : ByteL w ab P) (n1 : ab ≠ r) (n2 : ab ≠ pb) (n3 : ab ≠ 0) (hs : t.size ≤ 50) (hp : s.pos ≤ 800) :
    Calls Tryd.prog 106 #[.pointer (some ⟨r, 0, none⟩), .pointer (some ⟨ab, 0, none⟩)] w fun e w' => e = .returned (.tuple #[]) ∧ M w' r pb t wh (itemF t s P).2 ∧ ByteL w' ab (itemF t s P).1 ∧ Fr [r, ab] w w' := by
  have hbd := bound_any 0 h hs (by omega)
  have hps := bound_pos (t := t) (s := s) 0
  have hlo := bound_lt (t := t) (s := s) 0 (Int.le_refl 0)
  unfold itemF
  obtain ⟨lo, hq⟩ : ∃ q, (boundF t s 0).1 = q := ⟨_, rfl⟩
  obtain ⟨s1, hs1⟩ : ∃ s1, (boundF t s 0).2 = s1 := ⟨_, rfl⟩
  rw [hq] at hbd hlo ⊢
  rw [hs1] at hbd hps ⊢
  clear hq hs1
  obtain ⟨l, rfl⟩ := Int.eq_ofNat_of_zero_le hlo.1
  by_cases h45 : peekF t s1 = 45
  · have he : (peekF t s1 == 45) = true := by simp [h45]
    have hcl := fun (W : World) (hW : M W r pb t wh s1) => closes_any (s1.pos + 1) hW hs (by omega)
    cases hc : closesF t (s1.pos + 1)
    · rw [if_pos ⟨h45, rfl⟩]
      rw [hc] at hcl
      have hb2 := fun (W : World) (hW : M W r pb t wh (advF s1)) => bound_any (l : Int) hW hs (by simp [advF]; omega)
      have hhi := bound_lt (t := t) (s := advF s1) (l : Int) (by omega)
      obtain ⟨u', hq⟩ : ∃ q, (boundF t (advF s1) l).1 = q := ⟨_, rfl⟩
      obtain ⟨s2, hs2⟩ : ∃ s2, (boundF t (advF s1) l).2 = s2 := ⟨_, rfl⟩
      simp only [hq, hs2] at hb2 hhi ⊢
      clear hq hs2 h45 hc
      obtain ⟨u, rfl⟩ := Int.eq_ofNat_of_zero_le hhi.1
      have Hb2 := (show Hid _ from hb2)
      have Hcl := (show Hid _ from hcl)
      clear hb2 hcl
      go_enter Tryd.func106, Tryd.ntmps106
      go_wp2_with fail
      refine hbd.mono ?_
      rintro e w1 ⟨rfl, m1, f1⟩
      have c1 := m1.rd.c1
      have z1 := m1.rd.f1
      go_wp2_with fail
      refine (peek_any m1 hs).mono ?_
      rintro e w2 ⟨rfl, n, rfl⟩
      go_wp2_with fail
      have hcl2 := Hcl.out (w1.drewN n) (m1.heap rfl)
      rw [show (((s1.pos + 1 : Nat)) : Int) = (s1.pos : Int) + 1 from by omega] at hcl2
      refine hcl2.mono ?_
      rintro e w3 ⟨rfl, rfl⟩
      go_wp2_with fail
      refine (Hb2.out _ (m1.heap (w' := w1.drewN n) rfl).adv).mono ?_
      rintro e w4 ⟨rfl, m2, f2⟩
      have f3 : Fr [r] w1 w4 := ((((Fr.refl [r] w1).drewN n).setCell (p := ⟨r, 1, none⟩) (.inl (by simp)) _)).trans f2
      clear c1 z1
      go_wp2
      have b1 := (hB.fr f1 (by simpa using n1)).fr f3 (by simpa using n1)
      go_loopw [6] (fun i wr => ∃ k : Nat, l ≤ k ∧ (k = l ∨ k ≤ u + 1) ∧ i = .int .i64 k ∧ M wr r pb t wh s2 ∧ ByteL wr ab (fun b => P b || (decide (l ≤ b) && decide (b < k))) ∧ Fr [r, ab] w wr) (fun i _ => 257 - (intOf i).toNat)
      case atStart => exact ⟨l, Nat.le_refl _, .inl rfl, rfl, m2, (b1).congr (fun b _ => mark_start P l b), (f1.mono (by simp)).trans (f3.mono (by simp))⟩
      case round =>
        obtain ⟨k, hk1, hk2, rfl, m, bl, fr⟩ := hrel
        by_cases hlt : k ≤ u
        · have g1 : (k : Int) ≤ u := by omega
          have g2 : (k : Int) < 256 := by omega
          have c1 := bl.c k (by omega)
          have z1 := bl.z k (by omega)
          go_wp2
          have hf : Fr [ab] wr (wr.setCell ⟨ab, k, none⟩ (.bool true)) := (Fr.refl _ wr).setCell (p := ⟨ab, k, none⟩) (.inl (by simp)) _
          refine ⟨⟨k + 1, by omega, .inr (by omega), by go_num, m.fr hf (by simpa using fun e => n1 e.symm) (by simpa using fun e => n2 e.symm) (by simpa using fun e => n3 e.symm), (bl.set k (by omega)).congr (fun b _ => ?_), fr.trans (hf.mono (by simp))⟩, by simp [intOf]; omega⟩
          exact mark_step P l k b hk1
        · have g1 : ¬ ((k : Int) ≤ u) := by omega
          go_wp2
          go_end0
          exact ⟨rfl, m, bl.congr (fun b _ => mark_end P l u k b hk1 hk2 (by omega)), fr⟩
    · rw [if_neg (fun h => by cases h.2)]
      rw [hc] at hcl
      clear h45 hc
      have Hcl := (show Hid _ from hcl)
      clear hcl
      go_enter Tryd.func106, Tryd.ntmps106
      go_wp2_with fail
      refine hbd.mono ?_
      rintro e w1 ⟨rfl, m1, f1⟩
      have c1 := m1.rd.c1
      go_wp2_with fail
      refine (peek_any m1 hs).mono ?_
      rintro e w2 ⟨rfl, n, rfl⟩
      go_wp2_with fail
      have hcl2 := Hcl.out (w1.drewN n) (m1.heap rfl)
      rw [show (((s1.pos + 1 : Nat)) : Int) = (s1.pos : Int) + 1 from by omega] at hcl2
      refine hcl2.mono ?_
      rintro e w3 ⟨rfl, rfl⟩
      go_wp2
      have b1 := (hB.fr f1 (by simpa using n1))
      go_loopw [6] (fun i wr => ∃ k : Nat, l ≤ k ∧ (k = l ∨ k ≤ l + 1) ∧ i = .int .i64 k ∧ M wr r pb t wh s1 ∧ ByteL wr ab (fun b => P b || (decide (l ≤ b) && decide (b < k))) ∧ Fr [r, ab] w wr) (fun i _ => 257 - (intOf i).toNat)
      case atStart => exact ⟨l, Nat.le_refl _, .inl rfl, rfl, m1.heap rfl, ((⟨b1.c, b1.z⟩ : ByteL (w1.drewN n) ab P)).congr (fun b _ => mark_start P l b), (f1.mono (by simp)).drewN n⟩
      case round =>
        obtain ⟨k, hk1, hk2, rfl, m, bl, fr⟩ := hrel
        by_cases hlt : k ≤ l
        · have g1 : (k : Int) ≤ l := by omega
          have g2 : (k : Int) < 256 := by omega
          have c1 := bl.c k (by omega)
          have z1 := bl.z k (by omega)
          go_wp2
          have hf : Fr [ab] wr (wr.setCell ⟨ab, k, none⟩ (.bool true)) := (Fr.refl _ wr).setCell (p := ⟨ab, k, none⟩) (.inl (by simp)) _
          refine ⟨⟨k + 1, by omega, .inr (by omega), by go_num, m.fr hf (by simpa using fun e => n1 e.symm) (by simpa using fun e => n2 e.symm) (by simpa using fun e => n3 e.symm), (bl.set k (by omega)).congr (fun b _ => ?_), fr.trans (hf.mono (by simp))⟩, by simp [intOf]; omega⟩
          exact mark_step P l k b hk1
        · have g1 : ¬ ((k : Int) ≤ l) := by omega
          go_wp2
          go_end0
          exact ⟨rfl, m, bl.congr (fun b _ => mark_end P l l k b hk1 hk2 (by omega)), fr⟩
  · have he : (peekF t s1 == 45) = false := by simpa using h45
    rw [if_neg (fun h => h45 h.1)]
    clear h45
    go_enter Tryd.func106, Tryd.ntmps106
    go_wp2_with fail
    refine hbd.mono ?_
    rintro e w1 ⟨rfl, m1, f1⟩
    go_wp2_with fail
    refine (peek_any m1 hs).mono ?_
    rintro e w2 ⟨rfl, n, rfl⟩
    go_wp2
    have b1 := (hB.fr f1 (by simpa using n1))
    go_loopw [6] (fun i wr => ∃ k : Nat, l ≤ k ∧ (k = l ∨ k ≤ l + 1) ∧ i = .int .i64 k ∧ M wr r pb t wh s1 ∧ ByteL wr ab (fun b => P b || (decide (l ≤ b) && decide (b < k))) ∧ Fr [r, ab] w wr) (fun i _ => 257 - (intOf i).toNat)
    case atStart => exact ⟨l, Nat.le_refl _, .inl rfl, rfl, m1.heap rfl, ((⟨b1.c, b1.z⟩ : ByteL (w1.drewN n) ab P)).congr (fun b _ => mark_start P l b), (f1.mono (by simp)).drewN n⟩
    case round =>
      obtain ⟨k, hk1, hk2, rfl, m, bl, fr⟩ := hrel
      by_cases hlt : k ≤ l
      · have g1 : (k : Int) ≤ l := by omega
        have g2 : (k : Int) < 256 := by omega
        have c1 := bl.c k (by omega)
        have z1 := bl.z k (by omega)
        go_wp2
        have hf : Fr [ab] wr (wr.setCell ⟨ab, k, none⟩ (.bool true)) := (Fr.refl _ wr).setCell (p := ⟨ab, k, none⟩) (.inl (by simp)) _
        refine ⟨⟨k + 1, by omega, .inr (by omega), by go_num, m.fr hf (by simpa using fun e => n1 e.symm) (by simpa using fun e => n2 e.symm) (by simpa using fun e => n3 e.symm), (bl.set k (by omega)).congr (fun b _ => ?_), fr.trans (hf.mono (by simp))⟩, by simp [intOf]; omega⟩
        exact mark_step P l k b hk1
      · have g1 : ¬ ((k : Int) ≤ l) := by omega
        go_wp2
        go_end0
        exact ⟨rfl, m, bl.congr (fun b _ => mark_end P l l k b hk1 hk2 (by omega)), fr⟩

end Go.Proofs.YticaoekmlaipnaaDoor
