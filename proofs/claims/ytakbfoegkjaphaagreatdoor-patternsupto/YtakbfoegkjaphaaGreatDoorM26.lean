/-
  The document's listed and one: which bytes an atom takes. The document's relations in memory, told by what they hold. The document's atom: the relation of an atom.
-/
import Derived.Test.YtakbfoegkjaphaaGreatDoorM25
import Derived.Deep.CutRange
import Derived.Test.YtakbfoegkjaphaaGreatDoorM24
import Derived.Test.YtakbfoegkjaphaaGreatDoorM14
set_option linter.unusedSimpArgs false
set_option linter.unusedVariables false
namespace Go.Proofs.YtakbfoegkjaphaaGreatDoor
open Go.RowKit

theorem listedL_fuel (t : ByteArray) (H c : Nat) : ∀ f i b, H - i ≤ f → listedL t H c (f + 1) i b = listedL t H c f i b
  | 0, i, b, h => by rw [listedL_end t H c 1 i b (by omega)]; rfl
  | f + 1, i, b, h => by
    have g0 := escI_ge (t := t) i
    have g1 := escI_ge (t := t) (escI t i + 1 + 1)
    rw [listedL_s t H c (f + 1) i b, listedL_s t H c f i b]
    split
    · split
      · exact listedL_fuel t H c f _ _ (by omega)
      · exact listedL_fuel t H c f _ _ (by omega)
    · rfl
theorem listedL_enough (t : ByteArray) (H c i : Nat) (b : Bool) : ∀ d, listedL t H c (H - i + d) i b = listedL t H c (H - i) i b
  | 0 => rfl
  | d + 1 => by rw [← Nat.add_assoc, listedL_fuel t H c _ i b (by omega), listedL_enough t H c i b d]
theorem listedL_step (t : ByteArray) (H c i : Nat) (b : Bool) (hi : i < H) : listedL t H c (H - i) i b =
    if escI t i + 1 + 1 < H ∧ byteN t (escI t i + 1) = 45 then listedL t H c (H - (escI t (escI t i + 1 + 1) + 1)) (escI t (escI t i + 1 + 1) + 1) (b || (decide (byteN t (escI t i) ≤ c) && decide (c ≤ byteN t (escI t (escI t i + 1 + 1)))))
    else listedL t H c (H - (escI t i + 1)) (escI t i + 1) (b || (decide (byteN t (escI t i) ≤ c) && decide (c ≤ byteN t (escI t i)))) := by
  have g0 := escI_ge (t := t) i
  have g1 := escI_ge (t := t) (escI t i + 1 + 1)
  obtain ⟨f, hf⟩ : ∃ f, H - i = f + 1 := ⟨H - i - 1, by omega⟩
  rw [hf, listedL_s, if_pos hi]
  split
  · have := listedL_enough t H c (escI t (escI t i + 1 + 1) + 1) (b || (decide (byteN t (escI t i) ≤ c) && decide (c ≤ byteN t (escI t (escI t i + 1 + 1))))) (f - (H - (escI t (escI t i + 1 + 1) + 1)))
    rw [show H - (escI t (escI t i + 1 + 1) + 1) + (f - (H - (escI t (escI t i + 1 + 1) + 1))) = f by omega] at this
    exact this
  · have := listedL_enough t H c (escI t i + 1) (b || (decide (byteN t (escI t i) ≤ c) && decide (c ≤ byteN t (escI t i)))) (f - (H - (escI t i + 1)))
    rw [show H - (escI t i + 1) + (f - (H - (escI t i + 1))) = f by omega] at this
    exact this

/-- What the rounds of listed keep. -/
structure LisI (t : ByteArray) (c : Nat) (L : Bool) (k : Nat) (b : Bool) : Prop where
  u : ∃ n, units t n k t.size
  l : listedL t t.size c (t.size - k) k b = L

/-- One round. -/
theorem LisI.next {t : ByteArray} {c : Nat} {L : Bool} {k : Nat} {b : Bool} (h : LisI t c L k b) (hk : k < t.size) :
    byteN t k ≠ 93 ∧ escI t k < t.size ∧
    ((escI t k + 1 + 1 < t.size ∧ byteN t (escI t k + 1) = 45 ∧ escI t (escI t k + 1 + 1) < t.size ∧ LisI t c L (escI t (escI t k + 1 + 1) + 1) (b || (decide (byteN t (escI t k) ≤ c) && decide (c ≤ byteN t (escI t (escI t k + 1 + 1)))))) ∨
     (¬ (escI t k + 1 + 1 < t.size ∧ byteN t (escI t k + 1) = 45) ∧ LisI t c L (escI t k + 1) (b || (decide (byteN t (escI t k) ≤ c) && decide (c ≤ byteN t (escI t k)))))) := by
  obtain ⟨⟨n, hu⟩, hl⟩ := h
  rw [listedL_step t t.size c k b hk] at hl
  obtain ⟨m, rfl⟩ : ∃ m, n = m + 1 := by
    cases n with
    | zero => have : k = t.size := hu; omega
    | succ m => exact ⟨m, rfl⟩
  have h93 := hu.2.1
  obtain ⟨e1, e2⟩ := units_esc hu
  refine ⟨h93, e1, ?_⟩
  by_cases cr : escI t k + 1 + 1 < t.size ∧ byteN t (escI t k + 1) = 45
  · rw [if_pos cr] at hl
    obtain ⟨m2, rfl⟩ : ∃ m2, m = m2 + 1 := by
      cases m with
      | zero => have : escI t k + 1 = t.size := e2; omega
      | succ m2 => exact ⟨m2, rfl⟩
    obtain ⟨e3, e4⟩ := units_esc e2
    have he2 : escI t (escI t k + 1) = escI t k + 1 := by
      show (if byteN t (escI t k + 1) = 92 then _ else _) = _
      rw [if_neg (by omega)]
    rw [he2] at e4
    obtain ⟨m3, rfl⟩ : ∃ m3, m2 = m3 + 1 := by
      cases m2 with
      | zero => have : escI t k + 1 + 1 = t.size := e4; omega
      | succ m3 => exact ⟨m3, rfl⟩
    obtain ⟨e5, e6⟩ := units_esc e4
    exact .inl ⟨cr.1, cr.2, e5, ⟨m3, e6⟩, hl⟩
  · rw [if_neg cr] at hl
    exact .inr ⟨cr, ⟨m, e2⟩, hl⟩

set_option maxRecDepth 100000 in
set_option maxHeartbeats 4000000 in
theorem listed_any (t : ByteArray) (c : Nat) (hc : c < 256) (ht : t.size ≤ 50) (n : Nat) (hu : units t n 0 t.size) (w : World) :
    Calls Tryz.prog 252 #[.string t, .int .u8 c] w fun e w' => e = .returned (.bool (listedF t 0 t.size c)) ∧ w' = w := by
  obtain ⟨i0, hi0⟩ : ∃ i0, (if 0 < t.size ∧ byteN t 0 = 94 then 1 else 0) = i0 := ⟨_, rfl⟩
  obtain ⟨nt, hnt⟩ : ∃ nt, decide (0 < t.size ∧ byteN t 0 = 94) = nt := ⟨_, rfl⟩
  have hu0 : ∃ n, units t n i0 t.size := by
    by_cases h : 0 < t.size ∧ byteN t 0 = 94
    · rw [if_pos h] at hi0
      subst hi0
      cases n with
      | zero => have : 0 = t.size := hu; omega
      | succ n =>
        have := units_esc hu
        have he : escI t 0 = 0 := by unfold escI; rw [if_neg (by omega)]
        rw [he] at this
        exact ⟨n, this.2⟩
    · rw [if_neg h] at hi0; subst hi0; exact ⟨n, hu⟩
  have hle : i0 ≤ t.size := units_bd _ _ _ hu0.choose_spec
  obtain ⟨L, hL⟩ : ∃ L, listedL t t.size c (t.size - i0) i0 false = L := ⟨_, rfl⟩
  have hres : listedF t 0 t.size c = (L != nt) := by
    rw [← hL, ← hnt]
    unfold listedF
    by_cases h : 0 < t.size ∧ byteN t 0 = 94
    · rw [if_pos h] at hi0
      subst hi0
      rw [if_pos h, decide_eq_true h]
      have := listedL_enough t t.size c 1 false 1
      rw [show t.size - 1 + 1 = t.size - 0 by omega] at this
      rw [Nat.zero_add, this]
      cases listedL t t.size c (t.size - 1) 1 false <;> rfl
    · rw [if_neg h] at hi0
      subst hi0
      rw [if_neg h, decide_eq_false h]
      cases listedL t t.size c (t.size - 0) 0 false <;> rfl
  rw [hres]
  have J0 : LisI t c L i0 false := ⟨hu0, hL⟩
  have HJ : Hid _ := J0
  have key : (t.size = 0 ∧ nt = false ∧ i0 = 0) ∨ (∃ h : 0 < t.size, (t[0].toNat : Int) = 94 ∧ nt = true ∧ i0 = 1) ∨ (∃ h : 0 < t.size, ((t[0].toNat : Int) == 94) = false ∧ nt = false ∧ i0 = 0) := by
    by_cases h0 : 0 < t.size
    · right
      have gn := getN h0
      by_cases h94 : byteN t 0 = 94
      · rw [if_pos ⟨h0, h94⟩] at hi0
        rw [decide_eq_true ⟨h0, h94⟩] at hnt
        exact .inl ⟨h0, by rw [gn]; omega, hnt.symm, hi0.symm⟩
      · rw [if_neg (fun h => h94 h.2)] at hi0
        rw [decide_eq_false (fun h => h94 h.2)] at hnt
        exact .inr ⟨h0, by rw [gn]; simp; omega, hnt.symm, hi0.symm⟩
    · left
      rw [if_neg (fun h => h0 h.1)] at hi0
      rw [decide_eq_false (fun h => h0 h.1)] at hnt
      exact ⟨by omega, hnt.symm, hi0.symm⟩
  clear hres hL hu0 hu J0 hnt hi0
  have hstep : ∀ k b, LisI t c L k b → k < t.size → _ := fun k b h hk => h.next hk
  have Hst : Hid _ := hstep
  clear hstep
  rcases key with ⟨z0, rfl, rfl⟩ | ⟨h0, b0, rfl, rfl⟩ | ⟨h0, b0, rfl, rfl⟩
  · have g0 : ¬ ((0 : Int) < t.size) := by omega
    have e0 := HJ.out.l
    rw [show t.size - 0 = 0 by omega] at e0
    have e1 : L = false := e0.symm
    subst e1
    go_enter Tryz.func252, Tryz.ntmps252
    go_wp2
    refine wp_loop_rounds 1 ?_
    rw [rounds_succ]
    go_wp2
    go_ret
    exact ⟨rfl, rfl⟩
  all_goals
    have g0 : (0 : Int) < t.size := by omega
    go_enter Tryz.func252, Tryz.ntmps252
    go_wp2
    clear b0
    go_loop [6, 7] (fun i v => ∃ (k : Nat) (b : Bool), k ≤ t.size ∧ i = .int .i64 k ∧ v = .bool b ∧ Hid (LisI t c L k b)) (fun i _ => t.size - (intOf i).toNat)
    case atStart => exact ⟨_, _, hle, rfl, rfl, HJ⟩
    case round =>
      obtain ⟨k, b, hk, rfl, rfl, hJ⟩ := hrel
      clear HJ hle
      by_cases hlt : k < t.size
      · have g1 : (k : Int) < t.size := by omega
        obtain ⟨n93, e1, hcase⟩ := Hst.out k b hJ.out hlt
        have gk := getN hlt
        clear Hst hJ n93
        by_cases c92 : byteN t k = 92
        · have he : escI t k = k + 1 := by unfold escI; rw [if_pos c92]
          rw [he] at e1 hcase
          have b92 : (t[k].toNat : Int) = 92 := by rw [gk]; omega
          have ga := getN e1
          have ga2 : ((k + 1 : Nat) : Int) < t.size := by omega
          clear he c92
          rcases hcase with ⟨r1, r2, r3, J⟩ | ⟨r1, J⟩
          · have d1 : k + 1 + 1 < t.size := by omega
            have d2 : k + 1 + 1 + 1 < t.size := by omega
            have gd := getN d1
            have b45 : (t[k + 1 + 1].toNat : Int) = 45 := by rw [gd]; omega
            have gd2 := getN d2
            have g2 : (k : Int) + 3 < t.size := by omega
            by_cases c92b : byteN t (k + 1 + 1 + 1) = 92
            · have he2 : escI t (k + 1 + 1 + 1) = k + 1 + 1 + 1 + 1 := by unfold escI; rw [if_pos c92b]
              rw [he2] at r3 J
              have b92b : (t[k + 1 + 1 + 1].toNat : Int) = 92 := by rw [gd2]; omega
              have gh := getN r3
              clear he2 c92b gd gd2 gk
              by_cases q1 : byteN t (k + 1) ≤ c
              · have q1z : (t[k + 1].toNat : Int) ≤ c := by rw [ga]; omega
                rw [decide_eq_true q1, Bool.true_and] at J
                by_cases q2 : c ≤ byteN t (k + 1 + 1 + 1 + 1)
                · have q2z : (c : Int) ≤ t[k + 1 + 1 + 1 + 1].toNat := by rw [gh]; omega
                  rw [decide_eq_true q2, Bool.or_true] at J
                  have HJ : Hid (LisI t c L (k + 1 + 1 + 1 + 1 + 1) true) := J
                  clear J ga gh
                  go_wp2
                  go_round
                  case rel => exact ⟨k + 1 + 1 + 1 + 1 + 1, _, by omega, by go_num, rfl, HJ⟩
                  case measure => simp [intOf]; omega
                · have q2z : ¬ ((c : Int) ≤ t[k + 1 + 1 + 1 + 1].toNat) := by rw [gh]; omega
                  rw [decide_eq_false q2, Bool.or_false] at J
                  have HJ : Hid (LisI t c L (k + 1 + 1 + 1 + 1 + 1) b) := J
                  clear J ga gh
                  go_wp2
                  go_round
                  case rel => exact ⟨k + 1 + 1 + 1 + 1 + 1, _, by omega, by go_num, rfl, HJ⟩
                  case measure => simp [intOf]; omega
              · have q1z : ¬ ((t[k + 1].toNat : Int) ≤ c) := by rw [ga]; omega
                rw [decide_eq_false q1, Bool.false_and, Bool.or_false] at J
                have HJ : Hid (LisI t c L (k + 1 + 1 + 1 + 1 + 1) b) := J
                clear J ga gh
                go_wp2
                go_round
                case rel => exact ⟨k + 1 + 1 + 1 + 1 + 1, _, by omega, by go_num, rfl, HJ⟩
                case measure => simp [intOf]; omega
            · have he2 : escI t (k + 1 + 1 + 1) = k + 1 + 1 + 1 := by unfold escI; rw [if_neg c92b]
              rw [he2] at r3 J
              have b92b : ((t[k + 1 + 1 + 1].toNat : Int) == 92) = false := by rw [gd2]; simp; omega
              have gh := getN r3
              clear he2 c92b gd gd2 gk
              by_cases q1 : byteN t (k + 1) ≤ c
              · have q1z : (t[k + 1].toNat : Int) ≤ c := by rw [ga]; omega
                rw [decide_eq_true q1, Bool.true_and] at J
                by_cases q2 : c ≤ byteN t (k + 1 + 1 + 1)
                · have q2z : (c : Int) ≤ t[k + 1 + 1 + 1].toNat := by rw [gh]; omega
                  rw [decide_eq_true q2, Bool.or_true] at J
                  have HJ : Hid (LisI t c L (k + 1 + 1 + 1 + 1) true) := J
                  clear J ga gh
                  go_wp2
                  go_round
                  case rel => exact ⟨k + 1 + 1 + 1 + 1, _, by omega, by go_num, rfl, HJ⟩
                  case measure => simp [intOf]; omega
                · have q2z : ¬ ((c : Int) ≤ t[k + 1 + 1 + 1].toNat) := by rw [gh]; omega
                  rw [decide_eq_false q2, Bool.or_false] at J
                  have HJ : Hid (LisI t c L (k + 1 + 1 + 1 + 1) b) := J
                  clear J ga gh
                  go_wp2
                  go_round
                  case rel => exact ⟨k + 1 + 1 + 1 + 1, _, by omega, by go_num, rfl, HJ⟩
                  case measure => simp [intOf]; omega
              · have q1z : ¬ ((t[k + 1].toNat : Int) ≤ c) := by rw [ga]; omega
                rw [decide_eq_false q1, Bool.false_and, Bool.or_false] at J
                have HJ : Hid (LisI t c L (k + 1 + 1 + 1 + 1) b) := J
                clear J ga gh
                go_wp2
                go_round
                case rel => exact ⟨k + 1 + 1 + 1 + 1, _, by omega, by go_num, rfl, HJ⟩
                case measure => simp [intOf]; omega
          · have nr : ¬ ((k : Int) + 3 < t.size ∧ (byteN t (k + 1 + 1) : Int) = 45) := fun h => r1 ⟨by omega, by omega⟩
            by_cases d2 : k + 1 + 1 + 1 < t.size
            · have d1 : k + 1 + 1 < t.size := by omega
              have gd := getN d1
              have b45 : ((t[k + 1 + 1].toNat : Int) == 45) = false := by rw [gd]; simp; omega
              have g2 : (k : Int) + 3 < t.size := by omega
              clear gd gk nr r1
              by_cases q1 : byteN t (k + 1) ≤ c
              · have q1z : (t[k + 1].toNat : Int) ≤ c := by rw [ga]; omega
                rw [decide_eq_true q1, Bool.true_and] at J
                by_cases q2 : c ≤ byteN t (k + 1)
                · have q2z : (c : Int) ≤ t[k + 1].toNat := by rw [ga]; omega
                  rw [decide_eq_true q2, Bool.or_true] at J
                  have HJ : Hid (LisI t c L (k + 1 + 1) true) := J
                  clear J ga 
                  go_wp2
                  go_round
                  case rel => exact ⟨k + 1 + 1, _, by omega, by go_num, rfl, HJ⟩
                  case measure => simp [intOf]; omega
                · have q2z : ¬ ((c : Int) ≤ t[k + 1].toNat) := by rw [ga]; omega
                  rw [decide_eq_false q2, Bool.or_false] at J
                  have HJ : Hid (LisI t c L (k + 1 + 1) b) := J
                  clear J ga 
                  go_wp2
                  go_round
                  case rel => exact ⟨k + 1 + 1, _, by omega, by go_num, rfl, HJ⟩
                  case measure => simp [intOf]; omega
              · have q1z : ¬ ((t[k + 1].toNat : Int) ≤ c) := by rw [ga]; omega
                rw [decide_eq_false q1, Bool.false_and, Bool.or_false] at J
                have HJ : Hid (LisI t c L (k + 1 + 1) b) := J
                clear J ga 
                go_wp2
                go_round
                case rel => exact ⟨k + 1 + 1, _, by omega, by go_num, rfl, HJ⟩
                case measure => simp [intOf]; omega
            · have g2 : ¬ ((k : Int) + 3 < t.size) := by omega
              clear gk nr r1
              by_cases q1 : byteN t (k + 1) ≤ c
              · have q1z : (t[k + 1].toNat : Int) ≤ c := by rw [ga]; omega
                rw [decide_eq_true q1, Bool.true_and] at J
                by_cases q2 : c ≤ byteN t (k + 1)
                · have q2z : (c : Int) ≤ t[k + 1].toNat := by rw [ga]; omega
                  rw [decide_eq_true q2, Bool.or_true] at J
                  have HJ : Hid (LisI t c L (k + 1 + 1) true) := J
                  clear J ga 
                  go_wp2
                  go_round
                  case rel => exact ⟨k + 1 + 1, _, by omega, by go_num, rfl, HJ⟩
                  case measure => simp [intOf]; omega
                · have q2z : ¬ ((c : Int) ≤ t[k + 1].toNat) := by rw [ga]; omega
                  rw [decide_eq_false q2, Bool.or_false] at J
                  have HJ : Hid (LisI t c L (k + 1 + 1) b) := J
                  clear J ga 
                  go_wp2
                  go_round
                  case rel => exact ⟨k + 1 + 1, _, by omega, by go_num, rfl, HJ⟩
                  case measure => simp [intOf]; omega
              · have q1z : ¬ ((t[k + 1].toNat : Int) ≤ c) := by rw [ga]; omega
                rw [decide_eq_false q1, Bool.false_and, Bool.or_false] at J
                have HJ : Hid (LisI t c L (k + 1 + 1) b) := J
                clear J ga 
                go_wp2
                go_round
                case rel => exact ⟨k + 1 + 1, _, by omega, by go_num, rfl, HJ⟩
                case measure => simp [intOf]; omega
        · have he : escI t k = k := by unfold escI; rw [if_neg c92]
          rw [he] at e1 hcase
          have b92 : ((t[k].toNat : Int) == 92) = false := by rw [gk]; simp; omega
          have ga := getN e1
          have ga2 : ((k : Nat) : Int) < t.size := by omega
          clear he c92
          rcases hcase with ⟨r1, r2, r3, J⟩ | ⟨r1, J⟩
          · have d1 : k + 1 < t.size := by omega
            have d2 : k + 1 + 1 < t.size := by omega
            have gd := getN d1
            have b45 : (t[k + 1].toNat : Int) = 45 := by rw [gd]; omega
            have gd2 := getN d2
            have g2 : (k : Int) + 2 < t.size := by omega
            by_cases c92b : byteN t (k + 1 + 1) = 92
            · have he2 : escI t (k + 1 + 1) = k + 1 + 1 + 1 := by unfold escI; rw [if_pos c92b]
              rw [he2] at r3 J
              have b92b : (t[k + 1 + 1].toNat : Int) = 92 := by rw [gd2]; omega
              have gh := getN r3
              clear he2 c92b gd gd2 gk
              by_cases q1 : byteN t (k) ≤ c
              · have q1z : (t[k].toNat : Int) ≤ c := by rw [ga]; omega
                rw [decide_eq_true q1, Bool.true_and] at J
                by_cases q2 : c ≤ byteN t (k + 1 + 1 + 1)
                · have q2z : (c : Int) ≤ t[k + 1 + 1 + 1].toNat := by rw [gh]; omega
                  rw [decide_eq_true q2, Bool.or_true] at J
                  have HJ : Hid (LisI t c L (k + 1 + 1 + 1 + 1) true) := J
                  clear J ga gh
                  go_wp2
                  go_round
                  case rel => exact ⟨k + 1 + 1 + 1 + 1, _, by omega, by go_num, rfl, HJ⟩
                  case measure => simp [intOf]; omega
                · have q2z : ¬ ((c : Int) ≤ t[k + 1 + 1 + 1].toNat) := by rw [gh]; omega
                  rw [decide_eq_false q2, Bool.or_false] at J
                  have HJ : Hid (LisI t c L (k + 1 + 1 + 1 + 1) b) := J
                  clear J ga gh
                  go_wp2
                  go_round
                  case rel => exact ⟨k + 1 + 1 + 1 + 1, _, by omega, by go_num, rfl, HJ⟩
                  case measure => simp [intOf]; omega
              · have q1z : ¬ ((t[k].toNat : Int) ≤ c) := by rw [ga]; omega
                rw [decide_eq_false q1, Bool.false_and, Bool.or_false] at J
                have HJ : Hid (LisI t c L (k + 1 + 1 + 1 + 1) b) := J
                clear J ga gh
                go_wp2
                go_round
                case rel => exact ⟨k + 1 + 1 + 1 + 1, _, by omega, by go_num, rfl, HJ⟩
                case measure => simp [intOf]; omega
            · have he2 : escI t (k + 1 + 1) = k + 1 + 1 := by unfold escI; rw [if_neg c92b]
              rw [he2] at r3 J
              have b92b : ((t[k + 1 + 1].toNat : Int) == 92) = false := by rw [gd2]; simp; omega
              have gh := getN r3
              clear he2 c92b gd gd2 gk
              by_cases q1 : byteN t (k) ≤ c
              · have q1z : (t[k].toNat : Int) ≤ c := by rw [ga]; omega
                rw [decide_eq_true q1, Bool.true_and] at J
                by_cases q2 : c ≤ byteN t (k + 1 + 1)
                · have q2z : (c : Int) ≤ t[k + 1 + 1].toNat := by rw [gh]; omega
                  rw [decide_eq_true q2, Bool.or_true] at J
                  have HJ : Hid (LisI t c L (k + 1 + 1 + 1) true) := J
                  clear J ga gh
                  go_wp2
                  go_round
                  case rel => exact ⟨k + 1 + 1 + 1, _, by omega, by go_num, rfl, HJ⟩
                  case measure => simp [intOf]; omega
                · have q2z : ¬ ((c : Int) ≤ t[k + 1 + 1].toNat) := by rw [gh]; omega
                  rw [decide_eq_false q2, Bool.or_false] at J
                  have HJ : Hid (LisI t c L (k + 1 + 1 + 1) b) := J
                  clear J ga gh
                  go_wp2
                  go_round
                  case rel => exact ⟨k + 1 + 1 + 1, _, by omega, by go_num, rfl, HJ⟩
                  case measure => simp [intOf]; omega
              · have q1z : ¬ ((t[k].toNat : Int) ≤ c) := by rw [ga]; omega
                rw [decide_eq_false q1, Bool.false_and, Bool.or_false] at J
                have HJ : Hid (LisI t c L (k + 1 + 1 + 1) b) := J
                clear J ga gh
                go_wp2
                go_round
                case rel => exact ⟨k + 1 + 1 + 1, _, by omega, by go_num, rfl, HJ⟩
                case measure => simp [intOf]; omega
          · have nr : ¬ ((k : Int) + 2 < t.size ∧ (byteN t (k + 1) : Int) = 45) := fun h => r1 ⟨by omega, by omega⟩
            by_cases d2 : k + 1 + 1 < t.size
            · have d1 : k + 1 < t.size := by omega
              have gd := getN d1
              have b45 : ((t[k + 1].toNat : Int) == 45) = false := by rw [gd]; simp; omega
              have g2 : (k : Int) + 2 < t.size := by omega
              clear gd gk nr r1
              by_cases q1 : byteN t (k) ≤ c
              · have q1z : (t[k].toNat : Int) ≤ c := by rw [ga]; omega
                rw [decide_eq_true q1, Bool.true_and] at J
                by_cases q2 : c ≤ byteN t (k)
                · have q2z : (c : Int) ≤ t[k].toNat := by rw [ga]; omega
                  rw [decide_eq_true q2, Bool.or_true] at J
                  have HJ : Hid (LisI t c L (k + 1) true) := J
                  clear J ga 
                  go_wp2
                  go_round
                  case rel => exact ⟨k + 1, _, by omega, by go_num, rfl, HJ⟩
                  case measure => simp [intOf]; omega
                · have q2z : ¬ ((c : Int) ≤ t[k].toNat) := by rw [ga]; omega
                  rw [decide_eq_false q2, Bool.or_false] at J
                  have HJ : Hid (LisI t c L (k + 1) b) := J
                  clear J ga 
                  go_wp2
                  go_round
                  case rel => exact ⟨k + 1, _, by omega, by go_num, rfl, HJ⟩
                  case measure => simp [intOf]; omega
              · have q1z : ¬ ((t[k].toNat : Int) ≤ c) := by rw [ga]; omega
                rw [decide_eq_false q1, Bool.false_and, Bool.or_false] at J
                have HJ : Hid (LisI t c L (k + 1) b) := J
                clear J ga 
                go_wp2
                go_round
                case rel => exact ⟨k + 1, _, by omega, by go_num, rfl, HJ⟩
                case measure => simp [intOf]; omega
            · have g2 : ¬ ((k : Int) + 2 < t.size) := by omega
              clear gk nr r1
              by_cases q1 : byteN t (k) ≤ c
              · have q1z : (t[k].toNat : Int) ≤ c := by rw [ga]; omega
                rw [decide_eq_true q1, Bool.true_and] at J
                by_cases q2 : c ≤ byteN t (k)
                · have q2z : (c : Int) ≤ t[k].toNat := by rw [ga]; omega
                  rw [decide_eq_true q2, Bool.or_true] at J
                  have HJ : Hid (LisI t c L (k + 1) true) := J
                  clear J ga 
                  go_wp2
                  go_round
                  case rel => exact ⟨k + 1, _, by omega, by go_num, rfl, HJ⟩
                  case measure => simp [intOf]; omega
                · have q2z : ¬ ((c : Int) ≤ t[k].toNat) := by rw [ga]; omega
                  rw [decide_eq_false q2, Bool.or_false] at J
                  have HJ : Hid (LisI t c L (k + 1) b) := J
                  clear J ga 
                  go_wp2
                  go_round
                  case rel => exact ⟨k + 1, _, by omega, by go_num, rfl, HJ⟩
                  case measure => simp [intOf]; omega
              · have q1z : ¬ ((t[k].toNat : Int) ≤ c) := by rw [ga]; omega
                rw [decide_eq_false q1, Bool.false_and, Bool.or_false] at J
                have HJ : Hid (LisI t c L (k + 1) b) := J
                clear J ga 
                go_wp2
                go_round
                case rel => exact ⟨k + 1, _, by omega, by go_num, rfl, HJ⟩
                case measure => simp [intOf]; omega
      · have g1 : ¬ ((k : Int) < t.size) := by omega
        have e0 := hJ.out.l
        rw [show t.size - k = 0 by omega] at e0
        have e1 : L = b := e0.symm
        subst e1
        go_wp2
        go_ret
        exact ⟨rfl, rfl⟩

set_option maxRecDepth 100000 in
set_option maxHeartbeats 1000000 in
theorem one_any (t : ByteArray) (c : Nat) (hc : c < 256) (ht : t.size ≤ 50) (h0 : 0 < t.size) (hs : spanD t 0 t.size) (w : World) :
    Calls Tryz.prog 245 #[.string t, .int .u8 c] w fun e w' => e = .returned (.bool (oneF t 0 t.size c)) ∧ w' = w := by
  have g1 : (0 : Int) < t.size := by omega
  have gn := getN h0
  unfold oneF
  by_cases h46 : byteN t 0 = 46
  · rw [if_pos h46]
    have b1 : (t[0].toNat : Int) = 46 := by rw [gn]; omega
    clear gn
    go_enter Tryz.func245, Tryz.ntmps245
    go_wp2
    go_ret
    exact ⟨rfl, rfl⟩
  · rw [if_neg h46]
    have n46 : ((t[0].toNat : Int) == 46) = false := by rw [gn]; simp; omega
    by_cases h91 : byteN t 0 = 91
    · rw [if_pos h91]
      have b1 : (t[0].toNat : Int) = 91 := by rw [gn]; omega
      have hcl : 2 ≤ t.size ∧ ∃ n, units t n 1 (t.size - 1) := by
        rcases hs with ⟨h, _⟩ | ⟨_, h, _, h2⟩ | ⟨_, h, _⟩
        · omega
        · exact ⟨by omega, h2⟩
        · omega
      obtain ⟨z2, n, hu⟩ := hcl
      have sub := sub_extract t 1 (t.size - 1) (by omega) (by omega)
      have us : (t.extract 1 (t.size - 1)).size = t.size - 1 - 1 := by rw [ByteArray.size_extract]; omega
      have hu2 : units (t.extract 1 (t.size - 1)) n 0 (t.extract 1 (t.size - 1)).size := by
        refine sub.tUnits n 0 _ ?_ (by omega)
        rw [show 1 + 0 = 1 from rfl, show 1 + (t.extract 1 (t.size - 1)).size = t.size - 1 by omega]
        exact hu
      have hl := listed_any (t.extract 1 (t.size - 1)) c hc (by omega) n hu2 w
      have e1 := sub.tListedF 0 (t.extract 1 (t.size - 1)).size c (by omega) (by omega) (n := n) (by rw [show 1 + 0 = 1 from rfl, show 1 + (t.extract 1 (t.size - 1)).size = t.size - 1 by omega]; exact hu)
      rw [show 1 + 0 = 1 from rfl, show 1 + (t.extract 1 (t.size - 1)).size = t.size - 1 by omega] at e1
      rw [← e1] at hl
      clear e1 sub us hu2 gn n46 hs hu
      generalize listedF t 1 (t.size - 1) c = v at *
      have g3 : (1 : Int) ≤ (t.size : Int) - 1 := by omega
      go_enter Tryz.func245, Tryz.ntmps245
      go_wp2_with fail
      refine hl.mono ?_
      rintro e w2 ⟨rfl, rfl⟩
      go_wp2
      go_ret
      exact ⟨rfl, rfl⟩
    · rw [if_neg h91]
      have n91 : ((t[0].toNat : Int) == 91) = false := by rw [gn]; simp; omega
      by_cases h92 : byteN t 0 = 92
      · rw [if_pos h92]
        have b1 : (t[0].toNat : Int) = 92 := by rw [gn]; omega
        have z2 : 1 < t.size := by
          rcases hs with ⟨_, h⟩ | ⟨h, _⟩ | ⟨h, _⟩
          · omega
          · omega
          · exact absurd h92 h
        have g2 : (1 : Int) < t.size := by omega
        have gn1 := getN z2
        have e1 : decide (byteN t (0 + 1) = c) = ((t[1].toNat : Int) == (c : Int)) := by
          rw [gn1, Nat.zero_add]
          rw [Bool.eq_iff_iff]
          simp
          omega
        rw [e1]
        clear gn gn1 e1 n46 n91 hs
        go_enter Tryz.func245, Tryz.ntmps245
        go_wp2
        go_ret
        exact ⟨rfl, rfl⟩
      · rw [if_neg h92]
        have n92 : ((t[0].toNat : Int) == 92) = false := by rw [gn]; simp; omega
        have e1 : decide (byteN t 0 = c) = ((t[0].toNat : Int) == (c : Int)) := by
          rw [gn]
          rw [Bool.eq_iff_iff]
          simp
          omega
        rw [e1]
        clear gn e1 hs
        go_enter Tryz.func245, Tryz.ntmps245
        go_wp2
        go_ret
        exact ⟨rfl, rfl⟩

end Go.Proofs.YtakbfoegkjaphaaGreatDoor

namespace Go.Proofs.YtakbfoegkjaphaaGreatDoor
open Go.RowKit

/-- The block b holds the relation R of the places 0 to N. -/
def HasR (W : World) (N b : Nat) (R : RelN) : Prop := ∃ r, RelAt W N b r ∧ ∀ i j, i ≤ N → j ≤ N → (r i j = true ↔ R i j)
theorem HasR.fr {S : List Nat} {W W' : World} {N b : Nat} {R : RelN} (h : HasR W N b R) (hf : Fr S W W') (hb : b ∉ S) : HasR W' N b R := by
  obtain ⟨r, h1, h2⟩ := h
  exact ⟨r, h1.fr hf hb, h2⟩
theorem HasR.lt {W : World} {N b : Nat} {R : RelN} (h : HasR W N b R) : b < W.heap.size := by obtain ⟨r, h1, _⟩ := h; exact h1.lt

/-- A relation is answered, in new memory. -/
def GivesR (w : World) (N : Nat) (R : RelN) (e : Ending) (w' : World) : Prop := ∃ b, w.heap.size ≤ b ∧ e = .returned (relV N b) ∧ HasR w' N b R ∧ Fr [] w w'

theorem noneH (N : Nat) (w : World) (hN : N ≤ 100) : Calls Tryz.prog 189 #[.int .i64 N] w (GivesR w N (fun _ _ => False)) :=
  (none_any N w hN).mono fun e w' ⟨b, h1, h2, h3, h4⟩ => ⟨b, h1, h2, ⟨_, h3, fun _ _ _ _ => by simp⟩, h4⟩
theorem sameH (N : Nat) (w : World) (hN : N ≤ 100) : Calls Tryz.prog 223 #[.int .i64 N] w (GivesR w N (sameN N)) :=
  (same_any' N w hN).mono fun e w' ⟨b, h1, h2, h3, h4⟩ => ⟨b, h1, h2, ⟨_, h3, fun i j hi hj => by simp [sameN, hi]; exact eq_comm⟩, h4⟩
theorem eitherH (N ba bb : Nat) (Ra Rb : RelN) (w : World) (hN : N ≤ 100) (ha : HasR w N ba Ra) (hb : HasR w N bb Rb) : Calls Tryz.prog 191 #[relV N ba, relV N bb] w (GivesR w N (eitherN Ra Rb)) := by
  obtain ⟨ra, a1, a2⟩ := ha
  obtain ⟨rb, b1, b2⟩ := hb
  exact (eitherR_any N ba bb ra rb w hN a1 b1).mono fun e w' ⟨b, h1, h2, h3, h4⟩ => ⟨b, h1, h2, ⟨_, h3, fun i j hi hj => by
    rw [Bool.or_eq_true, a2 i j hi hj, b2 i j hi hj]; rfl⟩, h4⟩
theorem behindH (N ba bb : Nat) (Ra Rb : RelN) (w : World) (hN : N ≤ 100) (da : BdN N Ra) (db : BdN N Rb) (ha : HasR w N ba Ra) (hb : HasR w N bb Rb) : Calls Tryz.prog 226 #[relV N ba, relV N bb] w (GivesR w N (behindN Ra Rb)) := by
  obtain ⟨ra, a1, a2⟩ := ha
  obtain ⟨rb, b1, b2⟩ := hb
  refine (behindR_any N ba bb ra rb w hN a1 b1).mono fun e w' ⟨b, h1, h2, h3, h4⟩ => ⟨b, h1, h2, ⟨_, h3, fun i j hi hj => ?_⟩, h4⟩
  rw [behB_iff]
  constructor
  · rintro (⟨_, m, g1, g2, g3, g4, g5⟩ | ⟨g, _⟩)
    · exact ⟨m, (a2 i m hi g1).1 g4, (b2 m j g1 hj).1 g5⟩
    · omega
  · rintro ⟨m, g1, g2⟩
    have k1 := da i m g1
    have k2 := db m j g2
    exact .inl ⟨by omega, m, k1.2, k1.1, k2.1, (a2 i m hi k1.2).2 g1, (b2 m j k1.2 hj).2 g2⟩

theorem oftB_via {N : Nat} {r : Nat → Nat → Bool} {R : RelN} (hd : BdN N R) (hr : ∀ i j, i ≤ N → j ≤ N → (r i j = true ↔ R i j)) : ∀ k, k ≤ N + 1 → ∀ i j, i ≤ N → j ≤ N → (oftB r k i j = true ↔ Via R k i j)
  | 0, _, i, j, hi, hj => by
    rw [oftB, Bool.or_eq_true, hr i j hi hj, decide_eq_true_eq, Via.zero]
    exact or_comm
  | k + 1, hk, i, j, hi, hj => by
    have ih := oftB_via hd hr k (by omega)
    rw [oftB, Bool.or_eq_true, Bool.and_eq_true, Bool.and_eq_true, Bool.and_eq_true, decide_eq_true_eq, decide_eq_true_eq, ih i j hi hj, ih i k hi (by omega), ih k j (by omega) hj, Via.succ]
    refine or_congr Iff.rfl ⟨fun h => ⟨h.1.2, h.2⟩, fun h => ?_⟩
    obtain ⟨n1, g1⟩ := h.1
    obtain ⟨n2, g2⟩ := h.2
    exact ⟨⟨⟨Via.bd (fun a c q => (hd a c q).1) n1 i k g1, Via.bd (fun a c q => (hd a c q).1) n2 k j g2⟩, h.1⟩, h.2⟩
theorem oftenH (N ba : Nat) (Ra : RelN) (w : World) (hN : N ≤ 100) (da : BdN N Ra) (ha : HasR w N ba Ra) : Calls Tryz.prog 225 #[relV N ba] w (GivesR w N (oftenN N Ra)) := by
  obtain ⟨ra, a1, a2⟩ := ha
  refine (oftenR_any N ba ra w hN a1).mono fun e w' ⟨b, h1, h2, h3, h4⟩ => ⟨b, h1, h2, ⟨_, h3, fun i j hi hj => ?_⟩, h4⟩
  rw [oftB_via da a2 (N + 1) (Nat.le_refl _) i j hi hj, via_star (fun a c q => (da a c q).2)]
  exact ⟨fun h => ⟨hi, h⟩, fun h => h.2⟩

section
variable {t x : ByteArray}

theorem bd_star {N : Nat} {R : RelN} (h : BdN N R) : BdN N (oftenN N R) := by
  rintro i j ⟨hi, n, hc⟩
  induction n generalizing i with
  | zero => cases hc; exact ⟨Nat.le_refl _, hi⟩
  | succ n ih =>
    obtain ⟨k, h1, h2⟩ := hc
    have g := h i k h1
    have := ih k g.2 h2
    omega
theorem bd_behind {N : Nat} {R1 R2 : RelN} (h1 : BdN N R1) (h2 : BdN N R2) : BdN N (behindN R1 R2) := by
  rintro i j ⟨k, g1, g2⟩
  have := h1 i k g1
  have := h2 k j g2
  omega
theorem bd_either {N : Nat} {R1 R2 : RelN} (h1 : BdN N R1) (h2 : BdN N R2) : BdN N (eitherN R1 R2) := by
  rintro i j (g | g)
  · exact h1 i j g
  · exact h2 i j g
theorem bd_same (N : Nat) : BdN N (sameN N) := by rintro i j ⟨h, rfl⟩; omega
theorem bd_mark {N c : Nat} {R : RelN} (h : BdN N R) : BdN N (markN N c R) := by
  unfold markN
  split
  · exact bd_star h
  · split
    · exact bd_behind h (bd_star h)
    · exact bd_either h (bd_same N)
theorem bd_marks : ∀ n j e R1 R, marksD t x n j e R1 R → BdN x.size R1 → BdN x.size R
  | 0, j, e, R1, R, h, hb => by rw [h.2]; exact hb
  | n + 1, j, e, R1, R, h, hb => bd_marks n (j + 1) e _ R h.2.2 (bd_mark hb)
theorem bd_row {D : Nat → Nat → RelN → Prop} (hD : ∀ a e R, D a e R → BdN x.size R) : ∀ n a e R, rowD t x D n a e R → BdN x.size R
  | 0, a, e, R, h => by rw [h.2]; exact bd_same _
  | n + 1, a, e, R, ⟨mid, R1, R2, ⟨j, Ra, k, h0, h1, h2⟩, _, h4, h5⟩ => by rw [h5]; exact bd_behind (bd_marks k j mid Ra R1 h2 (hD _ _ _ h1)) (bd_row hD n mid e R2 h4)
theorem bd_choice {D : Nat → Nat → RelN → Prop} (hD : ∀ a e R, D a e R → BdN x.size R) : ∀ n a e R, choiceD t x D n a e R → BdN x.size R
  | 0, a, e, R, h => h.elim
  | n + 1, a, e, R, ⟨mid, R1, k, h1, h2⟩ => by
    rcases h2 with ⟨_, h2⟩ | ⟨_, _, R2, h3, h4⟩
    · rw [h2]; exact bd_row hD k a mid R1 h1
    · rw [h4]; exact bd_either (bd_row hD k a mid R1 h1) (bd_choice hD n (mid + 1) e R2 h3)
theorem bd_atom : ∀ n a e R, atomD t x n a e R → BdN x.size R
  | 0, a, e, R, h => h.elim
  | n + 1, a, e, R, h => by
    rw [atomD] at h
    rcases h.2.2.2.2.2 with ⟨_, _, _, k, g4⟩ | ⟨_, _, g3⟩ | ⟨_, _, g3⟩ | ⟨_, _, _, _, g5⟩
    · exact bd_choice (bd_atom n) k _ _ R g4
    · rw [g3]; rintro i j ⟨rfl, rfl⟩; omega
    · rw [g3]; rintro i j ⟨rfl, rfl⟩; omega
    · rw [g5]; rintro i j ⟨h1, _, rfl⟩; omega

end
end Go.Proofs.YtakbfoegkjaphaaGreatDoor

namespace Go.Proofs.YtakbfoegkjaphaaGreatDoor
open Go.RowKit

def GivesS (w : World) (N S : Nat) (R : RelN) (e : Ending) (w' : World) : Prop := ∃ b, w.heap.size ≤ b ∧ e = .returned (.agg #[.int .i64 N, .slice (some ⟨b, 0, none⟩) S S]) ∧ HasR w' N b R ∧ Fr [] w w'
theorem givesS {f : FuncId} {args : Array Value} {w : World} {N S : Nat} {R : RelN} (eS : (N + 1) * (N + 1) = S) (h : Calls Tryz.prog f args w (GivesR w N R)) : Calls Tryz.prog f args w (GivesS w N S R) :=
  h.mono fun e w' ⟨b, h1, h2, h3, h4⟩ => ⟨b, h1, by rw [h2]; unfold relV; rw [eS], h3, h4⟩

def ChoiceSays (n : Nat) : Prop := ∀ (t x : ByteArray) (k : Nat) (R : RelN) (w : World), t.size ≤ 50 → x.size ≤ 100 → choiceD t x (atomD t x n) k 0 t.size R → Calls Tryz.prog 129 #[.string t, .string x] w (GivesR w x.size R)
def RowSays (n : Nat) : Prop := ∀ (t x : ByteArray) (k : Nat) (R : RelN) (w : World), t.size ≤ 50 → x.size ≤ 100 → rowD t x (atomD t x n) k 0 t.size R → Calls Tryz.prog 190 #[.string t, .string x] w (GivesR w x.size R)
def AtomSays (n : Nat) : Prop := ∀ (t x : ByteArray) (R : RelN) (w : World), t.size ≤ 50 → x.size ≤ 100 → atomD t x n 0 t.size R → Calls Tryz.prog 224 #[.string t, .string x] w (GivesR w x.size R)

theorem one_byte {t : ByteArray} {c : UInt8} (h1 : t.size = 1) (h2 : byteN t 0 = c.toNat) : t = ⟨#[c]⟩ := by
  obtain ⟨⟨l⟩⟩ := t
  match l, h1 with
  | [a], _ =>
    have : a.toNat = c.toNat := h2
    rw [UInt8.toNat_inj.1 this]

/-- The result's two cells, stored. -/
theorem res_facts {W : World} {c : Nat} {v0 v1 u0 : Value} (h : Own2 W c v0 v1) : (∀ v, (W.setCell ⟨c, 0, none⟩ v).cell? ⟨c, 1, none⟩ = some v1) ∧ (∀ v, (W.setCell ⟨c, 0, none⟩ v).frozen? ⟨c, 1, none⟩ = false) ∧
    (∀ v, ((W.setCell ⟨c, 0, none⟩ u0).setCell ⟨c, 1, none⟩ v).cell? ⟨c, 0, none⟩ = some u0) ∧ (∀ v, ((W.setCell ⟨c, 0, none⟩ u0).setCell ⟨c, 1, none⟩ v).cell? ⟨c, 1, none⟩ = some v) := by
  refine ⟨fun v => (setCell_off (by decide)).trans h.c1, fun v => (World.frozen?_setCell _ _ _ _).trans h.z1, fun v => (setCell_off (by decide)).trans (World.cell?_setCell_same' _ _ _ (by rw [h.c0]; rfl)), fun v => World.cell?_setCell_same' _ _ _ (by rw [setCell_off (by decide), h.c1]; rfl)⟩
theorem res_fr {W : World} {c : Nat} (u0 u1 : Value) : Fr [c] W ((W.setCell ⟨c, 0, none⟩ u0).setCell ⟨c, 1, none⟩ u1) :=
  ((Fr.refl _ _).setCell (p := ⟨c, 0, none⟩) (.inl (by simp)) _).setCell (p := ⟨c, 1, none⟩) (.inl (by simp)) _

set_option maxRecDepth 100000 in
set_option maxHeartbeats 2000000 in
theorem atom_group_R (n : Nat) (hC : ChoiceSays n) (t x : ByteArray) (k : Nat) (R : RelN) (w : World) (ht : t.size ≤ 50) (hx : x.size ≤ 100) (h0 : byteN t 0 = 40) (h2 : 2 ≤ t.size) (hc : choiceD t x (atomD t x n) k 1 (t.size - 1) R) :
    Calls Tryz.prog 224 #[.string t, .string x] w (GivesR w x.size R) := by
  have sub := sub_extract t 1 (t.size - 1) (by omega) (by omega)
  have us : (t.extract 1 (t.size - 1)).size = t.size - 1 - 1 := by rw [ByteArray.size_extract]; omega
  have hc2 : choiceD (t.extract 1 (t.size - 1)) x (atomD (t.extract 1 (t.size - 1)) x n) k 0 (t.extract 1 (t.size - 1)).size R := by
    refine sub.choice (sub.atom n) k 0 _ R ?_ (by omega)
    rw [show 1 + 0 = 1 from rfl, show 1 + (t.extract 1 (t.size - 1)).size = t.size - 1 by omega]
    exact hc
  obtain ⟨S, eS⟩ : ∃ S, (x.size + 1) * (x.size + 1) = S := ⟨_, rfl⟩
  have hcall := fun W => givesS eS (hC (t.extract 1 (t.size - 1)) x k R W (by omega) hx hc2)
  have hv : ∀ b, relV x.size b = .agg #[.int .i64 x.size, .slice (some ⟨b, 0, none⟩) S S] := fun b => by unfold relV; rw [eS]
  have hl : 0 < t.size := by omega
  have gn := getN hl
  have b1 : (t[0].toNat : Int) = 40 := by rw [gn]; omega
  have g1 : (0 : Int) < t.size := by omega
  have g3 : (1 : Int) ≤ (t.size : Int) - 1 := by omega
  have o1 := Own2.new w (.int .i64 0) (.slice none 0 0) 237
  have Hc : Hid _ := hcall
  have Hv : Hid _ := hv
  clear gn hcall hc hc2 sub us eS hv
  go_enter Tryz.func224, Tryz.ntmps224
  go_wp2_with fail
  refine (Hc.out _).mono ?_
  rintro e w1 ⟨b, hb, rfl, hr, f1⟩
  rw [World.size_alloc] at hb
  have p1 := o1.fr f1 (by simp)
  have c0 := p1.c0
  have c1 := p1.c1
  have z0 := p1.z0
  have z1 := p1.z1
  obtain ⟨q1, q2, q3, q4⟩ := res_facts (u0 := .int .i64 x.size) p1
  have ff := res_fr (W := w1) (c := w.heap.size) (.int .i64 x.size) (.slice (some ⟨b, 0, none⟩) S S)
  have hfin := hr.fr ff (by simp; omega)
  have hfr : Fr [] w ((w1.setCell ⟨w.heap.size, 0, none⟩ (.int .i64 x.size)).setCell ⟨w.heap.size, 1, none⟩ (.slice (some ⟨b, 0, none⟩) S S)) := (((Fr.refl [] w).alloc _).trans f1).trans' ff (by simp)
  clear o1 p1 hr f1 ff
  go_wp2
  exact bodyPost_ret (v := .agg #[.int .i64 x.size, .slice (some ⟨b, 0, none⟩) S S]) (by simp [results, Tryz.results224, go_sem, q3, q4]) rfl ⟨b, by omega, by rw [Hv.out], hfin, hfr⟩

end Go.Proofs.YtakbfoegkjaphaaGreatDoor

