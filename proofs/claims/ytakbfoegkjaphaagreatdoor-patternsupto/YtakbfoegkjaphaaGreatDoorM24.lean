/-
  The document's relations: behind. The document's relations: behind, walked. The document's relations: often, by the places that lie between, one after the other. The document's relations: often, walked.
-/
import Derived.Test.YtakbfoegkjaphaaGreatDoorM23
import Derived.Test.YtakbfoegkjaphaaGreatDoorM21
import Derived.Deep.RegionHeld3
import Derived.Deep.RegionHeld
set_option linter.unusedSimpArgs false
set_option linter.unusedVariables false
namespace Go.Proofs.YtakbfoegkjaphaaGreatDoor
open Go.RowKit

/-- first a, then b: of the pairs that were looked at: all with i' below i, those of i with k' below k, those of i and k (if a has it) with j' below j. -/
def behB (ra rb : Nat → Nat → Bool) (N i k : Nat) : Nat → Nat → Bool := fun a c =>
  (decide (a < i) && (List.range (N + 1)).any (fun m => decide (a ≤ m) && decide (m ≤ c) && ra a m && rb m c)) || (decide (a = i) && (List.range (N + 1)).any (fun m => decide (a ≤ m) && decide (m < k) && decide (m ≤ c) && ra a m && rb m c))

structure BehI (w : World) (N S ba bb b c : Nat) (ra rb r : Nat → Nat → Bool) (W : World) : Prop where
  ra : RelAt W N ba ra
  rb : RelAt W N bb rb
  rr : RelAt W N b r
  oa : Own2 W w.heap.size (.int .i64 N) (.slice (some ⟨ba, 0, none⟩) S S)
  ob : Own2 W (w.heap.size + 1) (.int .i64 N) (.slice (some ⟨bb, 0, none⟩) S S)
  res : Own2 W (w.heap.size + 1 + 1) (.int .i64 0) (.slice none 0 0)
  own : Own2 W c (.int .i64 N) (.slice (some ⟨b, 0, none⟩) S S)
  fr : Fr [] w W
  hb : w.heap.size + 1 + 1 < b
  hc : b < c
  ha : ba < w.heap.size
  hbb : bb < w.heap.size

theorem BehI.kept {w : World} {N S ba bb b c : Nat} {ra rb r : Nat → Nat → Bool} {W W' : World} (h : BehI w N S ba bb b c ra rb r W) (hf : Fr [] W W') : BehI w N S ba bb b c ra rb r W' :=
  ⟨h.ra.fr hf (by simp), h.rb.fr hf (by simp), h.rr.fr hf (by simp), h.oa.fr hf (by simp), h.ob.fr hf (by simp), h.res.fr hf (by simp), h.own.fr hf (by simp), h.fr.trans hf, h.hb, h.hc, h.ha, h.hbb⟩
theorem BehI.put {w : World} {N S ba bb b c : Nat} {ra rb r r' : Nat → Nat → Bool} {W W' : World} (h : BehI w N S ba bb b c ra rb r W) (hf : Fr [b] W W') (hr : RelAt W' N b r') : BehI w N S ba bb b c ra rb r' W' := by
  have h1 := h.hb
  have h2 := h.hc
  have h3 := h.ha
  have h4 := h.hbb
  exact ⟨h.ra.fr hf (by simp; omega), h.rb.fr hf (by simp; omega), hr, h.oa.fr hf (by simp; omega), h.ob.fr hf (by simp; omega), h.res.fr hf (by simp; omega), h.own.fr hf (by simp; omega), h.fr.trans' hf (by simp; omega), h1, h2, h3, h4⟩
theorem BehI.congr {w : World} {N S ba bb b c : Nat} {ra rb r r' : Nat → Nat → Bool} {W : World} (h : BehI w N S ba bb b c ra rb r W) (hr : ∀ i j, i ≤ N → j ≤ N → r i j = r' i j) : BehI w N S ba bb b c ra rb r' W :=
  ⟨h.ra, h.rb, ⟨fun i j hi hj => by rw [← hr i j hi hj]; exact h.rr.c i j hi hj, h.rr.z⟩, h.oa, h.ob, h.res, h.own, h.fr, h.hb, h.hc, h.ha, h.hbb⟩

/-- The pairs of one i and k, with j' below j. -/
def behJ (ra rb : Nat → Nat → Bool) (N i k j : Nat) : Nat → Nat → Bool := fun a c => behB ra rb N i k a c || (decide (a = i) && decide (k ≤ c) && decide (c < j) && ra i k && rb k c)

theorem behJ_start (ra rb : Nat → Nat → Bool) (N i k a c : Nat) : behJ ra rb N i k k a c = behB ra rb N i k a c := by
  unfold behJ
  have : (decide (k ≤ c) && decide (c < k)) = false := by
    rw [Bool.and_eq_false_iff, decide_eq_false_iff_not, decide_eq_false_iff_not]; omega
  rw [Bool.and_assoc (decide (a = i)), this]
  simp

theorem any_iff (N : Nat) (P : Nat → Bool) : (List.range (N + 1)).any P = true ↔ ∃ m, m ≤ N ∧ P m = true := by
  simp only [List.any_eq_true, List.mem_range]
  constructor
  · rintro ⟨m, h1, h2⟩; exact ⟨m, by omega, h2⟩
  · rintro ⟨m, h1, h2⟩; exact ⟨m, by omega, h2⟩

theorem behB_iff (ra rb : Nat → Nat → Bool) (N i k a c : Nat) : behB ra rb N i k a c = true ↔ (a < i ∧ ∃ m, m ≤ N ∧ a ≤ m ∧ m ≤ c ∧ ra a m = true ∧ rb m c = true) ∨ (a = i ∧ ∃ m, m ≤ N ∧ a ≤ m ∧ m < k ∧ m ≤ c ∧ ra a m = true ∧ rb m c = true) := by
  unfold behB
  simp only [Bool.or_eq_true, Bool.and_eq_true, decide_eq_true_eq, any_iff, and_assoc]
theorem behJ_iff (ra rb : Nat → Nat → Bool) (N i k j a c : Nat) : behJ ra rb N i k j a c = true ↔ behB ra rb N i k a c = true ∨ (a = i ∧ k ≤ c ∧ c < j ∧ ra i k = true ∧ rb k c = true) := by
  unfold behJ
  simp only [Bool.or_eq_true, Bool.and_eq_true, decide_eq_true_eq, and_assoc]

/-- One k is done. -/
theorem behJ_done (ra rb : Nat → Nat → Bool) (N i k a c : Nat) (hik : i ≤ k) (hk : k ≤ N) (hc : c ≤ N) : behJ ra rb N i k (N + 1) a c = behB ra rb N i (k + 1) a c := by
  rw [Bool.eq_iff_iff, behJ_iff, behB_iff, behB_iff]
  constructor
  · rintro ((h | ⟨rfl, m, h1, h2, h3, h4⟩) | ⟨rfl, h1, h2, h3, h4⟩)
    · exact .inl h
    · exact .inr ⟨rfl, m, h1, h2, by omega, h4⟩
    · exact .inr ⟨rfl, k, hk, hik, by omega, h1, h3, h4⟩
  · rintro (h | ⟨rfl, m, h1, h2, h3, h4⟩)
    · exact .inl (.inl h)
    · rcases Nat.lt_or_ge m k with e | e
      · exact .inl (.inr ⟨rfl, m, h1, h2, e, h4⟩)
      · obtain rfl : m = k := by omega
        exact .inr ⟨rfl, h4.1, by omega, h4.2.1, h4.2.2⟩
theorem behB_skip (ra rb : Nat → Nat → Bool) (N i k a c : Nat) (h : ra i k = false) : behB ra rb N i k a c = behB ra rb N i (k + 1) a c := by
  rw [Bool.eq_iff_iff, behB_iff, behB_iff]
  refine or_congr Iff.rfl ⟨?_, ?_⟩
  · rintro ⟨rfl, m, h1, h2, h3, h4⟩; exact ⟨rfl, m, h1, h2, by omega, h4⟩
  · rintro ⟨rfl, m, h1, h2, h3, h4⟩
    rcases Nat.lt_or_ge m k with e | e
    · exact ⟨rfl, m, h1, h2, e, h4⟩
    · obtain rfl : m = k := by omega
      rw [h] at h4; exact absurd h4.2.1 (by decide)
theorem behB_row (ra rb : Nat → Nat → Bool) (N i a c : Nat) : behB ra rb N i (N + 1) a c = behB ra rb N (i + 1) (i + 1) a c := by
  rw [Bool.eq_iff_iff, behB_iff, behB_iff]
  constructor
  · rintro (⟨h, m, h1⟩ | ⟨rfl, m, h1, h2, h3, h4⟩)
    · exact .inl ⟨by omega, m, h1⟩
    · exact .inl ⟨by omega, m, h1, h2, h4⟩
  · rintro (⟨h, m, h1, h2⟩ | ⟨rfl, m, h1, h2, h3, h4⟩)
    · rcases Nat.lt_or_ge a i with e | e
      · exact .inl ⟨e, m, h1, h2⟩
      · exact .inr ⟨by omega, m, h1, h2.1, by omega, h2.2⟩
    · omega
theorem behB_zero (ra rb : Nat → Nat → Bool) (N a c : Nat) : behB ra rb N 0 0 a c = false := by
  rw [Bool.eq_false_iff]
  intro h
  rcases (behB_iff ra rb N 0 0 a c).1 h with ⟨h, _⟩ | ⟨_, m, _, _, h, _⟩ <;> omega

end Go.Proofs.YtakbfoegkjaphaaGreatDoor

namespace Go.Proofs.YtakbfoegkjaphaaGreatDoor
open Go.RowKit

set_option maxRecDepth 100000 in
set_option maxHeartbeats 4000000 in
theorem behindR_any (N ba bb : Nat) (ra rb : Nat → Nat → Bool) (w : World) (hN : N ≤ 100) (ha : RelAt w N ba ra) (hb : RelAt w N bb rb) :
    Calls Tryz.prog 226 #[relV N ba, relV N bb] w fun e w' => ∃ b, w.heap.size ≤ b ∧ e = .returned (relV N b) ∧ RelAt w' N b (behB ra rb N (N + 1) (N + 1)) ∧ Fr [] w w' := by
  have la := ha.lt
  have lb := hb.lt
  obtain ⟨S, eS⟩ : ∃ S, (N + 1) * (N + 1) = S := ⟨_, rfl⟩
  have hn := fun W => none_any N W hN
  have Hp : Hid _ := fun (b : Nat) (r : Nat → Nat → Bool) (i k : Nat) (W : World) (h : RelAt W N b r) (hi : i ≤ N) (hk : k ≤ N) => put_any N b i k r W h hN hi hk
  have Ha : Hid _ := fun (b : Nat) (r : Nat → Nat → Bool) (i k : Nat) (W : World) (h : RelAt W N b r) (hi : i ≤ N) (hk : k ≤ N) => at_any N b i k r W h hN hi hk
  have hv : ∀ b, relV N b = .agg #[.int .i64 N, .slice (some ⟨b, 0, none⟩) S S] := fun b => by unfold relV; rw [eS]
  simp only [hv] at hn Hp Ha ⊢
  clear hv eS
  have Hn : Hid _ := hn
  clear hn
  go_enter Tryz.func226, Tryz.ntmps226
  go_wp2_with fail
  refine (Hn.out _).mono ?_
  rintro e w1 ⟨b, hbk, rfl, hr, f1⟩
  clear Hn
  simp only [World.size_alloc] at hbk
  have J0 : BehI w N S ba bb b w1.heap.size ra rb (behB ra rb N 0 0) (w1.alloc (.cells #[.int .i64 N, .slice (some ⟨b, 0, none⟩) S S] 237)) := by
    have f2 : Fr [] w1 (w1.alloc (.cells #[.int .i64 N, .slice (some ⟨b, 0, none⟩) S S] 237)) := (Fr.refl [] w1).alloc _
    have f0 : Fr [] w (((w.alloc (.cells #[.int .i64 N, .slice (some ⟨ba, 0, none⟩) S S] 237)).alloc (.cells #[.int .i64 N, .slice (some ⟨bb, 0, none⟩) S S] 237)).alloc (.cells #[.int .i64 0, .slice none 0 0] 237)) := (((Fr.refl [] w).alloc _).alloc _).alloc _
    have fw := (f0.trans f1).trans f2
    have o1 := Own2.new w (.int .i64 N) (.slice (some ⟨ba, 0, none⟩) S S) 237
    have o2 := Own2.new (w.alloc (.cells #[.int .i64 N, .slice (some ⟨ba, 0, none⟩) S S] 237)) (.int .i64 N) (.slice (some ⟨bb, 0, none⟩) S S) 237
    have o3 := Own2.new ((w.alloc (.cells #[.int .i64 N, .slice (some ⟨ba, 0, none⟩) S S] 237)).alloc (.cells #[.int .i64 N, .slice (some ⟨bb, 0, none⟩) S S] 237)) (.int .i64 0) (.slice none 0 0) 237
    simp only [World.size_alloc] at o2 o3
    have o1' := o1.fr (((Fr.refl [] _).alloc (.cells #[.int .i64 N, .slice (some ⟨bb, 0, none⟩) S S] 237)).alloc (.cells #[.int .i64 0, .slice none 0 0] 237)) (by simp)
    have o2' := o2.fr ((Fr.refl [] _).alloc (.cells #[.int .i64 0, .slice none 0 0] 237)) (by simp)
    refine ⟨ha.fr fw (by simp), hb.fr fw (by simp), ?_, (o1'.fr f1 (by simp)).fr f2 (by simp), (o2'.fr f1 (by simp)).fr f2 (by simp), (o3.fr f1 (by simp)).fr f2 (by simp), Own2.new w1 _ _ 237, fw, by omega, hr.lt, la, lb⟩
    have := hr.fr f2 (by simp)
    exact ⟨fun i j hi hj => by rw [this.c i j hi hj, behB_zero], this.z⟩
  go_wp2
  generalize w1.alloc (.cells #[.int .i64 N, .slice (some ⟨b, 0, none⟩) S S] 237) = w2 at *
  generalize w1.heap.size = c at *
  clear hr f1 ha hb
  go_loopw [6] (fun i wr => ∃ I : Nat, I ≤ N + 1 ∧ i = .int .i64 I ∧ BehI w N S ba bb b c ra rb (behB ra rb N I I) wr) (fun i _ => N + 1 - (intOf i).toNat)
  case atStart => exact ⟨0, by omega, rfl, J0⟩
  case round =>
    obtain ⟨I, hI, rfl, J⟩ := hrel
    clear J0
    have a0 := J.oa.c0
    have hb1 := J.hb
    have hc1 := J.hc
    by_cases hlt : I ≤ N
    · have g1 : (I : Int) ≤ N := by omega
      go_wp2
      clear a0
      go_loopw [7] (fun i wr => ∃ K : Nat, I ≤ K ∧ K ≤ N + 1 ∧ i = .int .i64 K ∧ BehI w N S ba bb b c ra rb (behB ra rb N I K) wr) (fun i _ => N + 1 - (intOf i).toNat)
      case atStart => exact ⟨I, by omega, by omega, rfl, J⟩
      case round =>
        clear J
        obtain ⟨K, hIK, hK, rfl, J⟩ := hrel
        have a0 := J.oa.c0
        have a1 := J.oa.c1
        by_cases hlt2 : K ≤ N
        · have g2 : (K : Int) ≤ N := by omega
          have hat := Ha.out ba ra I K wr J.ra hlt hlt2
          go_wp2_with fail
          refine hat.mono ?_
          rintro e w3 ⟨rfl, f3⟩
          have J3 := J.kept f3
          clear hat J f3 a0 a1
          cases hv : ra I K with
          | false =>
            have J4 := J3.congr (fun i j hi hj => behB_skip ra rb N I K i j hv)
            clear J3
            go_wp2
            go_roundw
            case rel => exact ⟨K + 1, by omega, by omega, by go_num, J4⟩
            case measure => simp [intOf]; omega
          | true =>
            go_wp2
            go_loopw [8] (fun i wr => ∃ L : Nat, K ≤ L ∧ L ≤ N + 1 ∧ i = .int .i64 L ∧ BehI w N S ba bb b c ra rb (behJ ra rb N I K L) wr) (fun i _ => N + 1 - (intOf i).toNat)
            case atStart => exact ⟨K, by omega, by omega, rfl, J3.congr (fun i j hi hj => (behJ_start ra rb N I K i j).symm)⟩
            case round =>
              clear J3
              obtain ⟨L, hKL, hL, rfl, J⟩ := hrel
              have a0 := J.oa.c0
              have b0 := J.ob.c0
              have b1 := J.ob.c1
              have d0 := J.own.c0
              have d1 := J.own.c1
              by_cases hlt3 : L ≤ N
              · have g3 : (L : Int) ≤ N := by omega
                have hat := Ha.out bb rb K L wr J.rb hlt2 hlt3
                go_wp2_with fail
                refine hat.mono ?_
                rintro e w4 ⟨rfl, f4⟩
                have J4 := J.kept f4
                clear hat J f4 a0 b0 b1 d0 d1
                cases hv2 : rb K L with
                | false =>
                  have J5 := J4.congr (r' := behJ ra rb N I K (L + 1)) (fun i j hi hj => by
                    rw [Bool.eq_iff_iff, behJ_iff, behJ_iff]
                    refine or_congr Iff.rfl ⟨fun ⟨h1, h2, h3, h4, h5⟩ => ⟨h1, h2, by omega, h4, h5⟩, fun ⟨h1, h2, h3, h4, h5⟩ => ⟨h1, h2, ?_, h4, h5⟩⟩
                    rcases Nat.lt_or_ge j L with e | e
                    · exact e
                    · obtain rfl : j = L := by omega
                      rw [hv2] at h5; cases h5)
                  clear J4
                  go_wp2
                  go_roundw
                  case rel => exact ⟨L + 1, by omega, by omega, by go_num, J5⟩
                  case measure => simp [intOf]; omega
                | true =>
                  have hput := Hp.out b _ I L w4 J4.rr hlt hlt3
                  have d0 := J4.own.c0
                  have d1 := J4.own.c1
                  go_wp2_with fail
                  refine hput.mono ?_
                  rintro e w5 ⟨rfl, hr5, f5⟩
                  have J5 := (J4.put f5 hr5).congr (r' := behJ ra rb N I K (L + 1)) (fun i j hi hj => by
                    rw [Bool.eq_iff_iff, behJ_iff, Bool.or_eq_true, behJ_iff, Bool.and_eq_true, decide_eq_true_eq, decide_eq_true_eq]
                    constructor
                    · rintro ((h | ⟨h1, h2, h3, h4, h5⟩) | ⟨h1, h2⟩)
                      · exact .inl h
                      · exact .inr ⟨h1, h2, by omega, h4, h5⟩
                      · subst h1 h2; exact .inr ⟨rfl, by omega, by omega, hv, hv2⟩
                    · rintro (h | ⟨h1, h2, h3, h4, h5⟩)
                      · exact .inl (.inl h)
                      · rcases Nat.lt_or_ge j L with e | e
                        · exact .inl (.inr ⟨h1, h2, e, h4, h5⟩)
                        · exact .inr ⟨h1, by omega⟩)
                  clear J4 hput hr5 f5 d0 d1
                  go_wp2
                  go_roundw
                  case rel => exact ⟨L + 1, by omega, by omega, by go_num, J5⟩
                  case measure => simp [intOf]; omega
              · have g3 : ¬ ((L : Int) ≤ N) := by omega
                obtain rfl : L = N + 1 := by omega
                have J4 := J.congr (fun i j hi hj => behJ_done ra rb N I K i j hIK hlt2 hj)
                go_wp2
                go_roundw
                case rel => exact ⟨K + 1, by omega, by omega, by go_num, J4⟩
                case measure => simp [intOf]; omega
        · have g2 : ¬ ((K : Int) ≤ N) := by omega
          obtain rfl : K = N + 1 := by omega
          have J4 := J.congr (fun i j hi hj => behB_row ra rb N I i j)
          go_wp2
          go_roundw
          case rel => exact ⟨I + 1, by omega, by go_num, J4⟩
          case measure => simp [intOf]; omega
    · have g1 : ¬ ((I : Int) ≤ N) := by omega
      have r0 := J.res.c0
      have r1 := J.res.c1
      have q0 := J.res.z0
      have q1 := J.res.z1
      have p0 := J.own.c0
      have p1 := J.own.c1
      have r1' := fun v => (setCell_off (w := wr) (b := w.heap.size + 1 + 1) (i := 0) (j := 1) (v := v) (by decide)).trans r1
      have q1' := fun v => (World.frozen?_setCell wr ⟨w.heap.size + 1 + 1, 0, none⟩ ⟨w.heap.size + 1 + 1, 1, none⟩ v).trans q1
      have hs0 : ∀ v : Value, ((wr.setCell ⟨w.heap.size + 1 + 1, 0, none⟩ (.int .i64 N)).setCell ⟨w.heap.size + 1 + 1, 1, none⟩ v).cell? ⟨w.heap.size + 1 + 1, 0, none⟩ = some (.int .i64 N) := fun v =>
        (setCell_off (by decide)).trans (World.cell?_setCell_same' _ _ _ (by rw [r0]; rfl))
      have hs1 : ∀ v : Value, ((wr.setCell ⟨w.heap.size + 1 + 1, 0, none⟩ (.int .i64 N)).setCell ⟨w.heap.size + 1 + 1, 1, none⟩ v).cell? ⟨w.heap.size + 1 + 1, 1, none⟩ = some v := fun v =>
        World.cell?_setCell_same' _ _ _ (by rw [r1']; rfl)
      go_wp2
      have ff : Fr [w.heap.size + 1 + 1] wr ((wr.setCell ⟨w.heap.size + 1 + 1, 0, none⟩ (.int .i64 N)).setCell ⟨w.heap.size + 1 + 1, 1, none⟩ (.slice (some ⟨b, 0, none⟩) S S)) :=
        ((Fr.refl _ _).setCell (p := ⟨w.heap.size + 1 + 1, 0, none⟩) (.inl (by simp)) _).setCell (p := ⟨w.heap.size + 1 + 1, 1, none⟩) (.inl (by simp)) _
      have hfin := J.rr.fr ff (by simp; omega)
      obtain rfl : I = N + 1 := by omega
      exact bodyPost_ret (v := .agg #[.int .i64 N, .slice (some ⟨b, 0, none⟩) S S]) (by simp [results, Tryz.results226, go_sem, hs0, hs1]) rfl ⟨b, by omega, rfl, hfin, J.fr.trans' ff (by simp; omega)⟩

end Go.Proofs.YtakbfoegkjaphaaGreatDoor

namespace Go.Proofs.YtakbfoegkjaphaaGreatDoor
open Go.RowKit

/-- A chain of which all places between lie below k. -/
def viaB (R : Nat → Nat → Prop) (k : Nat) : Nat → Nat → Nat → Prop
  | 0, i, j => i = j
  | 1, i, j => R i j
  | n + 2, i, j => ∃ m, m < k ∧ R i m ∧ viaB R k (n + 1) m j
/-- From i to j by places below k. -/
def Via (R : Nat → Nat → Prop) (k i j : Nat) : Prop := ∃ n, viaB R k n i j

theorem viaB_cons {R : Nat → Nat → Prop} {k i m j n : Nat} (hm : m < k) (h : R i m) (h2 : viaB R k n m j) : Via R k i j := by
  cases n with
  | zero => cases h2; exact ⟨1, h⟩
  | succ n => exact ⟨n + 2, m, hm, h, h2⟩
theorem Via.up {R : Nat → Nat → Prop} {k k' : Nat} (hk : k ≤ k') : ∀ n i j, viaB R k n i j → viaB R k' n i j
  | 0, _, _, h => h
  | 1, _, _, h => h
  | n + 2, i, j, ⟨m, h1, h2, h3⟩ => ⟨m, by omega, h2, Via.up hk (n + 1) m j h3⟩
theorem Via.app {R : Nat → Nat → Prop} {k m j : Nat} (hm : m < k) : ∀ n i, viaB R k n i m → Via R k m j → Via R k i j
  | 0, i, h, h2 => by cases h; exact h2
  | 1, i, h, ⟨n2, h2⟩ => viaB_cons hm h h2
  | n + 2, i, ⟨l, h1, h2, h3⟩, hv => by
    obtain ⟨n2, h4⟩ := Via.app hm (n + 1) l h3 hv
    exact viaB_cons h1 h2 h4
theorem Via.split {R : Nat → Nat → Prop} {k : Nat} : ∀ n i j, viaB R (k + 1) n i j → Via R k i j ∨ (Via R k i k ∧ Via R k k j)
  | 0, i, j, h => .inl ⟨0, h⟩
  | 1, i, j, h => .inl ⟨1, h⟩
  | n + 2, i, j, ⟨m, h1, h2, h3⟩ => by
    have ih := Via.split (n + 1) m j h3
    rcases Nat.lt_or_ge m k with e | e
    · rcases ih with ⟨n2, h4⟩ | ⟨⟨n2, h4⟩, h5⟩
      · exact .inl (viaB_cons e h2 h4)
      · exact .inr ⟨viaB_cons e h2 h4, h5⟩
    · obtain rfl : m = k := by omega
      rcases ih with h4 | ⟨_, h5⟩
      · exact .inr ⟨⟨1, h2⟩, h4⟩
      · exact .inr ⟨⟨1, h2⟩, h5⟩
theorem Via.succ {R : Nat → Nat → Prop} {k i j : Nat} : Via R (k + 1) i j ↔ Via R k i j ∨ (Via R k i k ∧ Via R k k j) := by
  constructor
  · rintro ⟨n, h⟩; exact Via.split n i j h
  · rintro (⟨n, h⟩ | ⟨⟨n, h⟩, ⟨n2, h2⟩⟩)
    · exact ⟨n, Via.up (by omega) n i j h⟩
    · exact Via.app (by omega) n i (Via.up (by omega) n i k h) ⟨n2, Via.up (by omega) n2 k j h2⟩
theorem Via.zero {R : Nat → Nat → Prop} {i j : Nat} : Via R 0 i j ↔ i = j ∨ R i j := by
  constructor
  · rintro ⟨n, h⟩
    match n, h with
    | 0, h => exact .inl h
    | 1, h => exact .inr h
    | n + 2, ⟨m, h1, _⟩ => omega
  · rintro (h | h)
    · exact ⟨0, h⟩
    · exact ⟨1, h⟩
theorem viaB_star {R : Nat → Nat → Prop} {k : Nat} : ∀ n i j, viaB R k n i j → Star R i j
  | 0, i, j, h => ⟨0, h⟩
  | 1, i, j, h => Star.head h (Star.refl j)
  | n + 2, i, j, ⟨m, _, h2, h3⟩ => Star.head h2 (viaB_star (n + 1) m j h3)
/-- Behind the last place: any number of times. -/
theorem via_star {R : Nat → Nat → Prop} {N i j : Nat} (hb : ∀ a c, R a c → c ≤ N) : Via R (N + 1) i j ↔ Star R i j := by
  constructor
  · rintro ⟨n, h⟩; exact viaB_star n i j h
  · rintro ⟨n, h⟩
    induction n generalizing i with
    | zero => exact ⟨0, h⟩
    | succ n ih =>
      obtain ⟨m, h1, h2⟩ := h
      obtain ⟨n2, h3⟩ := ih h2
      exact viaB_cons (by have := hb i m h1; omega) h1 h3
theorem Via.bd {R : Nat → Nat → Prop} {k : Nat} (hb : ∀ a c, R a c → a ≤ c) : ∀ n i j, viaB R k n i j → i ≤ j
  | 0, i, j, h => Nat.le_of_eq h
  | 1, i, j, h => hb i j h
  | n + 2, i, j, ⟨m, _, h2, h3⟩ => Nat.le_trans (hb i m h2) (Via.bd hb (n + 1) m j h3)

end Go.Proofs.YtakbfoegkjaphaaGreatDoor

namespace Go.Proofs.YtakbfoegkjaphaaGreatDoor
open Go.RowKit

/-- What often keeps. -/
structure OftI (w : World) (N S ba b c : Nat) (r : Nat → Nat → Bool) (W : World) : Prop where
  rr : RelAt W N b r
  oa : Own2 W w.heap.size (.int .i64 N) (.slice (some ⟨ba, 0, none⟩) S S)
  res : Own2 W (w.heap.size + 1) (.int .i64 0) (.slice none 0 0)
  own : Own2 W c (.int .i64 N) (.slice (some ⟨b, 0, none⟩) S S)
  fr : Fr [] w W
  hb : w.heap.size + 1 < b
  hc : b ≠ c
  hcc : w.heap.size + 1 < c

theorem OftI.kept {w : World} {N S ba b c : Nat} {r : Nat → Nat → Bool} {W W' : World} (h : OftI w N S ba b c r W) (hf : Fr [] W W') : OftI w N S ba b c r W' :=
  ⟨h.rr.fr hf (by simp), h.oa.fr hf (by simp), h.res.fr hf (by simp), h.own.fr hf (by simp), h.fr.trans hf, h.hb, h.hc, h.hcc⟩
theorem OftI.put {w : World} {N S ba b c : Nat} {r r' : Nat → Nat → Bool} {W W' : World} (h : OftI w N S ba b c r W) (hf : Fr [b] W W') (hr : RelAt W' N b r') : OftI w N S ba b c r' W' := by
  have h1 := h.hb
  have h2 := h.hc
  exact ⟨hr, h.oa.fr hf (by simp; omega), h.res.fr hf (by simp; omega), h.own.fr hf (by simp; omega), h.fr.trans' hf (by simp; omega), h1, h2, h.hcc⟩
theorem OftI.congr {w : World} {N S ba b c : Nat} {r r' : Nat → Nat → Bool} {W : World} (h : OftI w N S ba b c r W) (hr : ∀ i j, i ≤ N → j ≤ N → r i j = r' i j) : OftI w N S ba b c r' W :=
  ⟨⟨fun i j hi hj => by rw [← hr i j hi hj]; exact h.rr.c i j hi hj, h.rr.z⟩, h.oa, h.res, h.own, h.fr, h.hb, h.hc, h.hcc⟩

theorem OftI.start {w : World} {N S ba b c : Nat} {r : Nat → Nat → Bool} {W : World} (h1 : RelAt W N b r) (h2 : Own2 W w.heap.size (.int .i64 N) (.slice (some ⟨ba, 0, none⟩) S S)) (h3 : Own2 W (w.heap.size + 1) (.int .i64 0) (.slice none 0 0))
    (h4 : Own2 W c (.int .i64 0) (.slice none 0 0)) (h5 : Fr [] w W) (hb : w.heap.size + 1 < b) (hc : b ≠ c) (hcc : w.heap.size + 1 < c) :
    OftI w N S ba b c r ((W.setCell ⟨c, 0, none⟩ (.int .i64 N)).setCell ⟨c, 1, none⟩ (.slice (some ⟨b, 0, none⟩) S S)) := by
  have ff : Fr [c] W ((W.setCell ⟨c, 0, none⟩ (.int .i64 N)).setCell ⟨c, 1, none⟩ (.slice (some ⟨b, 0, none⟩) S S)) :=
    ((Fr.refl _ _).setCell (p := ⟨c, 0, none⟩) (.inl (by simp)) _).setCell (p := ⟨c, 1, none⟩) (.inl (by simp)) _
  refine ⟨h1.fr ff (by simpa using hc), h2.fr ff (by simp; omega), h3.fr ff (by simp; omega), ⟨?_, ?_, ?_, ?_⟩, h5.trans' ff (by simp; omega), hb, hc, hcc⟩
  · exact (setCell_off (by decide)).trans (World.cell?_setCell_same' _ _ _ (by rw [h4.c0]; rfl))
  · exact World.cell?_setCell_same' _ _ _ (by rw [setCell_off (by decide), h4.c1]; rfl)
  · exact (World.frozen?_setCell _ _ _ _).trans ((World.frozen?_setCell _ _ _ _).trans h4.z0)
  · exact (World.frozen?_setCell _ _ _ _).trans ((World.frozen?_setCell _ _ _ _).trans h4.z1)

theorem OftI.startA {w : World} {N S ba b : Nat} {r : Nat → Nat → Bool} {W : World} (h1 : RelAt W N b r) (h2 : Own2 W w.heap.size (.int .i64 N) (.slice (some ⟨ba, 0, none⟩) S S)) (h3 : Own2 W (w.heap.size + 1) (.int .i64 0) (.slice none 0 0))
    (h5 : Fr [] w W) (hb : w.heap.size + 1 < b) (hcc : w.heap.size + 1 < W.heap.size) :
    OftI w N S ba b W.heap.size r (W.alloc (.cells #[.int .i64 N, .slice (some ⟨b, 0, none⟩) S S] 237)) := by
  have ff : Fr [] W (W.alloc (.cells #[.int .i64 N, .slice (some ⟨b, 0, none⟩) S S] 237)) := (Fr.refl [] W).alloc _
  exact ⟨h1.fr ff (by simp), h2.fr ff (by simp), h3.fr ff (by simp), Own2.new W _ _ 237, h5.trans ff, hb, by have := h1.lt; omega, hcc⟩

/-- The relation when the places below k have been between, as a Boolean. -/
def oftB (r : Nat → Nat → Bool) : Nat → Nat → Nat → Bool
  | 0 => fun i j => r i j || decide (i = j)
  | k + 1 => fun i j => oftB r k i j || (decide (i ≤ k) && decide (k ≤ j) && oftB r k i k && oftB r k k j)
/-- In the round of k: rows below i are done; of row i those of j' below j. -/
def oftR (r : Nat → Nat → Bool) (k i j : Nat) : Nat → Nat → Bool := fun a c =>
  oftB r k a c || (decide (a ≤ k) && decide (k ≤ c) && (decide (a < i) || (decide (a = i) && decide (c < j))) && oftB r k a k && oftB r k k c)

theorem oftB_refl (r : Nat → Nat → Bool) (k i : Nat) : oftB r k i i = true := by
  induction k with
  | zero => simp [oftB]
  | succ k ih => simp [oftB, ih]
/-- The row and the column of k stay as they are in the round of k. -/
theorem oftR_row (r : Nat → Nat → Bool) (k i j c : Nat) : oftR r k i j k c = oftB r k k c := by
  unfold oftR
  cases h : oftB r k k c <;> simp [h]
theorem oftR_col (r : Nat → Nat → Bool) (k i j a : Nat) : oftR r k i j a k = oftB r k a k := by
  unfold oftR
  cases h : oftB r k a k <;> simp [h]

theorem oftR_start (r : Nat → Nat → Bool) (k a c : Nat) : oftR r k 0 k a c = oftB r k a c := by
  rw [Bool.eq_iff_iff]
  unfold oftR
  simp only [Bool.or_eq_true, Bool.and_eq_true, decide_eq_true_eq]
  constructor
  · rintro (h | ⟨⟨⟨⟨h1, h2⟩, h3 | ⟨h3, h4⟩⟩, h5⟩, h6⟩)
    · exact h
    · omega
    · omega
  · exact .inl
theorem oftR_skip (r : Nat → Nat → Bool) (k i a c : Nat) (h : oftB r k i k = false) : oftR r k i k a c = oftR r k (i + 1) k a c := by
  rw [Bool.eq_iff_iff]
  unfold oftR
  simp only [Bool.or_eq_true, Bool.and_eq_true, decide_eq_true_eq]
  refine or_congr Iff.rfl ⟨?_, ?_⟩
  · rintro ⟨⟨⟨⟨h1, h2⟩, h3 | ⟨h3, h4⟩⟩, h5⟩, h6⟩
    · exact ⟨⟨⟨⟨h1, h2⟩, .inl (by omega)⟩, h5⟩, h6⟩
    · omega
  · rintro ⟨⟨⟨⟨h1, h2⟩, h3 | ⟨h3, h4⟩⟩, h5⟩, h6⟩
    · rcases Nat.lt_or_ge a i with e | e
      · exact ⟨⟨⟨⟨h1, h2⟩, .inl e⟩, h5⟩, h6⟩
      · obtain rfl : a = i := by omega
        rw [h] at h5; cases h5
    · omega
theorem oftR_row_done (r : Nat → Nat → Bool) (N k i a c : Nat) (hc : c ≤ N) : oftR r k i (N + 1) a c = oftR r k (i + 1) k a c := by
  rw [Bool.eq_iff_iff]
  unfold oftR
  simp only [Bool.or_eq_true, Bool.and_eq_true, decide_eq_true_eq]
  refine or_congr Iff.rfl ⟨?_, ?_⟩
  · rintro ⟨⟨⟨⟨h1, h2⟩, h3 | ⟨h3, h4⟩⟩, h5⟩, h6⟩
    · exact ⟨⟨⟨⟨h1, h2⟩, .inl (by omega)⟩, h5⟩, h6⟩
    · exact ⟨⟨⟨⟨h1, h2⟩, .inl (by omega)⟩, h5⟩, h6⟩
  · rintro ⟨⟨⟨⟨h1, h2⟩, h3 | ⟨h3, h4⟩⟩, h5⟩, h6⟩
    · rcases Nat.lt_or_ge a i with e | e
      · exact ⟨⟨⟨⟨h1, h2⟩, .inl e⟩, h5⟩, h6⟩
      · exact ⟨⟨⟨⟨h1, h2⟩, .inr ⟨by omega, by omega⟩⟩, h5⟩, h6⟩
    · omega
theorem oftR_done (r : Nat → Nat → Bool) (k a c : Nat) : oftR r k (k + 1) k a c = oftB r (k + 1) a c := by
  rw [Bool.eq_iff_iff]
  unfold oftR
  rw [oftB]
  simp only [Bool.or_eq_true, Bool.and_eq_true, decide_eq_true_eq]
  refine or_congr Iff.rfl ⟨?_, ?_⟩
  · rintro ⟨⟨⟨⟨h1, h2⟩, h3⟩, h5⟩, h6⟩; exact ⟨⟨⟨h1, h2⟩, h5⟩, h6⟩
  · rintro ⟨⟨⟨h1, h2⟩, h5⟩, h6⟩; exact ⟨⟨⟨⟨h1, h2⟩, .inl (by omega)⟩, h5⟩, h6⟩
theorem oftR_j (r : Nat → Nat → Bool) (k i j a c : Nat) (h : oftB r k k j = false) : oftR r k i j a c = oftR r k i (j + 1) a c := by
  rw [Bool.eq_iff_iff]
  unfold oftR
  simp only [Bool.or_eq_true, Bool.and_eq_true, decide_eq_true_eq]
  refine or_congr Iff.rfl ⟨?_, ?_⟩
  · rintro ⟨⟨⟨⟨h1, h2⟩, h3 | ⟨h3, h4⟩⟩, h5⟩, h6⟩
    · exact ⟨⟨⟨⟨h1, h2⟩, .inl h3⟩, h5⟩, h6⟩
    · exact ⟨⟨⟨⟨h1, h2⟩, .inr ⟨h3, by omega⟩⟩, h5⟩, h6⟩
  · rintro ⟨⟨⟨⟨h1, h2⟩, h3 | ⟨h3, h4⟩⟩, h5⟩, h6⟩
    · exact ⟨⟨⟨⟨h1, h2⟩, .inl h3⟩, h5⟩, h6⟩
    · rcases Nat.lt_or_ge c j with e | e
      · exact ⟨⟨⟨⟨h1, h2⟩, .inr ⟨h3, e⟩⟩, h5⟩, h6⟩
      · obtain rfl : c = j := by omega
        rw [h] at h6; cases h6
theorem oftR_put (r : Nat → Nat → Bool) (k i j a c : Nat) (hik : i ≤ k) (hkj : k ≤ j) (h1' : oftB r k i k = true) (h2' : oftB r k k j = true) : (oftR r k i j a c || (decide (a = i) && decide (c = j))) = oftR r k i (j + 1) a c := by
  rw [Bool.eq_iff_iff]
  unfold oftR
  simp only [Bool.or_eq_true, Bool.and_eq_true, decide_eq_true_eq]
  constructor
  · rintro ((h | ⟨⟨⟨⟨h1, h2⟩, h3 | ⟨h3, h4⟩⟩, h5⟩, h6⟩) | ⟨rfl, rfl⟩)
    · exact .inl h
    · exact .inr ⟨⟨⟨⟨h1, h2⟩, .inl h3⟩, h5⟩, h6⟩
    · exact .inr ⟨⟨⟨⟨h1, h2⟩, .inr ⟨h3, by omega⟩⟩, h5⟩, h6⟩
    · exact .inr ⟨⟨⟨⟨hik, hkj⟩, .inr ⟨rfl, by omega⟩⟩, h1'⟩, h2'⟩
  · rintro (h | ⟨⟨⟨⟨h1, h2⟩, h3 | ⟨h3, h4⟩⟩, h5⟩, h6⟩)
    · exact .inl (.inl h)
    · exact .inl (.inr ⟨⟨⟨⟨h1, h2⟩, .inl h3⟩, h5⟩, h6⟩)
    · rcases Nat.lt_or_ge c j with e | e
      · exact .inl (.inr ⟨⟨⟨⟨h1, h2⟩, .inr ⟨h3, e⟩⟩, h5⟩, h6⟩)
      · exact .inr ⟨h3, by omega⟩

end Go.Proofs.YtakbfoegkjaphaaGreatDoor

