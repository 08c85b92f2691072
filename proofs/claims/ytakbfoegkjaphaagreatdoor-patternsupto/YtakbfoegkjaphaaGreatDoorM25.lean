/-
  The document's relations: often, walked. The document's past: where an atom ends.
-/
import Derived.Test.YtakbfoegkjaphaaGreatDoorM24
import Derived.Deep.CutRange
import Derived.Test.YtakbfoegkjaphaaGreatDoorM23
set_option linter.unusedSimpArgs false
set_option linter.unusedVariables false
namespace Go.Proofs.YtakbfoegkjaphaaGreatDoor
open Go.RowKit

set_option maxRecDepth 100000 in
set_option maxHeartbeats 4000000 in
theorem oftenR_any (N ba : Nat) (ra : Nat → Nat → Bool) (w : World) (hN : N ≤ 100) (ha : RelAt w N ba ra) :
    Calls Tryz.prog 225 #[relV N ba] w fun e w' => ∃ b, w.heap.size ≤ b ∧ e = .returned (relV N b) ∧ RelAt w' N b (oftB ra (N + 1)) ∧ Fr [] w w' := by
  have hm : Tryz.prog.follows Departure.mixedOrders = true := by kernel_rfl
  have la := ha.lt
  obtain ⟨S, eS⟩ : ∃ S, (N + 1) * (N + 1) = S := ⟨_, rfl⟩
  have hsa := fun W => same_any' N W hN
  have hei := fun (bb : Nat) (rb : Nat → Nat → Bool) (W : World) (h1 : RelAt W N ba ra) (h2 : RelAt W N bb rb) => eitherR_any N ba bb ra rb W hN h1 h2
  have Hp : Hid _ := fun (b : Nat) (r : Nat → Nat → Bool) (i k : Nat) (W : World) (h : RelAt W N b r) (hi : i ≤ N) (hk : k ≤ N) => put_any N b i k r W h hN hi hk
  have Ha : Hid _ := fun (b : Nat) (r : Nat → Nat → Bool) (i k : Nat) (W : World) (h : RelAt W N b r) (hi : i ≤ N) (hk : k ≤ N) => at_any N b i k r W h hN hi hk
  have hv : ∀ b, relV N b = .agg #[.int .i64 N, .slice (some ⟨b, 0, none⟩) S S] := fun b => by unfold relV; rw [eS]
  simp only [hv] at hsa hei Hp Ha ⊢
  clear hv eS
  have Hsa : Hid _ := hsa
  have Hei : Hid _ := hei
  clear hsa hei
  obtain ⟨W0, hW0⟩ : ∃ W0, (w.alloc (.cells #[.int .i64 N, .slice (some ⟨ba, 0, none⟩) S S] 237)).alloc (.cells #[.int .i64 0, .slice none 0 0] 237) = W0 := ⟨_, rfl⟩
  have f0 : Fr [] w W0 := by rw [← hW0]; exact ((Fr.refl [] w).alloc _).alloc _
  have o1 : Own2 W0 w.heap.size (.int .i64 N) (.slice (some ⟨ba, 0, none⟩) S S) := by rw [← hW0]; exact (Own2.new w _ _ 237).fr ((Fr.refl [] _).alloc _) (by simp)
  have o2 : Own2 W0 (w.heap.size + 1) (.int .i64 0) (.slice none 0 0) := by
    have := Own2.new (w.alloc (.cells #[.int .i64 N, .slice (some ⟨ba, 0, none⟩) S S] 237)) (.int .i64 0) (.slice none 0 0) 237
    rw [World.size_alloc] at this
    rw [← hW0]; exact this
  have hs0 : W0.heap.size = w.heap.size + 1 + 1 := by rw [← hW0]; simp
  have ha0 := ha.fr f0 (by simp)
  have Ho1 : Hid _ := o1
  have Ho2 : Hid _ := o2
  go_enter Tryz.func225, Tryz.ntmps225
  go_upto_region 1 with fail
  clear hW0
  go_cut [3] from 7 (fun s3 wx => ∃ b c, s3 = .pointer (some ⟨c, 0, none⟩) ∧ OftI w N S ba b c (oftB ra 0) wx)
  case first =>
    refine wp_region_heldD (fun w1 => w1.cell? ⟨w.heap.size, 0, none⟩ = some (.int .i64 N) ∧ w1.cell? ⟨w.heap.size, 1, none⟩ = some (.slice (some ⟨ba, 0, none⟩) S S)) hm ?_
    have hS : (fun w1 : World => w1.cell? ⟨w.heap.size, 0, none⟩ = some (.int .i64 N) ∧ w1.cell? ⟨w.heap.size, 1, none⟩ = some (.slice (some ⟨ba, 0, none⟩) S S)) W0.drew := ⟨o1.c0, o1.c1⟩
    refine wpAnyH_take (i := 0) (v := ?_) rfl (by kernel_rfl) (by kernel_rfl) (by kernel_rfl) (fun _ _ _ h => h) (.inl ⟨rfl, fun w1 hS1 => ?_⟩) hS ?_
    rotate_left
    · obtain ⟨s0, s1⟩ := hS1
      go_simp
      rfl
    simp only [Act.put, List.setIfInBounds_toArray, List.set_cons_zero, List.set_cons_succ]
    refine wpAnyH_take (i := 1) (v := ?_) rfl (by kernel_rfl) (by kernel_rfl) (by kernel_rfl) (fun _ _ _ h => h) (.inl ⟨rfl, fun w1 hS1 => ?_⟩) hS ?_
    rotate_left
    · obtain ⟨s0, s1⟩ := hS1
      go_simp
      rfl
    simp only [Act.put, List.setIfInBounds_toArray, List.set_cons_zero, List.set_cons_succ]
    refine wpAnyH_take (i := 2) (v := ?_) rfl (by kernel_rfl) (by kernel_rfl) (by kernel_rfl) (fun _ _ _ h => h) (.inl ⟨rfl, fun w1 hS1 => ?_⟩) hS ?_
    rotate_left
    · obtain ⟨s0, s1⟩ := hS1
      go_simp
      rfl
    simp only [Act.put, List.setIfInBounds_toArray, List.set_cons_zero, List.set_cons_succ]
    refine wpAnyH_ready (rs := [3, 5]) (by kernel_rfl) (by simp) ?_
    refine AllReadyH.cons rfl (fun K hK => ?_) ?_
    · go_simp
      refine (Hsa.out _).mono ?_
      rintro e V1 ⟨bs, hbs, rfl, hrs, fs⟩
      have fs : Fr [] W0 V1 := ⟨fs.os, fs.tape, fs.output, fs.size, fs.block⟩
      have fw1 := (Fr.refl [] W0).trans fs
      have p1 := o1.fr fw1 (by simp)
      refine hK _ _ ⟨p1.c0, p1.c1⟩ ?_
      clear hK K
      intro _
      refine wpAnyH_ready (rs := [4, 5]) (by kernel_rfl) (by simp) ?_
      refine AllReadyH.cons rfl (fun K hK => ?_) ?_
      · go_simp
        refine (Hei.out bs _ V1 (ha0.fr fw1 (by simp)) hrs).mono ?_
        rintro e V2 ⟨b, hb, rfl, hr2, f2⟩
        have fw2 := fw1.trans f2
        have p2 := o1.fr fw2 (by simp)
        refine hK _ _ ⟨p2.c0, p2.c1⟩ ?_
        clear hK K
        intro _
        refine wpAnyH_ready (rs := [5]) (by kernel_rfl) (by simp) ?_
        refine AllReadyH.cons rfl (fun K hK => ?_) AllReadyH.nil
        go_simp
        have fa : Fr [] V2 (V2.alloc (Obj.cells #[Value.int IntKind.i64 0, Value.slice none 0 0] 237)) := (Fr.refl [] _).alloc _
        have oc := Own2.new V2 (.int .i64 0) (.slice none 0 0) 237
        have fw3 := fw2.trans fa
        have p3 := o1.fr fw3 (by simp)
        refine hK _ _ ⟨p3.c0, p3.c1⟩ ?_
        clear hK K
        intro _
        refine wpAnyH_ready (rs := [6]) (by kernel_rfl) (by simp) ?_
        refine AllReadyH.cons rfl (fun K hK => ?_) AllReadyH.nil
        have k0 := oc.c0
        have k1 := oc.c1
        have k2 := oc.z0
        have k3 := oc.z1
        have k1' := fun v => (setCell_off (w := (V2.alloc (Obj.cells #[Value.int IntKind.i64 0, Value.slice none 0 0] 237))) (b := V2.heap.size) (i := 0) (j := 1) (v := v) (by decide)).trans k1
        have k3' := fun v => (World.frozen?_setCell (V2.alloc (Obj.cells #[Value.int IntKind.i64 0, Value.slice none 0 0] 237)) ⟨V2.heap.size, 0, none⟩ ⟨V2.heap.size, 1, none⟩ v).trans k3
        have sz := fs.size
        have JJ := OftI.startA (w := w) (N := N) (S := S) (ba := ba) hr2 (o1.fr fw2 (by simp)) (o2.fr fw2 (by simp)) (f0.trans fw2) (by have q1 := hr2.lt; have q2 := fs.size; have q3 := f2.size; simp at *; omega) (by have q1 := hr2.lt; have q2 := fs.size; have q3 := f2.size; simp at *; omega)
        clear p1 p2 p3
        go_simp
        refine hK _ _ ⟨JJ.oa.c0, JJ.oa.c1⟩ ?_
        clear hK K
        intro _
        refine wpAnyH_done (by kernel_rfl) ?_ _
        go_wp2
        go_meet
        exact ⟨b, _, rfl, JJ⟩
      · refine AllReadyH.cons rfl (fun K hK => ?_) AllReadyH.nil
        go_simp
        have fa : Fr [] V1 (V1.alloc (Obj.cells #[Value.int IntKind.i64 0, Value.slice none 0 0] 237)) := (Fr.refl [] _).alloc _
        have oc := Own2.new V1 (.int .i64 0) (.slice none 0 0) 237
        have fw3 := fw1.trans fa
        have p3 := o1.fr fw3 (by simp)
        refine hK _ _ ⟨p3.c0, p3.c1⟩ ?_
        clear hK K
        intro _
        refine wpAnyH_ready (rs := [4]) (by kernel_rfl) (by simp) ?_
        refine AllReadyH.cons rfl (fun K hK => ?_) AllReadyH.nil
        go_simp
        refine (Hei.out bs _ _ (ha0.fr fw3 (by simp)) (hrs.fr fa (by simp))).mono ?_
        rintro e V2 ⟨b, hb, rfl, hr2, f2⟩
        have fw2 := fw3.trans f2
        have p2 := o1.fr fw2 (by simp)
        refine hK _ _ ⟨p2.c0, p2.c1⟩ ?_
        clear hK K
        intro _
        refine wpAnyH_ready (rs := [6]) (by kernel_rfl) (by simp) ?_
        refine AllReadyH.cons rfl (fun K hK => ?_) AllReadyH.nil
        have k0 := (oc.fr f2 (by simp)).c0
        have k1 := (oc.fr f2 (by simp)).c1
        have k2 := (oc.fr f2 (by simp)).z0
        have k3 := (oc.fr f2 (by simp)).z1
        have k1' := fun v => (setCell_off (w := V2) (b := V1.heap.size) (i := 0) (j := 1) (v := v) (by decide)).trans k1
        have k3' := fun v => (World.frozen?_setCell V2 ⟨V1.heap.size, 0, none⟩ ⟨V1.heap.size, 1, none⟩ v).trans k3
        have sz := fs.size
        have JJ := OftI.start (w := w) (N := N) (S := S) (ba := ba) (c := V1.heap.size) hr2 (o1.fr fw2 (by simp)) (o2.fr fw2 (by simp)) (oc.fr f2 (by simp)) (f0.trans fw2) (by have q1 := hr2.lt; have q2 := fs.size; have q3 := f2.size; have q4 := oc.lt; simp at *; omega) (by have q1 := hr2.lt; have q2 := fs.size; have q3 := f2.size; have q4 := oc.lt; simp at *; omega) (by have q1 := hr2.lt; have q2 := fs.size; have q3 := f2.size; have q4 := oc.lt; simp at *; omega)
        clear p1 p2 p3
        go_simp
        refine hK _ _ ⟨JJ.oa.c0, JJ.oa.c1⟩ ?_
        clear hK K
        intro _
        refine wpAnyH_done (by kernel_rfl) ?_ _
        go_wp2
        go_meet
        exact ⟨b, _, rfl, JJ⟩
    · refine AllReadyH.cons rfl (fun K hK => ?_) AllReadyH.nil
      go_simp
      have fa : Fr [] W0 (W0.alloc (Obj.cells #[Value.int IntKind.i64 0, Value.slice none 0 0] 237)) := (Fr.refl [] _).alloc _
      have oc := Own2.new W0 (.int .i64 0) (.slice none 0 0) 237
      rw [hs0] at oc
      have fw3 := (Fr.refl [] W0).trans fa
      have p3 := o1.fr fw3 (by simp)
      refine hK _ _ ⟨p3.c0, p3.c1⟩ ?_
      clear hK K
      intro _
      refine wpAnyH_ready (rs := [3]) (by kernel_rfl) (by simp) ?_
      refine AllReadyH.cons rfl (fun K hK => ?_) AllReadyH.nil
      go_simp
      refine (Hsa.out _).mono ?_
      rintro e V1 ⟨bs, hbs, rfl, hrs, fs⟩
      have fs : Fr [] (W0.alloc (Obj.cells #[Value.int IntKind.i64 0, Value.slice none 0 0] 237)) V1 := ⟨fs.os, fs.tape, fs.output, fs.size, fs.block⟩
      have fw1 := fw3.trans fs
      have p1 := o1.fr fw1 (by simp)
      refine hK _ _ ⟨p1.c0, p1.c1⟩ ?_
      clear hK K
      intro _
      refine wpAnyH_ready (rs := [4]) (by kernel_rfl) (by simp) ?_
      refine AllReadyH.cons rfl (fun K hK => ?_) AllReadyH.nil
      go_simp
      refine (Hei.out bs _ V1 (ha0.fr fw1 (by simp)) hrs).mono ?_
      rintro e V2 ⟨b, hb, rfl, hr2, f2⟩
      have fw2 := fw1.trans f2
      have p2 := o1.fr fw2 (by simp)
      refine hK _ _ ⟨p2.c0, p2.c1⟩ ?_
      clear hK K
      intro _
      refine wpAnyH_ready (rs := [6]) (by kernel_rfl) (by simp) ?_
      refine AllReadyH.cons rfl (fun K hK => ?_) AllReadyH.nil
      have k0 := ((oc.fr fs (by simp)).fr f2 (by simp)).c0
      have k1 := ((oc.fr fs (by simp)).fr f2 (by simp)).c1
      have k2 := ((oc.fr fs (by simp)).fr f2 (by simp)).z0
      have k3 := ((oc.fr fs (by simp)).fr f2 (by simp)).z1
      have k1' := fun v => (setCell_off (w := V2) (b := w.heap.size + 1 + 1) (i := 0) (j := 1) (v := v) (by decide)).trans k1
      have k3' := fun v => (World.frozen?_setCell V2 ⟨w.heap.size + 1 + 1, 0, none⟩ ⟨w.heap.size + 1 + 1, 1, none⟩ v).trans k3
      have sz := fs.size
      have JJ := OftI.start (w := w) (N := N) (S := S) (ba := ba) (c := w.heap.size + 1 + 1) hr2 (o1.fr fw2 (by simp)) (o2.fr fw2 (by simp)) ((oc.fr fs (by simp)).fr f2 (by simp)) (f0.trans fw2) (by have q1 := hr2.lt; have q2 := fs.size; have q3 := f2.size; have q4 := oc.lt; simp at *; omega) (by have q1 := hr2.lt; have q2 := fs.size; have q3 := f2.size; have q4 := oc.lt; simp at *; omega) (by omega)
      clear p1 p2 p3
      go_simp
      refine hK _ _ ⟨JJ.oa.c0, JJ.oa.c1⟩ ?_
      clear hK K
      intro _
      refine wpAnyH_done (by kernel_rfl) ?_ _
      go_wp2
      go_meet
      exact ⟨b, _, rfl, JJ⟩
  case rest =>
    obtain ⟨b, c, rfl, J0⟩ := hcut
    have hb1 := J0.hb
    have hc1 := J0.hc
    have hc2 := J0.hcc
    clear Hsa Hei o1 o2 ha0 f0 Ho1 Ho2
    go_wp2
    go_loopw [4] (fun i wr => ∃ I : Nat, I ≤ N + 1 ∧ i = .int .i64 I ∧ OftI w N S ba b c (oftB ra I) wr) (fun i _ => N + 1 - (intOf i).toNat)
    case atStart => exact ⟨0, by omega, rfl, J0⟩
    case round =>
      obtain ⟨k, hI, rfl, J⟩ := hrel
      clear J0
      have a0 := J.oa.c0
      by_cases hlt : k ≤ N
      · have g1 : (k : Int) ≤ N := by omega
        have J1 := J.congr (fun i j hi hj => (oftR_start ra k i j).symm)
        clear J
        go_wp2
        clear a0
        go_loopw [5] (fun i wr => ∃ K : Nat, K ≤ k + 1 ∧ i = .int .i64 K ∧ OftI w N S ba b c (oftR ra k K k) wr) (fun i _ => k + 1 - (intOf i).toNat)
        case atStart => exact ⟨0, by omega, rfl, J1⟩
        case round =>
          clear J1
          obtain ⟨K, hK, rfl, J⟩ := hrel
          have a0 := J.own.c0
          have a1 := J.own.c1
          by_cases hlt2 : K ≤ k
          · have g2 : (K : Int) ≤ k := by omega
            have hat := Ha.out b _ K k wr J.rr (by omega) hlt
            rw [oftR_col] at hat
            go_wp2_with fail
            refine hat.mono ?_
            rintro e w3 ⟨rfl, f3⟩
            have J3 := J.kept f3
            clear hat J f3 a0 a1
            cases hv : oftB ra k K k with
            | false =>
              have J4 := J3.congr (fun i j hi hj => oftR_skip ra k K i j hv)
              clear J3
              go_wp2
              go_roundw
              case rel => exact ⟨K + 1, by omega, by go_num, J4⟩
              case measure => simp [intOf]; omega
            | true =>
              go_wp2
              go_loopw [6] (fun i wr => ∃ L : Nat, k ≤ L ∧ L ≤ N + 1 ∧ i = .int .i64 L ∧ OftI w N S ba b c (oftR ra k K L) wr) (fun i _ => N + 1 - (intOf i).toNat)
              case atStart => exact ⟨k, by omega, by omega, rfl, J3⟩
              case round =>
                clear J3
                obtain ⟨L, hKL, hL, rfl, J⟩ := hrel
                have a0 := J.oa.c0
                have d0 := J.own.c0
                have d1 := J.own.c1
                by_cases hlt3 : L ≤ N
                · have g3 : (L : Int) ≤ N := by omega
                  have hat := Ha.out b _ k L wr J.rr hlt hlt3
                  rw [oftR_row] at hat
                  go_wp2_with fail
                  refine hat.mono ?_
                  rintro e w4 ⟨rfl, f4⟩
                  have J4 := J.kept f4
                  clear hat J f4 a0 d0 d1
                  cases hv2 : oftB ra k k L with
                  | false =>
                    have J5 := J4.congr (fun i j hi hj => oftR_j ra k K L i j hv2)
                    clear J4
                    go_wp2
                    go_roundw
                    case rel => exact ⟨L + 1, by omega, by omega, by go_num, J5⟩
                    case measure => simp [intOf]; omega
                  | true =>
                    have hput := Hp.out b _ K L w4 J4.rr (by omega) hlt3
                    have d0 := J4.own.c0
                    have d1 := J4.own.c1
                    go_wp2_with fail
                    refine hput.mono ?_
                    rintro e w5 ⟨rfl, hr5, f5⟩
                    have J5 := (J4.put f5 hr5).congr (fun i j hi hj => oftR_put ra k K L i j hlt2 hKL hv hv2)
                    clear J4 hput hr5 f5 d0 d1
                    go_wp2
                    go_roundw
                    case rel => exact ⟨L + 1, by omega, by omega, by go_num, J5⟩
                    case measure => simp [intOf]; omega
                · have g3 : ¬ ((L : Int) ≤ N) := by omega
                  obtain rfl : L = N + 1 := by omega
                  have J4 := J.congr (fun i j hi hj => oftR_row_done ra N k K i j hj)
                  go_wp2
                  go_roundw
                  case rel => exact ⟨K + 1, by omega, by go_num, J4⟩
                  case measure => simp [intOf]; omega
          · have g2 : ¬ ((K : Int) ≤ k) := by omega
            obtain rfl : K = k + 1 := by omega
            have J4 := J.congr (fun i j hi hj => oftR_done ra k i j)
            go_wp2
            go_roundw
            case rel => exact ⟨k + 1, by omega, by go_num, J4⟩
            case measure => simp [intOf]; omega
      · have g1 : ¬ ((k : Int) ≤ N) := by omega
        have r0 := J.res.c0
        have r1 := J.res.c1
        have q0 := J.res.z0
        have q1 := J.res.z1
        have p0 := J.own.c0
        have p1 := J.own.c1
        have r1' := fun v => (setCell_off (w := wr) (b := w.heap.size + 1) (i := 0) (j := 1) (v := v) (by decide)).trans r1
        have q1' := fun v => (World.frozen?_setCell wr ⟨w.heap.size + 1, 0, none⟩ ⟨w.heap.size + 1, 1, none⟩ v).trans q1
        have hs0' : ∀ v : Value, ((wr.setCell ⟨w.heap.size + 1, 0, none⟩ (.int .i64 N)).setCell ⟨w.heap.size + 1, 1, none⟩ v).cell? ⟨w.heap.size + 1, 0, none⟩ = some (.int .i64 N) := fun v =>
          (setCell_off (by decide)).trans (World.cell?_setCell_same' _ _ _ (by rw [r0]; rfl))
        have hs1' : ∀ v : Value, ((wr.setCell ⟨w.heap.size + 1, 0, none⟩ (.int .i64 N)).setCell ⟨w.heap.size + 1, 1, none⟩ v).cell? ⟨w.heap.size + 1, 1, none⟩ = some v := fun v =>
          World.cell?_setCell_same' _ _ _ (by rw [r1']; rfl)
        go_wp2
        have ff : Fr [w.heap.size + 1] wr ((wr.setCell ⟨w.heap.size + 1, 0, none⟩ (.int .i64 N)).setCell ⟨w.heap.size + 1, 1, none⟩ (.slice (some ⟨b, 0, none⟩) S S)) :=
          ((Fr.refl _ _).setCell (p := ⟨w.heap.size + 1, 0, none⟩) (.inl (by simp)) _).setCell (p := ⟨w.heap.size + 1, 1, none⟩) (.inl (by simp)) _
        have hfin := J.rr.fr ff (by simp; omega)
        obtain rfl : k = N + 1 := by omega
        exact bodyPost_ret (v := .agg #[.int .i64 N, .slice (some ⟨b, 0, none⟩) S S]) (by simp [results, Tryz.results225, go_sem, hs0', hs1']) rfl ⟨b, by omega, rfl, hfin, J.fr.trans' ff (by simp)⟩

end Go.Proofs.YtakbfoegkjaphaaGreatDoor

namespace Go.Proofs.YtakbfoegkjaphaaGreatDoor
open Go.RowKit

/-- One step of past: over an atom, or over a byte that is none of the three that open one. -/
def PastTo (t x : ByteArray) (n i i' : Nat) : Prop := (∃ R, atomD t x n i i' R) ∨ (byteN t i ≠ 92 ∧ byteN t i ≠ 91 ∧ byteN t i ≠ 40 ∧ i' = i + 1)
/-- By steps from i to j, none of them from a closing bracket. -/
def scanD (t x : ByteArray) (n : Nat) : Nat → Nat → Nat → Prop
  | 0, i, j => i = j
  | m + 1, i, j => i < j ∧ byteN t i ≠ 41 ∧ ∃ i', i < i' ∧ PastTo t x n i i' ∧ scanD t x n m i' j

section
variable {t x : ByteArray} {n : Nat}

theorem scanD_le : ∀ m i j, scanD t x n m i j → i ≤ j
  | 0, i, j, h => Nat.le_of_eq h
  | m + 1, i, j, h => Nat.le_of_lt h.1
theorem scanD_app : ∀ m i j m' k, scanD t x n m i j → scanD t x n m' j k → scanD t x n (m + m') i k
  | 0, i, j, m', k, h, h2 => by cases h; rw [Nat.zero_add]; exact h2
  | m + 1, i, j, m', k, ⟨h1, h2, i', h3, h4, h5⟩, hk => by
    have := scanD_le m' j k hk
    rw [Nat.add_right_comm]
    exact ⟨by omega, h2, i', h3, h4, scanD_app m i' j m' k h5 hk⟩
theorem scan_byte {i : Nat} (h1 : byteN t i ≠ 92) (h2 : byteN t i ≠ 91) (h3 : byteN t i ≠ 40) (h4 : byteN t i ≠ 41) : scanD t x n 1 i (i + 1) := ⟨by omega, h4, i + 1, by omega, .inr ⟨h1, h2, h3, rfl⟩, rfl⟩
theorem marks_scan : ∀ k j e R R', marksD t x k j e R R' → scanD t x n k j e
  | 0, j, e, R, R', h => h.1
  | k + 1, j, e, R, R', ⟨h1, h2, h3⟩ => by
    unfold isMark at h2
    exact ⟨h1, by omega, j + 1, by omega, .inr ⟨by omega, by omega, by omega, rfl⟩, marks_scan k (j + 1) e _ R' h3⟩
theorem atom_head {i e : Nat} {R : RelN} (h : atomD t x n i e R) : e ≤ t.size ∧ i < e ∧ byteN t i ≠ 41 ∧ byteN t i ≠ 124 ∧ ¬ isMark (byteN t i) := by
  cases n with
  | zero => exact h.elim
  | succ n => rw [atomD] at h; exact ⟨h.1, h.2.1, h.2.2.1, h.2.2.2.1, h.2.2.2.2.1⟩
theorem part_scan {i e : Nat} {R : RelN} (h : partD t x (atomD t x n) i e R) : ∃ m, scanD t x n m i e := by
  obtain ⟨j, R1, k, h0, h1, h2⟩ := h
  have hh := atom_head h1
  have h3 : scanD t x n 1 i j := ⟨h0, hh.2.2.1, j, h0, .inl ⟨R1, h1⟩, rfl⟩
  exact ⟨1 + k, scanD_app 1 i j k e h3 (marks_scan k j e R1 R h2)⟩
theorem row_scan : ∀ k i e R, rowD t x (atomD t x n) k i e R → ∃ m, scanD t x n m i e
  | 0, i, e, R, h => ⟨0, h.1⟩
  | k + 1, i, e, R, ⟨mid, R1, R2, h1, _, h3, _⟩ => by
    obtain ⟨m1, g1⟩ := part_scan h1
    obtain ⟨m2, g2⟩ := row_scan k mid e R2 h3
    exact ⟨m1 + m2, scanD_app m1 i mid m2 e g1 g2⟩
theorem choice_scan : ∀ k i e R, choiceD t x (atomD t x n) k i e R → ∃ m, scanD t x n m i e
  | 0, i, e, R, h => h.elim
  | k + 1, i, e, R, ⟨mid, R1, k', h1, h2⟩ => by
    obtain ⟨m1, g1⟩ := row_scan k' i mid R1 h1
    rcases h2 with ⟨rfl, _⟩ | ⟨h2, h3, R2, h4, _⟩
    · exact ⟨m1, g1⟩
    · obtain ⟨m2, g2⟩ := choice_scan k (mid + 1) e R2 h4
      exact ⟨m1 + (1 + m2), scanD_app m1 i mid _ e g1 (scanD_app 1 mid (mid + 1) m2 e (scan_byte (by omega) (by omega) (by omega) (by omega)) g2)⟩

end

/-- What past answers. -/
def PastSays (t : ByteArray) (i e : Nat) : Prop := ∀ w, Calls Tryz.prog 192 #[.string t, .int .i64 i] w fun r w' => r = .returned (.int .i64 e) ∧ w' = w

theorem getN {t : ByteArray} {i : Nat} (h : i < t.size) : (t[i].toNat : Int) = (byteN t i : Int) := by unfold byteN; rw [dif_pos h]

set_option maxRecDepth 100000 in
set_option maxHeartbeats 1000000 in
theorem past_byte (t : ByteArray) (i : Nat) (ht : t.size ≤ 50) (hi : i < t.size) (h1 : byteN t i ≠ 92) (h2 : byteN t i ≠ 91) (h3 : byteN t i ≠ 40) : PastSays t i (i + 1) := by
  intro w
  have g1 : (i : Int) < t.size := by omega
  have gn := getN hi
  have b1 : ((t[i].toNat : Int) == 92) = false := by rw [gn]; simp; omega
  have b2 : ((t[i].toNat : Int) == 91) = false := by rw [gn]; simp; omega
  have b3 : ((t[i].toNat : Int) == 40) = false := by rw [gn]; simp; omega
  clear gn h1 h2 h3
  go_enter Tryz.func192, Tryz.ntmps192
  go_wp2
  go_ret
  exact ⟨by go_num, rfl⟩

set_option maxRecDepth 100000 in
set_option maxHeartbeats 1000000 in
theorem past_esc (t : ByteArray) (i : Nat) (ht : t.size ≤ 50) (hi : i < t.size) (h1 : byteN t i = 92) : PastSays t i (i + 2) := by
  intro w
  have g1 : (i : Int) < t.size := by omega
  have gn := getN hi
  have b1 : (t[i].toNat : Int) = 92 := by rw [gn]; omega
  clear gn h1
  go_enter Tryz.func192, Tryz.ntmps192
  go_wp2
  go_ret
  exact ⟨by go_num, rfl⟩

set_option maxRecDepth 100000 in
set_option maxHeartbeats 1000000 in
theorem past_class (t : ByteArray) (i e : Nat) (ht : t.size ≤ 50) (he : e ≤ t.size) (hie : i + 2 ≤ e) (h1 : byteN t i = 91) (h2 : byteN t (e - 1) = 93) (hu : ∃ n, units t n (i + 1) (e - 1)) : PastSays t i e := by
  intro w
  have hi : i < t.size := by omega
  have g1 : (i : Int) < t.size := by omega
  have gn := getN hi
  have b1 : (t[i].toNat : Int) = 91 := by rw [gn]; omega
  have Hu : Hid _ := hu
  clear gn h1 hu
  go_enter Tryz.func192, Tryz.ntmps192
  go_wp2
  go_loop [5] (fun v => ∃ j : Nat, i + 1 ≤ j ∧ j ≤ e - 1 ∧ v = .int .i64 j ∧ Hid (∃ n, units t n j (e - 1))) (fun v => t.size - (intOf v).toNat)
  case atStart => exact ⟨i + 1, by omega, by omega, by go_num, Hu⟩
  case round =>
    clear Hu b1
    obtain ⟨j, hj1, hj2, rfl, hn⟩ := hrel
    have hj : j < t.size := by omega
    have g2 : (j : Int) < t.size := by omega
    have gj := getN hj
    obtain ⟨n, hu⟩ := hn.out
    cases n with
    | zero =>
      have ej : j = e - 1 := hu
      obtain rfl : e = j + 1 := by omega
      rw [Nat.add_sub_cancel] at h2
      have b2 : ((t[j].toNat : Int) != 93) = false := by rw [gj, h2]; rfl
      clear hu gj ej hj2 hn
      go_wp2
      go_ret
      exact ⟨by go_num, rfl⟩
    | succ n =>
      obtain ⟨u1, u2, u3⟩ := hu
      have n93 : ((t[j].toNat : Int) != 93) = true := by rw [gj]; simp; omega
      by_cases c : byteN t j = 92
      · rw [if_pos c] at u3
        have b2 : (t[j].toNat : Int) = 92 := by rw [gj]; omega
        have ub := units_bd n _ _ u3
        have HU : Hid (∃ n, units t n (j + 2) (e - 1)) := ⟨n, u3⟩
        clear gj u3 c u2
        go_wp2
        go_round
        case rel => exact ⟨j + 2, by omega, by omega, by go_num, HU⟩
        case measure => simp [intOf]; omega
      · rw [if_neg c] at u3
        have b2 : ((t[j].toNat : Int) == 92) = false := by rw [gj]; simp; omega
        have HU : Hid (∃ n, units t n (j + 1) (e - 1)) := ⟨n, u3⟩
        clear gj u3 u2
        go_wp2
        go_round
        case rel => exact ⟨j + 1, by omega, by omega, by go_num, HU⟩
        case measure => simp [intOf]; omega

set_option maxRecDepth 100000 in
set_option maxHeartbeats 1000000 in
theorem past_group (t x : ByteArray) (n i e : Nat) (ht : t.size ≤ 50) (he : e ≤ t.size) (hie : i + 2 ≤ e) (h1 : byteN t i = 40) (h2 : byteN t (e - 1) = 41) (hs : ∃ m, scanD t x n m (i + 1) (e - 1))
    (ih : ∀ a c, a < t.size → c ≤ t.size → PastTo t x n a c → PastSays t a c) : PastSays t i e := by
  intro w
  have hi : i < t.size := by omega
  have g1 : (i : Int) < t.size := by omega
  have gn := getN hi
  have b1 : (t[i].toNat : Int) = 40 := by rw [gn]; omega
  have Hs : Hid _ := hs
  have Hi : Hid _ := ih
  clear gn h1 hs ih
  go_enter Tryz.func192, Tryz.ntmps192
  go_wp2
  go_loop [6] (fun v => ∃ j : Nat, i + 1 ≤ j ∧ j ≤ e - 1 ∧ v = .int .i64 j ∧ Hid (∃ m, scanD t x n m j (e - 1))) (fun v => t.size - (intOf v).toNat)
  case atStart => exact ⟨i + 1, by omega, by omega, by go_num, Hs⟩
  case round =>
    clear Hs b1
    obtain ⟨j, hj1, hj2, rfl, hn⟩ := hrel
    have hj : j < t.size := by omega
    have g2 : (j : Int) < t.size := by omega
    have gj := getN hj
    obtain ⟨m, hu⟩ := hn.out
    cases m with
    | zero =>
      have ej : j = e - 1 := hu
      obtain rfl : e = j + 1 := by omega
      rw [Nat.add_sub_cancel] at h2
      have b2 : ((t[j].toNat : Int) != 41) = false := by rw [gj, h2]; rfl
      clear hu gj ej hj2 hn
      go_wp2
      go_ret
      exact ⟨by go_num, rfl⟩
    | succ m =>
      obtain ⟨u1, u2, i', u3, u4, u5⟩ := hu
      have n41 : ((t[j].toNat : Int) != 41) = true := by rw [gj]; simp; omega
      have ub := scanD_le m _ _ u5
      have hp := Hi.out j i' hj (by omega) u4 w
      have HU : Hid (∃ m, scanD t x n m i' (e - 1)) := ⟨m, u5⟩
      clear gj u2 u4 u5 hn
      go_wp2_with fail
      refine hp.mono ?_
      rintro r w2 ⟨rfl, hw2⟩
      rw [hw2]
      clear hp hw2
      go_wp2
      go_round
      case rel => exact ⟨i', by omega, by omega, rfl, HU⟩
      case measure => simp [intOf]; omega

/-- past goes over an atom to its end. -/
theorem past_atom (t x : ByteArray) (ht : t.size ≤ 50) : ∀ n i e, i < t.size → e ≤ t.size → PastTo t x n i e → PastSays t i e
  | 0, i, e, hi, he, h => by
    rcases h with ⟨R, h⟩ | ⟨h1, h2, h3, rfl⟩
    · exact h.elim
    · exact past_byte t i ht hi h1 h2 h3
  | n + 1, i, e, hi, he, h => by
    rcases h with ⟨R, h⟩ | ⟨h1, h2, h3, rfl⟩
    · rw [atomD] at h
      obtain ⟨k1, k2, k3, k4, k5, k6⟩ := h
      rcases k6 with ⟨g1, g2, g3, k, g4⟩ | ⟨g1, g2, g3⟩ | ⟨g1, g2, g3⟩ | ⟨g1, g2, g3, g4, g5⟩
      · exact past_group t x n i e ht he g2 g1 g3 (choice_scan k _ _ R g4) (fun a c ha hc hp => past_atom t x ht n a c ha hc hp)
      · subst g2; exact past_byte t i ht hi (by omega) (by omega) (by omega)
      · subst g2; exact past_byte t i ht hi (by omega) (by omega) (by omega)
      · rcases g4 with ⟨q1, q2⟩ | ⟨q1, q2, q3, q4⟩ | ⟨q1, q2, q3⟩
        · subst q2; exact past_esc t i ht hi q1
        · exact past_class t i e ht he q2 q1 q3 q4
        · subst q3; exact past_byte t i ht hi q1 q2 g1
    · exact past_byte t i ht hi h1 h2 h3

end Go.Proofs.YtakbfoegkjaphaaGreatDoor

