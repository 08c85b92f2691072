/-
  The document's row: the relation of a sequence. The document's choice: the relation of alternatives; all of it together.
-/
import Derived.Test.YtakbfoegkjaphaaGreatDoorM27
set_option linter.unusedSimpArgs false
set_option linter.unusedVariables false
namespace Go.Proofs.YtakbfoegkjaphaaGreatDoor
open Go.RowKit

/-- What is left of a row from the place k on. -/
def RestR (t x : ByteArray) (n k : Nat) (R1 R : RelN) : Prop := ∃ m R2, rowD t x (atomD t x n) m k t.size R2 ∧ R = behindN R1 R2
/-- What is left of a part's marks from the place j on, and of the row behind it. -/
def RestM (t x : ByteArray) (n j : Nat) (R1 Rc R : RelN) : Prop := ∃ m mid Ra, marksD t x m j mid Rc Ra ∧ (mid < t.size → ¬ isMark (byteN t mid)) ∧ mid ≤ t.size ∧ RestR t x n mid (behindN R1 Ra) R

set_option maxRecDepth 100000 in
set_option maxHeartbeats 4000000 in
theorem row_said_R (n : Nat) (hA : AtomSays n) : RowSays n := by
  intro t x kk R w ht hx hrow
  have hm : Tryz.prog.follows Departure.mixedOrders = true := by kernel_rfl
  have hbd := bd_row (bd_atom (t := t) (x := x) n) kk 0 t.size R hrow
  obtain ⟨S, eS⟩ : ∃ S, (x.size + 1) * (x.size + 1) = S := ⟨_, rfl⟩
  have hsa := fun W => givesS eS (sameH x.size W hx)
  have hv : ∀ b, relV x.size b = .agg #[.int .i64 x.size, .slice (some ⟨b, 0, none⟩) S S] := fun b => by unfold relV; rw [eS]
  have hof := fun (ba : Nat) (Ra : RelN) (W : World) (da : BdN x.size Ra) (ha : HasR W x.size ba Ra) => givesS eS (oftenH x.size ba Ra W hx da ha)
  have hbe := fun (ba bb : Nat) (Ra Rb : RelN) (W : World) (da : BdN x.size Ra) (db : BdN x.size Rb) (ha : HasR W x.size ba Ra) (hb : HasR W x.size bb Rb) => givesS eS (behindH x.size ba bb Ra Rb W hx da db ha hb)
  have hei := fun (ba bb : Nat) (Ra Rb : RelN) (W : World) (ha : HasR W x.size ba Ra) (hb : HasR W x.size bb Rb) => givesS eS (eitherH x.size ba bb Ra Rb W hx ha hb)
  have hat := fun (k e : Nat) (R0 : RelN) (W : World) (hke : k < e) (he : e ≤ t.size) (h : atomD t x n k e R0) => givesS eS (hA (t.extract k e) x R0 W (by rw [ByteArray.size_extract]; omega) hx (by
    have sub := sub_extract t k e (by omega) he
    refine sub.atom n 0 _ R0 ?_ (by have := sub.size; omega)
    rw [Nat.add_zero, sub.size]
    exact h))
  have hpa := fun (k e : Nat) (R0 : RelN) (W : World) (hke : k < e) (he : e ≤ t.size) (h : atomD t x n k e R0) => past_atom t x ht n k e (by omega) he (.inl ⟨R0, h⟩) W
  simp only [hv] at hof hbe hei
  have Hsa : Hid _ := hsa
  have Hv : Hid _ := hv
  have Hof : Hid _ := hof
  have Hbe : Hid _ := hbe
  have Hei : Hid _ := hei
  have Hat : Hid _ := hat
  have Hpa : Hid _ := hpa
  have HR0 : Hid (RestR t x n 0 (sameN x.size) R) := ⟨kk, R, hrow, by rw [behind_same_left (fun i j h => Nat.le_trans (hbd i j h).1 (hbd i j h).2)]⟩
  clear hsa hv hof hbe hei hat hpa eS hrow hA hbd
  go_enter Tryz.func190, Tryz.ntmps190
  go_wp2_with fail
  refine (Hsa.out _).mono ?_
  rintro e w1 ⟨b, hb, rfl, hr, f1⟩
  rw [World.size_alloc] at hb
  have J0 := RowI.start (S := S) hb hr f1
  clear hr f1
  generalize hw2 : w1.alloc (.cells #[.int .i64 x.size, .slice (some ⟨b, 0, none⟩) S S] 237) = w2 at J0
  generalize hc : w1.heap.size = c at J0
  go_wp2
  clear hw2 hc hb
  go_loopw [6] (fun v wr => ∃ (k b : Nat) (R1 : RelN), k ≤ t.size ∧ v = .int .i64 k ∧ RowI w x.size S b c R1 wr ∧ Hid (BdN x.size R1) ∧ Hid (RestR t x n k R1 R)) (fun v _ => t.size - (intOf v).toNat)
  case atStart => exact ⟨0, b, _, by omega, rfl, J0, bd_same _, HR0⟩
  case round =>
    clear J0 HR0
    obtain ⟨k, b, R1, hk, rfl, J, hB1, hR⟩ := hrel
    by_cases hlt : k < t.size
    · have g1 : (k : Int) < t.size := by omega
      obtain ⟨m, R2, h1, h2⟩ := hR.out
      obtain ⟨m, rfl⟩ : ∃ m', m = m' + 1 := by
        cases m with
        | zero => have := h1.1; omega
        | succ m' => exact ⟨m', rfl⟩
      obtain ⟨mid, Ra, Rb, ⟨j0, Rc, nm, p0, p1, p2⟩, p3, p4, p5⟩ := h1
      have hmid := rowD_le m mid t.size Rb p4
      have hj0 := marksD_le nm j0 mid Rc Ra p2
      have HM : Hid (RestM t x n j0 R1 Rc R) := ⟨nm, mid, Ra, p2, p3, hmid, m, Rb, p4, by rw [h2, p5, behind_assoc]⟩
      have hp := Hpa.out k j0 Rc wr p0 (by omega) p1
      have ha := Hat.out k j0 Rc wr p0 (by omega) p1
      have HB : Hid (BdN x.size Rc) := bd_atom n k j0 Rc p1
      have gj : (j0 : Int) ≤ t.size := by omega
      have gk : (k : Int) ≤ j0 := by omega
      clear p1 p2 p3 p4 p5 h2 hR Hpa Hat hmid hj0
      go_wp2_with fail
      refine hp.mono ?_
      rintro e w3 ⟨rfl, hw3⟩
      rw [hw3]
      clear hw3 hp
      go_wp2_with fail
      refine ha.mono ?_
      rintro e w4 ⟨ba, hba, rfl, hra, f4⟩
      have J4 := RowJ.start (J.call f4) hra
      clear ha hra f4 J hba
      generalize hw5 : w4.alloc (.cells #[.int .i64 x.size, .slice (some ⟨ba, 0, none⟩) S S] 237) = w5 at J4
      generalize hca : w4.heap.size = ca at J4
      go_wp2
      clear hw5 hca
      go_loopw [7] (fun v wr => ∃ (j ba : Nat) (Rc : RelN), k < j ∧ j ≤ t.size ∧ v = .int .i64 j ∧ RowJ w x.size S b c R1 ba ca Rc wr ∧ Hid (BdN x.size Rc) ∧ Hid (RestM t x n j R1 Rc R)) (fun v _ => t.size - (intOf v).toNat)
      case atStart => exact ⟨j0, ba, Rc, p0, by omega, rfl, J4, HB, HM⟩
      case round =>
        clear J4 HB HM
        obtain ⟨j, ba, Rc, hkj, hj, rfl, J, hBc, hM⟩ := hrel
        obtain ⟨m, mid, Ra, p2, p3, hmid, p4⟩ := hM.out
        have a0 := J.oa.c0
        have a1 := J.oa.c1
        cases m with
        | zero =>
          obtain ⟨e1, e2⟩ := p2
          subst e1 e2
          have HR2 : Hid (RestR t x n j (behindN R1 Ra) R) := p4
          have HB2 : Hid (BdN x.size (behindN R1 Ra)) := bd_behind hB1.out hBc.out
          have hbeh := Hbe.out b ba R1 Ra wr hB1.out hBc.out J.base.rel J.ra
          have d0 := J.base.own.c0
          have d1 := J.base.own.c1
          by_cases hlt2 : j < t.size
          · have g2 : (j : Int) < t.size := by omega
            have gb := getN hlt2
            have nm := p3 hlt2
            unfold isMark at nm
            have b42 : ((t[j].toNat : Int) == 42) = false := by rw [gb]; simp; omega
            have b43 : ((t[j].toNat : Int) == 43) = false := by rw [gb]; simp; omega
            have b63 : ((t[j].toNat : Int) == 63) = false := by rw [gb]; simp; omega
            clear gb nm p3 p4 hM Hsa Hof Hei Hbe hmid
            go_wp2_with fail
            refine hbeh.mono ?_
            rintro e w6 ⟨b', hb', rfl, hr', f6⟩
            have J6 := J.base.call f6
            have bl := J.base.own.lt
            have bl2 := J.base.res.lt
            have J7 := J6.setR hr' (by omega) (by omega)
            have c0 := J6.own.c0
            have c1 := J6.own.c1
            have z0 := J6.own.z0
            have z1 := J6.own.z1
            obtain ⟨q1, q2, q3, q4⟩ := res_facts (u0 := .int .i64 x.size) J6.own
            clear q3 q4 J6 hr' f6 hbeh J a0 a1 d0 d1 bl bl2 hb'
            go_wp2
            go_roundw
            case rel => exact ⟨j, b', _, by omega, rfl, J7, HB2, HR2⟩
            case measure => simp [intOf]; omega
          · have g2 : ¬ ((j : Int) < t.size) := by omega
            clear p3 p4 hM Hsa Hof Hei Hbe hmid
            go_wp2_with fail
            refine hbeh.mono ?_
            rintro e w6 ⟨b', hb', rfl, hr', f6⟩
            have J6 := J.base.call f6
            have bl := J.base.own.lt
            have bl2 := J.base.res.lt
            have J7 := J6.setR hr' (by omega) (by omega)
            have c0 := J6.own.c0
            have c1 := J6.own.c1
            have z0 := J6.own.z0
            have z1 := J6.own.z1
            obtain ⟨q1, q2, q3, q4⟩ := res_facts (u0 := .int .i64 x.size) J6.own
            clear q3 q4 J6 hr' f6 hbeh J a0 a1 d0 d1 bl bl2 hb'
            go_wp2
            go_roundw
            case rel => exact ⟨j, b', _, by omega, rfl, J7, HB2, HR2⟩
            case measure => simp [intOf]; omega
        | succ m =>
          obtain ⟨e1, e2, e3⟩ := p2
          have hlt2 : j < t.size := by omega
          have g2 : (j : Int) < t.size := by omega
          have gb := getN hlt2
          have hle2 := marksD_le m (j + 1) mid _ Ra e3
          have HM7 : Hid (RestM t x n (j + 1) R1 (markN x.size (byteN t j) Rc) R) := ⟨m, mid, Ra, e3, p3, hmid, p4⟩
          have HB7 : Hid (BdN x.size (markN x.size (byteN t j) Rc)) := bd_mark hBc.out
          have ne1 := J.oa.lt
          clear e3 p3 p4 hM hmid hle2
          rcases e2 with e2 | e2 | e2
          · have b42 : (t[j].toNat : Int) = 42 := by rw [gb]; omega
            rw [e2, markN_star] at HM7 HB7
            have hcall := Hof.out ba Rc wr hBc.out J.ra
            clear gb e2 Hsa Hof Hei Hbe
            go_wp2_with fail
            refine hcall.mono ?_
            rintro e w6 ⟨b', hb', rfl, hr', f6⟩
            have J6 := J.call f6
            have J7 := J6.setA hr' (by omega)
            have c0 := J6.oa.c0
            have c1 := J6.oa.c1
            have z0 := J6.oa.z0
            have z1 := J6.oa.z1
            obtain ⟨q1, q2, q3, q4⟩ := res_facts (u0 := .int .i64 x.size) J6.oa
            clear q3 q4
            clear J6 hr' f6 hcall J a0 a1
            go_wp2
            go_roundw
            case rel => exact ⟨j + 1, _, _, by omega, by omega, by go_num, J7, HB7, HM7⟩
            case measure => simp [intOf]; omega
          · have b43 : (t[j].toNat : Int) = 43 := by rw [gb]; omega
            rw [e2, markN_plus] at HM7 HB7
            clear gb e2
            go_wp2
            refine wp_region_heldD (fun _ => True) hm ?_
            have hS : (fun _ : World => True) wr.drew := trivial
            refine wpAnyH_ready (rs := [0, 1]) (by kernel_rfl) (by simp) ?_
            refine AllReadyH.cons rfl (fun K hK => ?_) ?_
            · have l0 := J.drew.oa.c0
              have l1 := J.drew.oa.c1
              go_simp
              refine hK _ _ trivial ?_
              clear hK K l0 l1
              intro _
              refine wpAnyH_ready (rs := [1]) (by kernel_rfl) (by simp) ?_
              refine AllReadyH.cons rfl (fun K hK => ?_) AllReadyH.nil
              have l0 := J.drew.oa.c0
              have l1 := J.drew.oa.c1
              go_simp
              refine hK _ _ trivial ?_
              clear hK K l0 l1
              intro _
              refine wpAnyH_ready (rs := [2]) (by kernel_rfl) (by simp) ?_
              refine AllReadyH.cons rfl (fun K hK => ?_) AllReadyH.nil
              go_simp
              refine (Hof.out ba Rc _ hBc.out J.drew.ra).mono ?_
              rintro e V1 ⟨b1, hb1, rfl, hr1, f1⟩
              have J5 := J.drew.call f1
              refine hK _ _ trivial ?_
              clear hK K
              intro _
              refine wpAnyH_ready (rs := [3]) (by kernel_rfl) (by simp) ?_
              refine AllReadyH.cons rfl (fun K hK => ?_) AllReadyH.nil
              go_simp
              refine (Hbe.out ba b1 Rc (oftenN x.size Rc) V1 hBc.out (bd_star hBc.out) J5.ra hr1).mono ?_
              rintro e V2 ⟨b', hb', rfl, hr', f2⟩
              have J6 := J5.call f2
              have ne2 := J5.oa.lt
              refine hK _ _ trivial ?_
              clear hK K
              intro _
              refine wpAnyH_ready (rs := [4]) (by kernel_rfl) (by simp) ?_
              refine AllReadyH.cons rfl (fun K hK => ?_) AllReadyH.nil
              have J7 := J6.setA hr' (by omega)
              have c0 := J6.oa.c0
              have c1 := J6.oa.c1
              have z0 := J6.oa.z0
              have z1 := J6.oa.z1
              obtain ⟨q1, q2, q3, q4⟩ := res_facts (u0 := .int .i64 x.size) J6.oa
              clear q3 q4 J6 hr' f2 J5 hr1 f1 J a0 a1
              go_simp
              refine hK _ _ trivial ?_
              clear hK K
              intro _
              refine wpAnyH_done (by kernel_rfl) ?_ _
              go_wp2
              go_roundw
              case rel => exact ⟨j + 1, _, _, by omega, by omega, by go_num, J7, HB7, HM7⟩
              case measure => simp [intOf]; omega
            · refine AllReadyH.cons rfl (fun K hK => ?_) AllReadyH.nil
              have l0 := J.drew.oa.c0
              have l1 := J.drew.oa.c1
              go_simp
              refine hK _ _ trivial ?_
              clear hK K l0 l1
              intro _
              refine wpAnyH_ready (rs := [0, 2]) (by kernel_rfl) (by simp) ?_
              refine AllReadyH.cons rfl (fun K hK => ?_) ?_
              · have l0 := J.drew.oa.c0
                have l1 := J.drew.oa.c1
                go_simp
                refine hK _ _ trivial ?_
                clear hK K l0 l1
                intro _
                refine wpAnyH_ready (rs := [2]) (by kernel_rfl) (by simp) ?_
                refine AllReadyH.cons rfl (fun K hK => ?_) AllReadyH.nil
                go_simp
                refine (Hof.out ba Rc _ hBc.out J.drew.ra).mono ?_
                rintro e V1 ⟨b1, hb1, rfl, hr1, f1⟩
                have J5 := J.drew.call f1
                refine hK _ _ trivial ?_
                clear hK K
                intro _
                refine wpAnyH_ready (rs := [3]) (by kernel_rfl) (by simp) ?_
                refine AllReadyH.cons rfl (fun K hK => ?_) AllReadyH.nil
                go_simp
                refine (Hbe.out ba b1 Rc (oftenN x.size Rc) V1 hBc.out (bd_star hBc.out) J5.ra hr1).mono ?_
                rintro e V2 ⟨b', hb', rfl, hr', f2⟩
                have J6 := J5.call f2
                have ne2 := J5.oa.lt
                refine hK _ _ trivial ?_
                clear hK K
                intro _
                refine wpAnyH_ready (rs := [4]) (by kernel_rfl) (by simp) ?_
                refine AllReadyH.cons rfl (fun K hK => ?_) AllReadyH.nil
                have J7 := J6.setA hr' (by omega)
                have c0 := J6.oa.c0
                have c1 := J6.oa.c1
                have z0 := J6.oa.z0
                have z1 := J6.oa.z1
                obtain ⟨q1, q2, q3, q4⟩ := res_facts (u0 := .int .i64 x.size) J6.oa
                clear q3 q4 J6 hr' f2 J5 hr1 f1 J a0 a1
                go_simp
                refine hK _ _ trivial ?_
                clear hK K
                intro _
                refine wpAnyH_done (by kernel_rfl) ?_ _
                go_wp2
                go_roundw
                case rel => exact ⟨j + 1, _, _, by omega, by omega, by go_num, J7, HB7, HM7⟩
                case measure => simp [intOf]; omega
              · refine AllReadyH.cons rfl (fun K hK => ?_) AllReadyH.nil
                go_simp
                refine (Hof.out ba Rc _ hBc.out J.drew.ra).mono ?_
                rintro e V1 ⟨b1, hb1, rfl, hr1, f1⟩
                have J5 := J.drew.call f1
                refine hK _ _ trivial ?_
                clear hK K
                intro _
                refine wpAnyH_ready (rs := [0]) (by kernel_rfl) (by simp) ?_
                refine AllReadyH.cons rfl (fun K hK => ?_) AllReadyH.nil
                have l0 := J5.oa.c0
                have l1 := J5.oa.c1
                go_simp
                refine hK _ _ trivial ?_
                clear hK K l0 l1
                intro _
                refine wpAnyH_ready (rs := [3]) (by kernel_rfl) (by simp) ?_
                refine AllReadyH.cons rfl (fun K hK => ?_) AllReadyH.nil
                go_simp
                refine (Hbe.out ba b1 Rc (oftenN x.size Rc) V1 hBc.out (bd_star hBc.out) J5.ra hr1).mono ?_
                rintro e V2 ⟨b', hb', rfl, hr', f2⟩
                have J6 := J5.call f2
                have ne2 := J5.oa.lt
                refine hK _ _ trivial ?_
                clear hK K
                intro _
                refine wpAnyH_ready (rs := [4]) (by kernel_rfl) (by simp) ?_
                refine AllReadyH.cons rfl (fun K hK => ?_) AllReadyH.nil
                have J7 := J6.setA hr' (by omega)
                have c0 := J6.oa.c0
                have c1 := J6.oa.c1
                have z0 := J6.oa.z0
                have z1 := J6.oa.z1
                obtain ⟨q1, q2, q3, q4⟩ := res_facts (u0 := .int .i64 x.size) J6.oa
                clear q3 q4 J6 hr' f2 J5 hr1 f1 J a0 a1
                go_simp
                refine hK _ _ trivial ?_
                clear hK K
                intro _
                refine wpAnyH_done (by kernel_rfl) ?_ _
                go_wp2
                go_roundw
                case rel => exact ⟨j + 1, _, _, by omega, by omega, by go_num, J7, HB7, HM7⟩
                case measure => simp [intOf]; omega
          · have b42 : ((t[j].toNat : Int) == 42) = false := by rw [gb]; simp; omega
            have b43 : ((t[j].toNat : Int) == 43) = false := by rw [gb]; simp; omega
            have b63 : (t[j].toNat : Int) = 63 := by rw [gb]; omega
            rw [e2, markN_opt] at HM7 HB7
            clear gb e2
            go_wp2
            refine wp_region_heldD (fun _ => True) hm ?_
            have hS : (fun _ : World => True) wr.drew := trivial
            refine wpAnyH_take (i := 1) (v := ?_) rfl (by kernel_rfl) (by kernel_rfl) (by kernel_rfl) (fun _ _ _ h => h) (.inl ⟨rfl, fun w1 hS1 => ?_⟩) hS ?_
            rotate_left
            · go_simp
              try rfl
            simp only [Act.put, List.setIfInBounds_toArray, List.set_cons_zero, List.set_cons_succ]
            refine wpAnyH_take (i := 2) (v := ?_) rfl (by kernel_rfl) (by kernel_rfl) (by kernel_rfl) (fun _ _ _ h => h) (.inl ⟨rfl, fun w1 hS1 => ?_⟩) hS ?_
            rotate_left
            · go_simp
              try rfl
            simp only [Act.put, List.setIfInBounds_toArray, List.set_cons_zero, List.set_cons_succ]
            refine wpAnyH_ready (rs := [0, 3]) (by kernel_rfl) (by simp) ?_
            refine AllReadyH.cons rfl (fun K hK => ?_) ?_
            · have l0 := J.drew.oa.c0
              have l1 := J.drew.oa.c1
              go_simp
              refine hK _ _ trivial ?_
              clear hK K l0 l1
              intro _
              refine wpAnyH_ready (rs := [3]) (by kernel_rfl) (by simp) ?_
              refine AllReadyH.cons rfl (fun K hK => ?_) AllReadyH.nil
              go_simp
              refine (Hsa.out _).mono ?_
              rintro e V1 ⟨b1, hb1, rfl, hr1, f1⟩
              have J5 := J.drew.call f1
              refine hK _ _ trivial ?_
              clear hK K
              intro _
              refine wpAnyH_ready (rs := [4]) (by kernel_rfl) (by simp) ?_
              refine AllReadyH.cons rfl (fun K hK => ?_) AllReadyH.nil
              go_simp
              refine (Hei.out ba b1 Rc (sameN x.size) V1 J5.ra hr1).mono ?_
              rintro e V2 ⟨b', hb', rfl, hr', f2⟩
              have J6 := J5.call f2
              have ne2 := J5.oa.lt
              refine hK _ _ trivial ?_
              clear hK K
              intro _
              refine wpAnyH_ready (rs := [5]) (by kernel_rfl) (by simp) ?_
              refine AllReadyH.cons rfl (fun K hK => ?_) AllReadyH.nil
              have J7 := J6.setA hr' (by omega)
              have c0 := J6.oa.c0
              have c1 := J6.oa.c1
              have z0 := J6.oa.z0
              have z1 := J6.oa.z1
              obtain ⟨q1, q2, q3, q4⟩ := res_facts (u0 := .int .i64 x.size) J6.oa
              clear q3 q4 J6 hr' f2 J5 hr1 f1 J a0 a1
              go_simp
              refine hK _ _ trivial ?_
              clear hK K
              intro _
              refine wpAnyH_done (by kernel_rfl) ?_ _
              go_wp2
              go_roundw
              case rel => exact ⟨j + 1, _, _, by omega, by omega, by go_num, J7, HB7, HM7⟩
              case measure => simp [intOf]; omega
            · refine AllReadyH.cons rfl (fun K hK => ?_) AllReadyH.nil
              go_simp
              refine (Hsa.out _).mono ?_
              rintro e V1 ⟨b1, hb1, rfl, hr1, f1⟩
              have J5 := J.drew.call f1
              refine hK _ _ trivial ?_
              clear hK K
              intro _
              refine wpAnyH_ready (rs := [0]) (by kernel_rfl) (by simp) ?_
              refine AllReadyH.cons rfl (fun K hK => ?_) AllReadyH.nil
              have l0 := J5.oa.c0
              have l1 := J5.oa.c1
              go_simp
              refine hK _ _ trivial ?_
              clear hK K l0 l1
              intro _
              refine wpAnyH_ready (rs := [4]) (by kernel_rfl) (by simp) ?_
              refine AllReadyH.cons rfl (fun K hK => ?_) AllReadyH.nil
              go_simp
              refine (Hei.out ba b1 Rc (sameN x.size) V1 J5.ra hr1).mono ?_
              rintro e V2 ⟨b', hb', rfl, hr', f2⟩
              have J6 := J5.call f2
              have ne2 := J5.oa.lt
              refine hK _ _ trivial ?_
              clear hK K
              intro _
              refine wpAnyH_ready (rs := [5]) (by kernel_rfl) (by simp) ?_
              refine AllReadyH.cons rfl (fun K hK => ?_) AllReadyH.nil
              have J7 := J6.setA hr' (by omega)
              have c0 := J6.oa.c0
              have c1 := J6.oa.c1
              have z0 := J6.oa.z0
              have z1 := J6.oa.z1
              obtain ⟨q1, q2, q3, q4⟩ := res_facts (u0 := .int .i64 x.size) J6.oa
              clear q3 q4 J6 hr' f2 J5 hr1 f1 J a0 a1
              go_simp
              refine hK _ _ trivial ?_
              clear hK K
              intro _
              refine wpAnyH_done (by kernel_rfl) ?_ _
              go_wp2
              go_roundw
              case rel => exact ⟨j + 1, _, _, by omega, by omega, by go_num, J7, HB7, HM7⟩
              case measure => simp [intOf]; omega
    · have g1 : ¬ ((k : Int) < t.size) := by omega
      obtain ⟨m, R2, h1, h2⟩ := hR.out
      have h3 : R = R1 := by
        cases m with
        | zero => rw [h2, h1.2, behind_same_right hB1.out]
        | succ m =>
          obtain ⟨mid, Ra, Rb, p1, _, p4, _⟩ := h1
          have := partD_lt p1
          have := rowD_le m mid t.size Rb p4
          omega
      subst h3
      have c0 := J.res.c0
      have c1 := J.res.c1
      have z0 := J.res.z0
      have z1 := J.res.z1
      have d0 := J.own.c0
      have d1 := J.own.c1
      obtain ⟨q1, q2, q3, q4⟩ := res_facts (u0 := .int .i64 x.size) J.res
      obtain ⟨k1, k2⟩ := J.fin
      have hb3 := J.hb
      clear J hR h1 h2 Hsa Hof Hbe Hei Hat Hpa hB1
      go_wp2
      exact bodyPost_ret (v := .agg #[.int .i64 x.size, .slice (some ⟨b, 0, none⟩) S S]) (by simp [results, Tryz.results190, go_sem, q3, q4]) rfl ⟨b, by omega, by rw [Hv.out], k1, k2⟩

end Go.Proofs.YtakbfoegkjaphaaGreatDoor

namespace Go.Proofs.YtakbfoegkjaphaaGreatDoor
open Go.RowKit

/-- By steps from i to j, none of them from a bar. -/
def scanC (t x : ByteArray) (n : Nat) : Nat → Nat → Nat → Prop
  | 0, i, j => i = j
  | m + 1, i, j => i < j ∧ byteN t i ≠ 124 ∧ ∃ i', i < i' ∧ PastTo t x n i i' ∧ scanC t x n m i' j

section
variable {t x : ByteArray} {n : Nat}
theorem scanC_le : ∀ m i j, scanC t x n m i j → i ≤ j
  | 0, i, j, h => Nat.le_of_eq h
  | m + 1, i, j, h => Nat.le_of_lt h.1
theorem scanC_app : ∀ m i j m' k, scanC t x n m i j → scanC t x n m' j k → scanC t x n (m + m') i k
  | 0, i, j, m', k, h, h2 => by cases h; rw [Nat.zero_add]; exact h2
  | m + 1, i, j, m', k, ⟨h1, h2, i', h3, h4, h5⟩, hk => by
    have := scanC_le m' j k hk
    rw [Nat.add_right_comm]
    exact ⟨by omega, h2, i', h3, h4, scanC_app m i' j m' k h5 hk⟩
theorem marks_scanC : ∀ k j e R R', marksD t x k j e R R' → scanC t x n k j e
  | 0, j, e, R, R', h => h.1
  | k + 1, j, e, R, R', ⟨h1, h2, h3⟩ => by
    unfold isMark at h2
    exact ⟨h1, by omega, j + 1, by omega, .inr ⟨by omega, by omega, by omega, rfl⟩, marks_scanC k (j + 1) e _ R' h3⟩
theorem row_scanC : ∀ k i e R, rowD t x (atomD t x n) k i e R → ∃ m, scanC t x n m i e
  | 0, i, e, R, h => ⟨0, h.1⟩
  | k + 1, i, e, R, ⟨mid, R1, R2, ⟨j, Ra, nm, h0, h1, h2⟩, _, h3, _⟩ => by
    have hh := atom_head h1
    have g0 : scanC t x n 1 i j := ⟨h0, hh.2.2.2.1, j, h0, .inl ⟨Ra, h1⟩, rfl⟩
    obtain ⟨m2, g2⟩ := row_scanC k mid e R2 h3
    exact ⟨1 + nm + m2, scanC_app _ i mid m2 e (scanC_app 1 i j nm mid g0 (marks_scanC nm j mid Ra R1 h2)) g2⟩
end

/-- What is left of the alternatives: from is where this one began, k how far it has been gone through. -/
def RestC (t x : ByteArray) (n fr k : Nat) (R1 R : RelN) : Prop :=
  (k = t.size + 1 ∧ R = R1) ∨ ∃ mid Rr kk m, fr ≤ k ∧ mid ≤ t.size ∧ rowD t x (atomD t x n) kk fr mid Rr ∧ scanC t x n m k mid ∧
    ((mid = t.size ∧ R = eitherN R1 Rr) ∨ (mid < t.size ∧ byteN t mid = 124 ∧ ∃ R2 k2, choiceD t x (atomD t x n) k2 (mid + 1) t.size R2 ∧ R = eitherN R1 (eitherN Rr R2)))

theorem RestC.of_choice {t x : ByteArray} {n fr : Nat} {R1 R2 R : RelN} {k2 : Nat} (h : choiceD t x (atomD t x n) k2 fr t.size R2) (hR : R = eitherN R1 R2) : RestC t x n fr fr R1 R := by
  cases k2 with
  | zero => exact h.elim
  | succ k2 =>
    obtain ⟨mid, Rr, kk, h1, h2⟩ := h
    obtain ⟨m, hm⟩ := row_scanC kk fr mid Rr h1
    refine .inr ⟨mid, Rr, kk, m, Nat.le_refl _, ?_, h1, hm, ?_⟩
    · rcases h2 with ⟨h2, _⟩ | ⟨h2, _⟩ <;> omega
    · rcases h2 with ⟨h2, h3⟩ | ⟨h2, h3, R3, h4, h5⟩
      · exact .inl ⟨h2, by rw [hR, h3]⟩
      · exact .inr ⟨h2, h3, R3, k2, h4, by rw [hR, h5]⟩

set_option maxRecDepth 100000 in
set_option maxHeartbeats 4000000 in
theorem choice_said_R (n : Nat) (hRow : RowSays n) : ChoiceSays n := by
  intro t x kk R w ht hx hch
  obtain ⟨S, eS⟩ : ∃ S, (x.size + 1) * (x.size + 1) = S := ⟨_, rfl⟩
  have hno := fun W => givesS eS (noneH x.size W hx)
  have hv : ∀ b, relV x.size b = .agg #[.int .i64 x.size, .slice (some ⟨b, 0, none⟩) S S] := fun b => by unfold relV; rw [eS]
  have hei := fun (ba bb : Nat) (Ra Rb : RelN) (W : World) (ha : HasR W x.size ba Ra) (hb : HasR W x.size bb Rb) => givesS eS (eitherH x.size ba bb Ra Rb W hx ha hb)
  have hro := fun (fr e k : Nat) (R0 : RelN) (W : World) (hke : fr ≤ e) (he : e ≤ t.size) (h : rowD t x (atomD t x n) k fr e R0) => givesS eS (hRow (t.extract fr e) x k R0 W (by rw [ByteArray.size_extract]; omega) hx (by
    have sub := sub_extract t fr e hke he
    refine sub.row (sub.atom n) k 0 _ R0 ?_ (by have := sub.size; omega)
    rw [Nat.add_zero, sub.size]
    exact h))
  have hpa := fun (k e : Nat) (W : World) (hk : k < t.size) (he : e ≤ t.size) (h : PastTo t x n k e) => past_atom t x ht n k e hk he h W
  simp only [hv] at hei
  have Hno : Hid _ := hno
  have Hv : Hid _ := hv
  have Hei : Hid _ := hei
  have Hro : Hid _ := hro
  have Hpa : Hid _ := hpa
  have HR0 : Hid (RestC t x n 0 0 (fun _ _ => False) R) := RestC.of_choice hch (by funext i j; simp [eitherN])
  clear hno hv hei hro hpa eS hch hRow
  go_enter Tryz.func129, Tryz.ntmps129
  go_wp2_with fail
  refine (Hno.out _).mono ?_
  rintro e w1 ⟨b, hb, rfl, hr, f1⟩
  rw [World.size_alloc] at hb
  have J0 := RowI.start (S := S) hb hr f1
  clear hr f1 Hno
  generalize hw2 : w1.alloc (.cells #[.int .i64 x.size, .slice (some ⟨b, 0, none⟩) S S] 237) = w2 at J0
  generalize hc : w1.heap.size = c at J0
  go_wp2
  clear hw2 hc hb
  go_loopw [6, 7] (fun u v wr => ∃ (fr k b : Nat) (R1 : RelN), fr ≤ k ∧ k ≤ t.size + 1 ∧ u = .int .i64 fr ∧ v = .int .i64 k ∧ RowI w x.size S b c R1 wr ∧ Hid (RestC t x n fr k R1 R)) (fun _ v _ => t.size + 1 - (intOf v).toNat)
  case atStart => exact ⟨0, 0, b, _, by omega, by omega, rfl, rfl, J0, HR0⟩
  case round =>
    clear J0 HR0
    obtain ⟨fr, k, b, R1, hfk, hk, rfl, rfl, J, hR⟩ := hrel
    have d0 := J.own.c0
    have d1 := J.own.c1
    by_cases hlt : k ≤ t.size
    · have g1 : (k : Int) ≤ t.size := by omega
      rcases hR.out with ⟨h1, _⟩ | ⟨mid, Rr, kk, m, h1, h2, h3, h4, h5⟩
      · omega
      · cases m with
        | zero =>
          have ek : k = mid := h4
          subst ek
          have hrw := Hro.out fr k kk Rr wr h1 h2 h3
          have HR2 : Hid (RestC t x n (k + 1) (k + 1) (eitherN R1 Rr) R) := by
            rcases h5 with ⟨g2, g3⟩ | ⟨g2, g3, R2, k2, g4, g5⟩
            · exact .inl ⟨by omega, g3⟩
            · exact RestC.of_choice g4 (by rw [g5, either_assoc])
          have gfr : (fr : Int) ≤ k := by omega
          have hbar : (k = t.size) ∨ (∃ h : k < t.size, (t[k].toNat : Int) = 124) := by
            rcases h5 with ⟨g2, _⟩ | ⟨g2, g3, _⟩
            · exact .inl g2
            · exact .inr ⟨g2, by rw [getN g2]; omega⟩
          clear h1 h2 h3 h4 h5 hR Hro Hpa
          rcases hbar with hbar | ⟨hl, hbar⟩
          · have gz : ((k : Int) == (t.size : Int)) = true := by simp; omega
            clear hbar
            go_wp2_with fail
            refine hrw.mono ?_
            rintro e w4 ⟨ba, hba, rfl, hra, f4⟩
            have J4 := RowJ.start (J.call f4) hra
            clear hrw hra f4 J hba d0 d1
            generalize hw5 : w4.alloc (.cells #[.int .i64 x.size, .slice (some ⟨ba, 0, none⟩) S S] 237) = w5 at J4
            generalize hca : w4.heap.size = ca at J4
            have hcall := Hei.out b ba R1 Rr w5 J4.base.rel J4.ra
            have d0 := J4.base.own.c0
            have d1 := J4.base.own.c1
            have a0 := J4.oa.c0
            have a1 := J4.oa.c1
            clear Hei
            go_wp2_with fail
            refine hcall.mono ?_
            rintro e w6 ⟨b', hb', rfl, hr', f6⟩
            have J6 := J4.base.call f6
            have bl := J4.base.own.lt
            have bl2 := J4.base.res.lt
            have J7 := J6.setR hr' (by omega) (by omega)
            have c0 := J6.own.c0
            have c1 := J6.own.c1
            have z0 := J6.own.z0
            have z1 := J6.own.z1
            obtain ⟨q1, q2, q3, q4⟩ := res_facts (u0 := .int .i64 x.size) J6.own
            clear q3 q4 J6 hr' f6 hcall J4 a0 a1 d0 d1 bl bl2 hb' hw5 hca
            go_wp2
            go_roundw
            case rel => exact ⟨k + 1, k + 1, b', _, by omega, by omega, by go_num, by go_num, J7, HR2⟩
            case measure => simp [intOf]; omega
          · have gz : ((k : Int) == (t.size : Int)) = false := by simp; omega
            have gl : (k : Int) < t.size := by omega
            go_wp2_with fail
            refine hrw.mono ?_
            rintro e w4 ⟨ba, hba, rfl, hra, f4⟩
            have J4 := RowJ.start (J.call f4) hra
            clear hrw hra f4 J hba d0 d1
            generalize hw5 : w4.alloc (.cells #[.int .i64 x.size, .slice (some ⟨ba, 0, none⟩) S S] 237) = w5 at J4
            generalize hca : w4.heap.size = ca at J4
            have hcall := Hei.out b ba R1 Rr w5 J4.base.rel J4.ra
            have d0 := J4.base.own.c0
            have d1 := J4.base.own.c1
            have a0 := J4.oa.c0
            have a1 := J4.oa.c1
            clear Hei
            go_wp2_with fail
            refine hcall.mono ?_
            rintro e w6 ⟨b', hb', rfl, hr', f6⟩
            have J6 := J4.base.call f6
            have bl := J4.base.own.lt
            have bl2 := J4.base.res.lt
            have J7 := J6.setR hr' (by omega) (by omega)
            have c0 := J6.own.c0
            have c1 := J6.own.c1
            have z0 := J6.own.z0
            have z1 := J6.own.z1
            obtain ⟨q1, q2, q3, q4⟩ := res_facts (u0 := .int .i64 x.size) J6.own
            clear q3 q4 J6 hr' f6 hcall J4 a0 a1 d0 d1 bl bl2 hb' hw5 hca
            go_wp2
            go_roundw
            case rel => exact ⟨k + 1, k + 1, b', _, by omega, by omega, by go_num, by go_num, J7, HR2⟩
            case measure => simp [intOf]; omega
        | succ m =>
          obtain ⟨u1, u2, i', u3, u4, u5⟩ := h4
          have hle := scanC_le m i' mid u5
          have hl : k < t.size := by omega
          have gl : (k : Int) < t.size := by omega
          have gz : ((k : Int) == (t.size : Int)) = false := by simp; omega
          have gb := getN hl
          have b124 : ((t[k].toNat : Int) == 124) = false := by rw [gb]; simp; omega
          have hp := Hpa.out k i' wr hl (by omega) u4
          have HR2 : Hid (RestC t x n fr i' R1 R) := .inr ⟨mid, Rr, kk, m, by omega, h2, h3, u5, h5⟩
          clear gb u2 u4 u5 h3 h5 hR Hro Hpa Hei d0 d1
          go_wp2_with fail
          refine hp.mono ?_
          rintro e w3 ⟨rfl, hw3⟩
          rw [hw3]
          clear hw3 hp
          go_wp2
          go_roundw
          case rel => exact ⟨fr, i', b, R1, by omega, by omega, rfl, rfl, J, HR2⟩
          case measure => simp [intOf]; omega
    · have g1 : ¬ ((k : Int) ≤ t.size) := by omega
      have h3 : R = R1 := by
        rcases hR.out with ⟨_, h⟩ | ⟨mid, Rr, kk, m, h1, h2, h3, h4, h5⟩
        · exact h
        · have := scanC_le m k mid h4; omega
      subst h3
      have c0 := J.res.c0
      have c1 := J.res.c1
      have z0 := J.res.z0
      have z1 := J.res.z1
      obtain ⟨q1, q2, q3, q4⟩ := res_facts (u0 := .int .i64 x.size) J.res
      obtain ⟨k1, k2⟩ := J.fin
      have hb3 := J.hb
      clear J hR Hei Hro Hpa
      go_wp2
      exact bodyPost_ret (v := .agg #[.int .i64 x.size, .slice (some ⟨b, 0, none⟩) S S]) (by simp [results, Tryz.results129, go_sem, q3, q4]) rfl ⟨b, by omega, by rw [Hv.out], k1, k2⟩

/-- Alternatives, however deep. -/
theorem choice_all : ∀ n, ChoiceSays n ∧ RowSays n ∧ AtomSays n
  | 0 => by
    have hA : AtomSays 0 := fun t x R w _ _ h => h.elim
    exact ⟨choice_said_R 0 (row_said_R 0 hA), row_said_R 0 hA, hA⟩
  | n + 1 => by
    have hA := atom_said_R n (choice_all n).1
    exact ⟨choice_said_R _ (row_said_R _ hA), row_said_R _ hA, hA⟩

end Go.Proofs.YtakbfoegkjaphaaGreatDoor

