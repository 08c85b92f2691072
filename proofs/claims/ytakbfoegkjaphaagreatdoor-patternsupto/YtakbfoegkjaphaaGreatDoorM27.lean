/-
  The document's atom: marks of the text's ends, and what takes a byte. The document's row: what is kept in its rounds.
-/
import Derived.Test.YtakbfoegkjaphaaGreatDoorM26
set_option linter.unusedSimpArgs false
set_option linter.unusedVariables false
namespace Go.Proofs.YtakbfoegkjaphaaGreatDoor
open Go.RowKit

theorem putH (N S b i j : Nat) (R : RelN) (w : World) (eS : (N + 1) * (N + 1) = S) (h : HasR w N b R) (hN : N ≤ 100) (hi : i ≤ N) (hj : j ≤ N) :
    Calls Tryz.prog 244 #[.agg #[.int .i64 N, .slice (some ⟨b, 0, none⟩) S S], .int .i64 i, .int .i64 j] w fun e w' => e = .returned (.tuple #[]) ∧ HasR w' N b (fun a c => R a c ∨ (a = i ∧ c = j)) ∧ Fr [b] w w' := by
  obtain ⟨r, h1, h2⟩ := h
  have hp := put_any N b i j r w h1 hN hi hj
  unfold relV at hp
  rw [eS] at hp
  exact hp.mono fun e w' ⟨k1, k2, k3⟩ => ⟨k1, ⟨_, k2, fun a c ha hc => by rw [Bool.or_eq_true, h2 a c ha hc, Bool.and_eq_true, decide_eq_true_eq, decide_eq_true_eq]⟩, k3⟩

structure AtI (w : World) (N S b c : Nat) (R : RelN) (W : World) : Prop where
  rel : HasR W N b R
  own : Own2 W c (.int .i64 N) (.slice (some ⟨b, 0, none⟩) S S)
  res : Own2 W w.heap.size (.int .i64 0) (.slice none 0 0)
  fr : Fr [] w W
  hb : w.heap.size < b
  hc : b < c
theorem AtI.put {w : World} {N S b c : Nat} {R R' : RelN} {W W' : World} (h : AtI w N S b c R W) (hf : Fr [b] W W') (hr : HasR W' N b R') : AtI w N S b c R' W' := by
  have h1 := h.hb
  have h2 := h.hc
  exact ⟨hr, h.own.fr hf (by simp; omega), h.res.fr hf (by simp; omega), h.fr.trans' hf (by simp; omega), h1, h2⟩
theorem AtI.same {w : World} {N S b c : Nat} {R : RelN} {W W' : World} (h : AtI w N S b c R W) (hf : Fr [] W W') : AtI w N S b c R W' :=
  ⟨h.rel.fr hf (by simp), h.own.fr hf (by simp), h.res.fr hf (by simp), h.fr.trans hf, h.hb, h.hc⟩
theorem AtI.start {w w1 : World} {N S b : Nat} {R : RelN} (hb : w.heap.size + 1 ≤ b) (hr : HasR w1 N b R) (f1 : Fr [] (w.alloc (.cells #[.int .i64 0, .slice none 0 0] 237)) w1) :
    AtI w N S b w1.heap.size R (w1.alloc (.cells #[.int .i64 N, .slice (some ⟨b, 0, none⟩) S S] 237)) := by
  have f2 : Fr [] w1 (w1.alloc (.cells #[.int .i64 N, .slice (some ⟨b, 0, none⟩) S S] 237)) := (Fr.refl [] w1).alloc _
  exact ⟨hr.fr f2 (by simp), Own2.new w1 _ _ 237, ((Own2.new w _ _ 237).fr f1 (by simp)).fr f2 (by simp), (((Fr.refl [] w).alloc _).trans f1).trans f2, by omega, hr.lt⟩
/-- The result is laid down. -/
theorem AtI.fin {w : World} {N S b c : Nat} {R : RelN} {W : World} (h : AtI w N S b c R W) :
    HasR ((W.setCell ⟨w.heap.size, 0, none⟩ (.int .i64 N)).setCell ⟨w.heap.size, 1, none⟩ (.slice (some ⟨b, 0, none⟩) S S)) N b R ∧ Fr [] w ((W.setCell ⟨w.heap.size, 0, none⟩ (.int .i64 N)).setCell ⟨w.heap.size, 1, none⟩ (.slice (some ⟨b, 0, none⟩) S S)) := by
  have ff := res_fr (W := W) (c := w.heap.size) (.int .i64 N) (.slice (some ⟨b, 0, none⟩) S S)
  have h1 := h.hb
  exact ⟨h.rel.fr ff (by simp; omega), h.fr.trans' ff (by simp)⟩

set_option maxRecDepth 100000 in
set_option maxHeartbeats 2000000 in
theorem atom_begin_R (x : ByteArray) (w : World) (hx : x.size ≤ 100) : Calls Tryz.prog 224 #[.string ⟨#[94]⟩, .string x] w (GivesR w x.size (fun i j => i = 0 ∧ j = 0)) := by
  obtain ⟨S, eS⟩ : ∃ S, (x.size + 1) * (x.size + 1) = S := ⟨_, rfl⟩
  have hn := fun W => givesS eS (noneH x.size W hx)
  have hp := fun (b : Nat) (W : World) (h : HasR W x.size b (fun _ _ => False)) => putH x.size S b 0 0 _ W eS h hx (by omega) (by omega)
  have hv : ∀ b, relV x.size b = .agg #[.int .i64 x.size, .slice (some ⟨b, 0, none⟩) S S] := fun b => by unfold relV; rw [eS]
  have Hn : Hid _ := hn
  have Hp : Hid _ := hp
  have Hv : Hid _ := hv
  clear hn hp hv eS
  go_enter Tryz.func224, Tryz.ntmps224
  go_wp2_with fail
  refine (Hn.out _).mono ?_
  rintro e w1 ⟨b, hb, rfl, hr, f1⟩
  rw [World.size_alloc] at hb
  have J := AtI.start (S := S) hb hr f1
  clear hr f1 Hn
  generalize hw2 : w1.alloc (.cells #[.int .i64 x.size, .slice (some ⟨b, 0, none⟩) S S] 237) = w2 at J
  generalize hc : w1.heap.size = c at J
  have hput := Hp.out b w2 J.rel
  have a0 := J.own.c0
  have a1 := J.own.c1
  go_wp2_with fail
  refine hput.mono ?_
  rintro e w3 ⟨rfl, hr3, f3⟩
  have J3 := J.put f3 hr3
  clear hput hr3 f3 J a0 a1 hw2 hc
  have c0 := J3.res.c0
  have c1 := J3.res.c1
  have z0 := J3.res.z0
  have z1 := J3.res.z1
  have a0 := J3.own.c0
  have a1 := J3.own.c1
  obtain ⟨q1, q2, q3, q4⟩ := res_facts (u0 := .int .i64 x.size) J3.res
  obtain ⟨k1, k2⟩ := J3.fin
  have hb3 := J3.hb
  clear J3
  go_wp2
  refine bodyPost_ret (v := .agg #[.int .i64 x.size, .slice (some ⟨b, 0, none⟩) S S]) (by simp [results, Tryz.results224, go_sem, q3, q4]) rfl ⟨b, by omega, by rw [Hv.out], ?_, k2⟩
  obtain ⟨r, m1, m2⟩ := k1
  exact ⟨r, m1, fun i j hi hj => by rw [m2 i j hi hj]; simp⟩

set_option maxRecDepth 100000 in
set_option maxHeartbeats 2000000 in
theorem atom_end_R (x : ByteArray) (w : World) (hx : x.size ≤ 100) : Calls Tryz.prog 224 #[.string ⟨#[36]⟩, .string x] w (GivesR w x.size (fun i j => i = x.size ∧ j = x.size)) := by
  obtain ⟨S, eS⟩ : ∃ S, (x.size + 1) * (x.size + 1) = S := ⟨_, rfl⟩
  have hn := fun W => givesS eS (noneH x.size W hx)
  have hp := fun (b : Nat) (W : World) (h : HasR W x.size b (fun _ _ => False)) => putH x.size S b x.size x.size _ W eS h hx (by omega) (by omega)
  have hv : ∀ b, relV x.size b = .agg #[.int .i64 x.size, .slice (some ⟨b, 0, none⟩) S S] := fun b => by unfold relV; rw [eS]
  have Hn : Hid _ := hn
  have Hp : Hid _ := hp
  have Hv : Hid _ := hv
  clear hn hp hv eS
  go_enter Tryz.func224, Tryz.ntmps224
  go_wp2_with fail
  refine (Hn.out _).mono ?_
  rintro e w1 ⟨b, hb, rfl, hr, f1⟩
  rw [World.size_alloc] at hb
  have J := AtI.start (S := S) hb hr f1
  clear hr f1 Hn
  generalize hw2 : w1.alloc (.cells #[.int .i64 x.size, .slice (some ⟨b, 0, none⟩) S S] 237) = w2 at J
  generalize hc : w1.heap.size = c at J
  have hput := Hp.out b w2 J.rel
  have a0 := J.own.c0
  have a1 := J.own.c1
  go_wp2_with fail
  refine hput.mono ?_
  rintro e w3 ⟨rfl, hr3, f3⟩
  have J3 := J.put f3 hr3
  clear hput hr3 f3 J a0 a1 hw2 hc
  have c0 := J3.res.c0
  have c1 := J3.res.c1
  have z0 := J3.res.z0
  have z1 := J3.res.z1
  have a0 := J3.own.c0
  have a1 := J3.own.c1
  obtain ⟨q1, q2, q3, q4⟩ := res_facts (u0 := .int .i64 x.size) J3.res
  obtain ⟨k1, k2⟩ := J3.fin
  have hb3 := J3.hb
  clear J3
  go_wp2
  refine bodyPost_ret (v := .agg #[.int .i64 x.size, .slice (some ⟨b, 0, none⟩) S S]) (by simp [results, Tryz.results224, go_sem, q3, q4]) rfl ⟨b, by omega, by rw [Hv.out], ?_, k2⟩
  obtain ⟨r, m1, m2⟩ := k1
  exact ⟨r, m1, fun i j hi hj => by rw [m2 i j hi hj]; simp⟩

set_option maxRecDepth 100000 in
set_option maxHeartbeats 2000000 in
theorem atom_single_R (t x : ByteArray) (w : World) (ht : t.size ≤ 50) (hx : x.size ≤ 100) (h0 : 0 < t.size) (h40 : byteN t 0 ≠ 40) (h94 : byteN t 0 ≠ 94) (h36 : byteN t 0 ≠ 36) (hs : spanD t 0 t.size) :
    Calls Tryz.prog 224 #[.string t, .string x] w (GivesR w x.size (fun i j => i < x.size ∧ oneF t 0 t.size (byteN x i) = true ∧ j = i + 1)) := by
  obtain ⟨S, eS⟩ : ∃ S, (x.size + 1) * (x.size + 1) = S := ⟨_, rfl⟩
  have hn := fun W => givesS eS (noneH x.size W hx)
  have hp := fun (b k : Nat) (R : RelN) (W : World) (h : HasR W x.size b R) (hk : k < x.size) => putH x.size S b k (k + 1) R W eS h hx (by omega) (by omega)
  have hv : ∀ b, relV x.size b = .agg #[.int .i64 x.size, .slice (some ⟨b, 0, none⟩) S S] := fun b => by unfold relV; rw [eS]
  have ho := fun (c : Nat) (hc : c < 256) (W : World) => one_any t c hc ht h0 hs W
  have g1 : (0 : Int) < t.size := by omega
  have gn := getN h0
  have b1 : ((t[0].toNat : Int) == 40) = false := by rw [gn]; simp; omega
  have n1 : (t.toList == (ByteArray.mk #[94]).toList) = false := by
    rw [eq_str]; exact decide_eq_false (fun e => h94 (by rw [e]; rfl))
  have n2 : (t.toList == (ByteArray.mk #[36]).toList) = false := by
    rw [eq_str]; exact decide_eq_false (fun e => h36 (by rw [e]; rfl))
  rw [show (ByteArray.mk #[94]).toList = [94] by rw [ByteArray.toList_eq]] at n1
  rw [show (ByteArray.mk #[36]).toList = [36] by rw [ByteArray.toList_eq]] at n2
  have Hn : Hid _ := hn
  have Hp : Hid _ := hp
  have Hv : Hid _ := hv
  have Ho : Hid _ := ho
  clear hn hp hv ho eS gn h40 h94 h36 hs
  go_enter Tryz.func224, Tryz.ntmps224
  go_wp2_with fail
  refine (Hn.out _).mono ?_
  rintro e w1 ⟨b, hb, rfl, hr, f1⟩
  rw [World.size_alloc] at hb
  have J0 := AtI.start (S := S) hb hr f1
  clear hr f1 Hn
  generalize hw2 : w1.alloc (.cells #[.int .i64 x.size, .slice (some ⟨b, 0, none⟩) S S] 237) = w2 at J0
  generalize hc : w1.heap.size = c at J0
  go_wp2
  clear hw2 hc n1 n2 b1
  have J1 : AtI w x.size S b c (fun i j => i < x.size ∧ oneF t 0 t.size (byteN x i) = true ∧ j = i + 1 ∧ i < 0) w2 := by
    obtain ⟨⟨r, m1, m2⟩, q⟩ := J0
    exact ⟨⟨r, m1, fun i j hi hj => by rw [m2 i j hi hj]; simp⟩, by assumption, by assumption, by assumption, by assumption, by assumption⟩
  clear J0
  go_loopw [6] (fun v wr => ∃ k : Nat, k ≤ x.size ∧ v = .int .i64 k ∧ AtI w x.size S b c (fun i j => i < x.size ∧ oneF t 0 t.size (byteN x i) = true ∧ j = i + 1 ∧ i < k) wr) (fun v _ => x.size - (intOf v).toNat)
  case atStart => exact ⟨0, by omega, rfl, J1⟩
  case round =>
    clear J1
    obtain ⟨k, hk, rfl, J⟩ := hrel
    have a0 := J.own.c0
    have a1 := J.own.c1
    by_cases hlt : k < x.size
    · have g2 : (k : Int) < x.size := by omega
      have gk := getN hlt
      have hone := Ho.out (byteN x k) (byteN_lt x k) wr
      rw [← gk] at hone
      cases hv : oneF t 0 t.size (byteN x k) with
      | false =>
        rw [hv] at hone
        have J2 : AtI w x.size S b c (fun i j => i < x.size ∧ oneF t 0 t.size (byteN x i) = true ∧ j = i + 1 ∧ i < k + 1) wr := by
          obtain ⟨⟨r, m1, m2⟩, q⟩ := J
          refine ⟨⟨r, m1, fun i j hi hj => ?_⟩, by assumption, by assumption, by assumption, by assumption, by assumption⟩
          rw [m2 i j hi hj]
          constructor
          · rintro ⟨u1, u2, u3, u4⟩; exact ⟨u1, u2, u3, by omega⟩
          · rintro ⟨u1, u2, u3, u4⟩
            refine ⟨u1, u2, u3, ?_⟩
            rcases Nat.lt_or_ge i k with q | q
            · exact q
            · obtain rfl : i = k := by omega
              rw [hv] at u2; cases u2
        clear J gk
        go_wp2_with fail
        refine hone.mono ?_
        rintro e w3 ⟨rfl, hw3⟩
        rw [hw3]
        clear hw3 hone
        go_wp2
        go_roundw
        case rel => exact ⟨k + 1, by omega, by go_num, J2⟩
        case measure => simp [intOf]; omega
      | true =>
        rw [hv] at hone
        have hput := Hp.out b k _ wr J.rel hlt
        rw [show ((k + 1 : Nat) : Int) = (k : Int) + 1 by omega] at hput
        clear gk
        go_wp2_with fail
        refine hone.mono ?_
        rintro e w3 ⟨rfl, hw3⟩
        rw [hw3]
        clear hw3 hone
        go_wp2_with fail
        refine hput.mono ?_
        rintro e w4 ⟨rfl, hr4, f4⟩
        have J2 : AtI w x.size S b c (fun i j => i < x.size ∧ oneF t 0 t.size (byteN x i) = true ∧ j = i + 1 ∧ i < k + 1) w4 := by
          refine J.put f4 ?_
          obtain ⟨r, m1, m2⟩ := hr4
          refine ⟨r, m1, fun i j hi hj => ?_⟩
          rw [m2 i j hi hj]
          constructor
          · rintro (⟨u1, u2, u3, u4⟩ | ⟨rfl, rfl⟩)
            · exact ⟨u1, u2, u3, by omega⟩
            · exact ⟨hlt, hv, rfl, by omega⟩
          · rintro ⟨u1, u2, u3, u4⟩
            rcases Nat.lt_or_ge i k with q | q
            · exact .inl ⟨u1, u2, u3, q⟩
            · exact .inr ⟨by omega, by omega⟩
        clear J hput hr4 f4 a0 a1
        go_wp2
        go_roundw
        case rel => exact ⟨k + 1, by omega, by go_num, J2⟩
        case measure => simp [intOf]; omega
    · have g2 : ¬ ((k : Int) < x.size) := by omega
      have c0 := J.res.c0
      have c1 := J.res.c1
      have z0 := J.res.z0
      have z1 := J.res.z1
      obtain ⟨q1, q2, q3, q4⟩ := res_facts (u0 := .int .i64 x.size) J.res
      obtain ⟨⟨r, m1, m2⟩, k2⟩ := J.fin
      have hb3 := J.hb
      clear J Hp Ho
      go_wp2
      refine bodyPost_ret (v := .agg #[.int .i64 x.size, .slice (some ⟨b, 0, none⟩) S S]) (by simp [results, Tryz.results224, go_sem, q3, q4]) rfl ⟨b, by omega, by rw [Hv.out], ⟨r, m1, fun i j hi hj => ?_⟩, k2⟩
      rw [m2 i j hi hj]
      exact ⟨fun ⟨u1, u2, u3, u4⟩ => ⟨u1, u2, u3⟩, fun ⟨u1, u2, u3⟩ => ⟨u1, u2, u3, by omega⟩⟩

/-- An atom's relation. -/
theorem atom_said_R (n : Nat) (hC : ChoiceSays n) : AtomSays (n + 1) := by
  intro t x R w ht hx h
  rw [atomD] at h
  obtain ⟨h1, h2, h3, h4, h5, h6⟩ := h
  rcases h6 with ⟨g1, g2, g3, k, g4⟩ | ⟨g1, g2, g3⟩ | ⟨g1, g2, g3⟩ | ⟨g1, g2, g3, g4, g5⟩
  · exact atom_group_R n hC t x k R w ht hx g1 g2 g4
  · rw [g3, one_byte (t := t) (c := 94) (by omega) (by rw [g1]; rfl)]; exact atom_begin_R x w hx
  · rw [g3, one_byte (t := t) (c := 36) (by omega) (by rw [g1]; rfl)]; exact atom_end_R x w hx
  · rw [g5]; exact atom_single_R t x w ht hx h2 g1 g2 g3 g4

end Go.Proofs.YtakbfoegkjaphaaGreatDoor

namespace Go.Proofs.YtakbfoegkjaphaaGreatDoor
open Go.RowKit

structure RowI (w : World) (N S b c : Nat) (R : RelN) (W : World) : Prop where
  rel : HasR W N b R
  own : Own2 W c (.int .i64 N) (.slice (some ⟨b, 0, none⟩) S S)
  res : Own2 W w.heap.size (.int .i64 0) (.slice none 0 0)
  fr : Fr [] w W
  hb : w.heap.size < b
  hc : w.heap.size < c
  ne : b ≠ c
structure RowJ (w : World) (N S b c : Nat) (R : RelN) (ba ca : Nat) (Ra : RelN) (W : World) : Prop where
  base : RowI w N S b c R W
  ra : HasR W N ba Ra
  oa : Own2 W ca (.int .i64 N) (.slice (some ⟨ba, 0, none⟩) S S)
  h1 : w.heap.size < ca
  h2 : ca ≠ c
  h3 : ca ≠ b
  h4 : ca ≠ ba
section
variable {w : World} {N S b c ba ca : Nat} {R Ra : RelN} {W W' : World}

theorem RowI.call (h : RowI w N S b c R W) (hf : Fr [] W W') : RowI w N S b c R W' :=
  ⟨h.rel.fr hf (by simp), h.own.fr hf (by simp), h.res.fr hf (by simp), h.fr.trans hf, h.hb, h.hc, h.ne⟩
theorem RowJ.call (h : RowJ w N S b c R ba ca Ra W) (hf : Fr [] W W') : RowJ w N S b c R ba ca Ra W' :=
  ⟨h.base.call hf, h.ra.fr hf (by simp), h.oa.fr hf (by simp), h.h1, h.h2, h.h3, h.h4⟩
theorem RowI.drew (h : RowI w N S b c R W) : RowI w N S b c R W.drew := h.call ((Fr.refl [] W).drew)
theorem RowJ.drew (h : RowJ w N S b c R ba ca Ra W) : RowJ w N S b c R ba ca Ra W.drew := h.call ((Fr.refl [] W).drew)

theorem Own2.set {v0 v1 u0 u1 : Value} (h : Own2 W c v0 v1) : Own2 ((W.setCell ⟨c, 0, none⟩ u0).setCell ⟨c, 1, none⟩ u1) c u0 u1 := by
  obtain ⟨q1, q2, q3, q4⟩ := res_facts (u0 := u0) h
  exact ⟨q3 _, q4 _, (World.frozen?_setCell _ _ _ _).trans ((World.frozen?_setCell _ _ _ _).trans h.z0), (World.frozen?_setCell _ _ _ _).trans ((World.frozen?_setCell _ _ _ _).trans h.z1)⟩

/-- The atom's relation is another. -/
theorem RowJ.setA (h : RowJ w N S b c R ba ca Ra W) {ba' : Nat} {Ra' : RelN} (hr : HasR W N ba' Ra') (hne : ca ≠ ba') :
    RowJ w N S b c R ba' ca Ra' ((W.setCell ⟨ca, 0, none⟩ (.int .i64 N)).setCell ⟨ca, 1, none⟩ (.slice (some ⟨ba', 0, none⟩) S S)) := by
  have ff := res_fr (W := W) (c := ca) (.int .i64 N) (.slice (some ⟨ba', 0, none⟩) S S)
  have k1 := h.h1
  have k2 := h.h2
  have k3 := h.h3
  have e1 := h.base.hb
  have e2 := h.base.hc
  refine ⟨⟨h.base.rel.fr ff (by simp; omega), h.base.own.fr ff (by simp; omega), h.base.res.fr ff (by simp; omega), h.base.fr.trans' ff (by simp; omega), e1, e2, h.base.ne⟩, hr.fr ff (by simp; omega), h.oa.set, k1, k2, k3, hne⟩
/-- The row's relation is another. -/
theorem RowI.setR (h : RowI w N S b c R W) {b' : Nat} {R' : RelN} (hr : HasR W N b' R') (hb : w.heap.size < b') (hne : b' ≠ c) :
    RowI w N S b' c R' ((W.setCell ⟨c, 0, none⟩ (.int .i64 N)).setCell ⟨c, 1, none⟩ (.slice (some ⟨b', 0, none⟩) S S)) := by
  have ff := res_fr (W := W) (c := c) (.int .i64 N) (.slice (some ⟨b', 0, none⟩) S S)
  have e2 := h.hc
  exact ⟨hr.fr ff (by simp; omega), h.own.set, h.res.fr ff (by simp; omega), h.fr.trans' ff (by simp; omega), hb, e2, hne⟩
theorem RowI.start {w1 : World} (hb : w.heap.size + 1 ≤ b) (hr : HasR w1 N b R) (f1 : Fr [] (w.alloc (.cells #[.int .i64 0, .slice none 0 0] 237)) w1) :
    RowI w N S b w1.heap.size R (w1.alloc (.cells #[.int .i64 N, .slice (some ⟨b, 0, none⟩) S S] 237)) := by
  have h := AtI.start (S := S) hb hr f1
  have hs := f1.size
  rw [World.size_alloc] at hs
  exact ⟨h.rel, h.own, h.res, h.fr, h.hb, by omega, by have := hr.lt; omega⟩
theorem RowJ.start (h : RowI w N S b c R W) (hr : HasR W N ba Ra) : RowJ w N S b c R ba W.heap.size Ra (W.alloc (.cells #[.int .i64 N, .slice (some ⟨ba, 0, none⟩) S S] 237)) := by
  have f2 : Fr [] W (W.alloc (.cells #[.int .i64 N, .slice (some ⟨ba, 0, none⟩) S S] 237)) := (Fr.refl [] W).alloc _
  have h1 := h.rel.lt
  have h2 := h.own.lt
  have h3 := h.res.lt
  have h4 := hr.lt
  exact ⟨h.call f2, hr.fr f2 (by simp), Own2.new W _ _ 237, h3, by omega, by omega, by omega⟩
theorem RowI.fin (h : RowI w N S b c R W) :
    HasR ((W.setCell ⟨w.heap.size, 0, none⟩ (.int .i64 N)).setCell ⟨w.heap.size, 1, none⟩ (.slice (some ⟨b, 0, none⟩) S S)) N b R ∧ Fr [] w ((W.setCell ⟨w.heap.size, 0, none⟩ (.int .i64 N)).setCell ⟨w.heap.size, 1, none⟩ (.slice (some ⟨b, 0, none⟩) S S)) := by
  have ff := res_fr (W := W) (c := w.heap.size) (.int .i64 N) (.slice (some ⟨b, 0, none⟩) S S)
  have h1 := h.hb
  exact ⟨h.rel.fr ff (by simp; omega), h.fr.trans' ff (by simp)⟩
end

end Go.Proofs.YtakbfoegkjaphaaGreatDoor

