/-
  A module read whole.
-/
import Derived.Test.YticaoekmlaipnaaDoorM21
import Derived.Test.YticaoekmlaipnaaDoorM22
import Derived.Test.YticaoekmlaipnaaDoorM23
import Derived.Test.YticaoekmlaipnaaDoorM24
set_option linter.unusedSimpArgs false
set_option linter.unusedVariables false
namespace Go.Proofs.YticaoekmlaipnaaDoor
open Go.RowKit
open Wire

theorem eq_strU (a b : ByteArray) : (a.toList == b.toList) = decide (a = b) := by
  rw [ByteArray.toList_eq, ByteArray.toList_eq, Bool.eq_iff_iff]
  simp only [beq_iff_eq, decide_eq_true_eq]
  exact ⟨fun h => ByteArray.ext (Array.toList_inj.1 h), fun h => by rw [h]⟩

def zeroM : Array Value := #[.slice none 0 0, .slice none 0 0, .int .i64 0, .int .i64 0, .slice none 0 0]

theorem far_nil (B : Nat) (W : World) : StrsFar B W (.slice none 0 0) [] := ⟨none, 0, 0, 0, rfl, Nat.le_refl _, fun h => absurd h (Nat.lt_irrefl _), fun i x hx => by cases hx⟩
theorem farF_nil (B : Nat) (W : World) : FnsFar B W (.slice none 0 0) [] := ⟨none, 0, 0, 0, rfl, Nat.le_refl _, fun h => absurd h (Nat.lt_irrefl _), fun i x hx => by cases hx⟩

theorem BoxI.start (w : World) (r : Nat) (hr : r < w.heap.size) (hr0 : r ≠ 0) (hT : Tab w) :
    BoxI (w.heap.size + 1 + 1 + 1) r w.heap.size (w.heap.size + 1 + 1) none none none none none (((w.alloc (.cells #[.pointer (some ⟨r, 0, none⟩)] 110)).alloc (.cells zeroM 43)).alloc (.cells zeroM 43)) := by
  have hT0 := hT.lt
  have f0 : Fr [] w (((w.alloc (.cells #[.pointer (some ⟨r, 0, none⟩)] 110)).alloc (.cells zeroM 43)).alloc (.cells zeroM 43)) := (((Fr.refl [] w).alloc _).alloc _).alloc _
  have hm := World.alloc_heap_new ((w.alloc (.cells #[.pointer (some ⟨r, 0, none⟩)] 110)).alloc (.cells zeroM 43)) (.cells zeroM 43)
  rw [World.size_alloc, World.size_alloc] at hm
  have h1 := World.alloc_heap_new w (.cells #[.pointer (some ⟨r, 0, none⟩)] 110)
  have hr1 : (((w.alloc (.cells #[.pointer (some ⟨r, 0, none⟩)] 110)).alloc (.cells zeroM 43)).alloc (.cells zeroM 43)).heap[w.heap.size]? = some (.cells #[.pointer (some ⟨r, 0, none⟩)] 110) := by
    rw [Below.heap_alloc _ _ _ (by simp; omega), Below.heap_alloc _ _ _ (by simp), h1]
  have cm : ∀ i, (((w.alloc (.cells #[.pointer (some ⟨r, 0, none⟩)] 110)).alloc (.cells zeroM 43)).alloc (.cells zeroM 43)).cell? ⟨w.heap.size + 1 + 1, i, none⟩ = zeroM[i]? := fun i => by
    unfold World.cell?; rw [hm]; simp
  refine ⟨hT.fr f0 (by simp), by unfold World.cell?; rw [hr1]; rfl, ⟨_, [], cm 0, far_nil _ _, fun X h => by cases h⟩, ⟨_, [], cm 1, far_nil _ _, fun X h => by cases h⟩, ⟨0, cm 2, fun X h => by cases h⟩, ⟨0, cm 3, fun X h => by cases h⟩, ⟨_, [], cm 4, farF_nil _ _, fun X h => by cases h⟩,
    fun i => by unfold World.frozen?; rw [hm]; simp, hr0, by omega, by omega, by omega, by omega, by omega, by omega, by simp⟩

/-- Five cells stored. -/
def put5 (W : World) (g : Nat) (v0 v1 v2 v3 v4 : Value) : World := ((((W.setCell ⟨g, 0, none⟩ v0).setCell ⟨g, 1, none⟩ v1).setCell ⟨g, 2, none⟩ v2).setCell ⟨g, 3, none⟩ v3).setCell ⟨g, 4, none⟩ v4
theorem put5_fr (W : World) (g : Nat) (v0 v1 v2 v3 v4 : Value) : Fr [g] W (put5 W g v0 v1 v2 v3 v4) :=
  (((((Fr.refl [g] W).setCell (p := ⟨g, 0, none⟩) (.inl (by simp)) _).setCell (p := ⟨g, 1, none⟩) (.inl (by simp)) _).setCell (p := ⟨g, 2, none⟩) (.inl (by simp)) _).setCell (p := ⟨g, 3, none⟩) (.inl (by simp)) _).setCell (p := ⟨g, 4, none⟩) (.inl (by simp)) _
theorem put5_cells {W : World} {g : Nat} {u0 u1 u2 u3 u4 : Value} (v0 v1 v2 v3 v4 : Value) (e0 : W.cell? ⟨g, 0, none⟩ = some u0) (e1 : W.cell? ⟨g, 1, none⟩ = some u1) (e2 : W.cell? ⟨g, 2, none⟩ = some u2) (e3 : W.cell? ⟨g, 3, none⟩ = some u3) (e4 : W.cell? ⟨g, 4, none⟩ = some u4) :
    (put5 W g v0 v1 v2 v3 v4).cell? ⟨g, 0, none⟩ = some v0 ∧ (put5 W g v0 v1 v2 v3 v4).cell? ⟨g, 1, none⟩ = some v1 ∧ (put5 W g v0 v1 v2 v3 v4).cell? ⟨g, 2, none⟩ = some v2 ∧ (put5 W g v0 v1 v2 v3 v4).cell? ⟨g, 3, none⟩ = some v3 ∧ (put5 W g v0 v1 v2 v3 v4).cell? ⟨g, 4, none⟩ = some v4 := by
  unfold put5
  refine ⟨?_, ?_, ?_, ?_, ?_⟩
  · exact (setCell_off (by decide)).trans ((setCell_off (by decide)).trans ((setCell_off (by decide)).trans ((setCell_off (by decide)).trans (cell_set e0))))
  · exact (setCell_off (by decide)).trans ((setCell_off (by decide)).trans ((setCell_off (by decide)).trans (cell_set ((setCell_off (by decide)).trans e1))))
  · exact (setCell_off (by decide)).trans ((setCell_off (by decide)).trans (cell_set ((setCell_off (by decide)).trans ((setCell_off (by decide)).trans e2))))
  · exact (setCell_off (by decide)).trans (cell_set ((setCell_off (by decide)).trans ((setCell_off (by decide)).trans ((setCell_off (by decide)).trans e3))))
  · exact cell_set ((setCell_off (by decide)).trans ((setCell_off (by decide)).trans ((setCell_off (by decide)).trans ((setCell_off (by decide)).trans e4))))

/-- A module, its lists in blocks beyond B. -/
def ModFar (B : Nat) (W : World) (v : Value) (m : Mo) : Prop :=
  ∃ tv pv fv, v = .agg #[tv, pv, .int .i64 m.globs, .int .i64 m.arrs, fv] ∧ StrsFar B W tv m.texts ∧ StrsFar B W pv m.pats ∧ FnsFar B W fv m.fns
theorem ModFar.mod {B : Nat} {W : World} {v : Value} {m : Mo} (h : ModFar B W v m) : ModIn W v m := by
  obtain ⟨tv, pv, fv, h1, h2, h3, h4⟩ := h
  exact ⟨tv, pv, fv, h1, h2.strs, h3.strs, h4.fns⟩
theorem ModFar.fr {B : Nat} {S : List Nat} {W W' : World} {v : Value} {m : Mo} (h : ModFar B W v m) (hf : Fr S W W') (hS : ∀ x, x ∈ S → x < B) : ModFar B W' v m := by
  obtain ⟨tv, pv, fv, h1, h2, h3, h4⟩ := h
  exact ⟨tv, pv, fv, h1, h2.fr hf hS, h3.fr hf hS, h4.fr hf hS⟩
theorem ModFar.base {B B' : Nat} {W : World} {v : Value} {m : Mo} (h : ModFar B W v m) (hb : B' ≤ B) : ModFar B' W v m := by
  obtain ⟨tv, pv, fv, h1, h2, h3, h4⟩ := h
  exact ⟨tv, pv, fv, h1, h2.base hb, h3.base hb, h4.base hb⟩

/-- What module leaves. -/
def ModPost (b : ByteArray) (r : Nat) (w : World) (ee : Ending) (w' : World) : Prop :=
  ∃ (sF : Sta) (a0 a1 a4 : Option Addr) (n0 c0 n1 c1 n4 c4 gn an : Nat), ee = .returned (.agg #[.slice a0 n0 c0, .slice a1 n1 c1, .int .i64 gn, .int .i64 an, .slice a4 n4 c4]) ∧ RdS w' r b sF ∧ Fr [r] w w' ∧
    ((∃ f, unpackR ipF (bl b) = .inl f ∧ sF = .inl f) ∨ ∃ m p, unpackR ipF (bl b) = .inr m ∧ sF = .inr p ∧ ModFar w.heap.size w' (.agg #[.slice a0 n0 c0, .slice a1 n1 c1, .int .i64 gn, .int .i64 an, .slice a4 n4 c4]) m)

set_option maxRecDepth 100000 in
set_option maxHeartbeats 8000000 in
theorem module_any {w : World} {r : Nat} {b : ByteArray} (h : RdS w r b (.inr (0, b.size))) (hs : b.size ≤ 40000) (hT : Tab w) (hr0 : r ≠ 0) :
    Calls Tryd.prog 48 #[.pointer (some ⟨r, 0, none⟩)] w (ModPost b r w) := by
  have hm : Tryd.prog.follows Departure.mixedOrders = true := by kernel_rfl
  have hrl := h.lt
  have B0 := BoxI.start w r hrl hr0 hT
  have F0 : Fr [] w (((w.alloc (.cells #[.pointer (some ⟨r, 0, none⟩)] 110)).alloc (.cells zeroM 43)).alloc (.cells zeroM 43)) := (((Fr.refl [] w).alloc _).alloc _).alloc _
  have K0 := h.fr F0 (by simp)
  have hm1 := World.alloc_heap_new (w.alloc (.cells #[.pointer (some ⟨r, 0, none⟩)] 110)) (.cells zeroM 43)
  rw [World.size_alloc] at hm1
  have hres : (((w.alloc (.cells #[.pointer (some ⟨r, 0, none⟩)] 110)).alloc (.cells zeroM 43)).alloc (.cells zeroM 43)).heap[w.heap.size + 1]? = some (.cells zeroM 43) := by
    rw [Below.heap_alloc _ _ _ (by simp), hm1]
  clear hm1 hT h
  obtain ⟨s1, k1⟩ : ∃ x, nextR (needR 71 5) (bl b) (.inr (0, b.size)) = x := ⟨_, rfl⟩
  obtain ⟨s2, k2⟩ : ∃ x, nextR (needR 76 5) (bl b) s1 = x := ⟨_, rfl⟩
  obtain ⟨s3, k3⟩ : ∃ x, nextR (needR 1 5) (bl b) s2 = x := ⟨_, rfl⟩
  have hhead := head_next b k1 k2 k3
  have n1 := fun (W : World) (hW : RdS W r b (.inr (0, b.size))) => needU_any (c := 71) (cI := 71) (no := 5) (nI := 5) rfl rfl hW hs (by omega) (by omega)
  have n2 := fun (W : World) (hW : RdS W r b s1) => needU_any (c := 76) (cI := 76) (no := 5) (nI := 5) rfl rfl hW hs (by omega) (by omega)
  have n3 := fun (W : World) (hW : RdS W r b s2) => needU_any (c := 1) (cI := 1) (no := 5) (nI := 5) rfl rfl hW hs (by omega) (by omega)
  simp only [k1] at n1
  simp only [k2] at n2
  simp only [k3] at n3
  have N1 : Hid _ := n1
  have N2 : Hid _ := n2
  have N3 : Hid _ := n3
  have HH : Hid _ := hhead
  clear n1 n2 n3 hhead k1 k2 k3
  go_enter Tryd.func48, Tryd.ntmps48
  go_wp2_with fail
  simp only [zeroM] at B0 F0 K0 hres
  generalize (((w.alloc (.cells #[.pointer (some ⟨r, 0, none⟩)] 110)).alloc (.cells #[.slice none 0 0, .slice none 0 0, .int .i64 0, .int .i64 0, .slice none 0 0] 43)).alloc (.cells #[.slice none 0 0, .slice none 0 0, .int .i64 0, .int .i64 0, .slice none 0 0] 43)) = W0 at *
  refine wp_loop_rounds 5 ?_
  rw [rounds_succ]
  have rc := B0.rc
  go_wp2
  refine wp_region_tail 3 hm (by kernel_rfl) ?_
  simp only [List.take_succ_cons, List.take_zero, List.drop_succ_cons, List.drop_zero]
  repeat still_step
  refine wpStill_nil ?_
  go_wp2_with fail
  rw [show ((⟨#[71, 76, 1]⟩ : ByteArray)[0].toNat : Int) = 71 from rfl]
  refine (N1.out _ ?hk).mono ?_
  case hk => exact K0.heap rfl
  rintro ee W1 ⟨rfl, K1, G⟩
  have F0a : Fr [r] W0 W1 := ⟨G.os, G.tape, G.output, G.size, G.block⟩
  have B0a := B0.fr F0a
  clear rc G K0 B0
  go_wp2
  rw [rounds_succ]
  have rc := B0a.rc
  go_wp2
  refine wp_region_tail 3 hm (by kernel_rfl) ?_
  simp only [List.take_succ_cons, List.take_zero, List.drop_succ_cons, List.drop_zero]
  repeat still_step
  refine wpStill_nil ?_
  go_wp2_with fail
  rw [show ((⟨#[71, 76, 1]⟩ : ByteArray)[1].toNat : Int) = 76 from rfl]
  refine (N2.out _ ?hk).mono ?_
  case hk => exact K1.heap rfl
  rintro ee W2 ⟨rfl, K2, G⟩
  have F1a : Fr [r] W1 W2 := ⟨G.os, G.tape, G.output, G.size, G.block⟩
  have B1a := B0a.fr F1a
  clear rc G K1 B0a
  go_wp2
  rw [rounds_succ]
  have rc := B1a.rc
  go_wp2
  refine wp_region_tail 3 hm (by kernel_rfl) ?_
  simp only [List.take_succ_cons, List.take_zero, List.drop_succ_cons, List.drop_zero]
  repeat still_step
  refine wpStill_nil ?_
  go_wp2_with fail
  rw [show ((⟨#[71, 76, 1]⟩ : ByteArray)[2].toNat : Int) = 1 from rfl]
  refine (N3.out _ ?hk).mono ?_
  case hk => exact K2.heap rfl
  rintro ee W3 ⟨rfl, K3, G⟩
  have F2a : Fr [r] W2 W3 := ⟨G.os, G.tape, G.output, G.size, G.block⟩
  have B2a := B1a.fr F2a
  clear rc G K2 B1a
  go_wp2
  rw [rounds_succ]
  have ok3 := K3.ok
  have e3 : ∀ p, s3 = .inr p → p.2 = b.size := fun p hp => by
    rcases HH.out with ⟨f, -, hf⟩ | ⟨l0, -, hl, -⟩
    · rw [hf] at hp; cases hp
    · rw [hl] at hp; cases hp; rfl
  have rc := B2a.rc
  go_wp2_with fail
  refine (section62_any 1 rfl (by omega) (listR (fun _ => true) 100) (listR_tidy _ _) [] w.heap.size (w.heap.size + 1 + 1) (BoxI (w.heap.size + 1 + 1 + 1) r w.heap.size (w.heap.size + 1 + 1) none none none none none) (fun o => BoxI (w.heap.size + 1 + 1 + 1) r w.heap.size (w.heap.size + 1 + 1) o none none none none) (fun W W' f h => h.fr f) (fun o W W' f h => h.fr f) (fun W h => h) (closure62 hs) K3 hs e3 B2a).mono ?_
  rintro ee W4 ⟨rfl, K3n, ⟨o0, B2an, p1⟩, G1⟩
  have e4 := sect_end 1 (listR (fun _ => true) 100) b e3
  obtain ⟨t1, q1⟩ : ∃ t, nextR (fun base l => sectR 1 base (listR (fun _ => true) 100) l) (bl b) s3 = t := ⟨_, rfl⟩
  obtain ⟨x1, y1⟩ : ∃ t, outR (fun base l => sectR 1 base (listR (fun _ => true) 100) l) (bl b) [] s3 = t := ⟨_, rfl⟩
  rw [q1] at K3n p1 e4
  rw [y1] at p1
  have P1 : Hid _ := p1
  have Q1 : Hid _ := q1
  have Y1 : Hid _ := y1
  clear rc K3 B2a p1 q1 y1
  have rc := B2an.rc
  go_wp2_with fail
  refine (section65_any 2 rfl (by omega) (listR ipF 50) (listR_tidy _ _) [] w.heap.size (w.heap.size + 1 + 1) (BoxI (w.heap.size + 1 + 1 + 1) r w.heap.size (w.heap.size + 1 + 1) o0 none none none none) (fun o => BoxI (w.heap.size + 1 + 1 + 1) r w.heap.size (w.heap.size + 1 + 1) o0 o none none none) (fun W W' f h => h.fr f) (fun o W W' f h => h.fr f) (fun W h => h) (closure65 hs) K3n hs e4 B2an).mono ?_
  rintro ee W5 ⟨rfl, K3nn, ⟨o1, B2ann, p2⟩, G2⟩
  have e5 := sect_end 2 (listR ipF 50) b e4
  obtain ⟨t2, q2⟩ : ∃ t, nextR (fun base l => sectR 2 base (listR ipF 50) l) (bl b) t1 = t := ⟨_, rfl⟩
  obtain ⟨x2, y2⟩ : ∃ t, outR (fun base l => sectR 2 base (listR ipF 50) l) (bl b) [] t1 = t := ⟨_, rfl⟩
  rw [q2] at K3nn p2 e5
  rw [y2] at p2
  have P2 : Hid _ := p2
  have Q2 : Hid _ := q2
  have Y2 : Hid _ := y2
  clear rc K3n B2an p2 q2 y2
  have rc := B2ann.rc
  go_wp2_with fail
  refine (section67_any 3 rfl (by omega) (numberR 0 1000) (numberR_tidy _ _) 0 w.heap.size (w.heap.size + 1 + 1) (BoxI (w.heap.size + 1 + 1 + 1) r w.heap.size (w.heap.size + 1 + 1) o0 o1 none none none) (fun o => BoxI (w.heap.size + 1 + 1 + 1) r w.heap.size (w.heap.size + 1 + 1) o0 o1 o none none) (fun W W' f h => h.fr f) (fun o W W' f h => h.fr f) (fun W h => h) (closure67 hs) K3nn hs e5 B2ann).mono ?_
  rintro ee W6 ⟨rfl, K3nnn, ⟨o2, B2annn, p3⟩, G3⟩
  have e6 := sect_end 3 (numberR 0 1000) b e5
  obtain ⟨t3, q3⟩ : ∃ t, nextR (fun base l => sectR 3 base (numberR 0 1000) l) (bl b) t2 = t := ⟨_, rfl⟩
  obtain ⟨x3, y3⟩ : ∃ t, outR (fun base l => sectR 3 base (numberR 0 1000) l) (bl b) 0 t2 = t := ⟨_, rfl⟩
  rw [q3] at K3nnn p3 e6
  rw [y3] at p3
  have P3 : Hid _ := p3
  have Q3 : Hid _ := q3
  have Y3 : Hid _ := y3
  clear rc K3nn B2ann p3 q3 y3
  have rc := B2annn.rc
  go_wp2_with fail
  refine (section69_any 4 rfl (by omega) (numberR 0 1000) (numberR_tidy _ _) 0 w.heap.size (w.heap.size + 1 + 1) (BoxI (w.heap.size + 1 + 1 + 1) r w.heap.size (w.heap.size + 1 + 1) o0 o1 o2 none none) (fun o => BoxI (w.heap.size + 1 + 1 + 1) r w.heap.size (w.heap.size + 1 + 1) o0 o1 o2 o none) (fun W W' f h => h.fr f) (fun o W W' f h => h.fr f) (fun W h => h) (closure69 hs) K3nnn hs e6 B2annn).mono ?_
  rintro ee W7 ⟨rfl, K3nnnn, ⟨o3, B2annnn, p4⟩, G4⟩
  have e7 := sect_end 4 (numberR 0 1000) b e6
  obtain ⟨t4, q4⟩ : ∃ t, nextR (fun base l => sectR 4 base (numberR 0 1000) l) (bl b) t3 = t := ⟨_, rfl⟩
  obtain ⟨x4, y4⟩ : ∃ t, outR (fun base l => sectR 4 base (numberR 0 1000) l) (bl b) 0 t3 = t := ⟨_, rfl⟩
  rw [q4] at K3nnnn p4 e7
  rw [y4] at p4
  have P4 : Hid _ := p4
  have Q4 : Hid _ := q4
  have Y4 : Hid _ := y4
  clear rc K3nnn B2annn p4 q4 y4
  have rc := B2annnn.rc
  go_wp2_with fail
  refine (section70_any 5 rfl (by omega) fnListR fnListR_tidy [] w.heap.size (w.heap.size + 1 + 1) (BoxI (w.heap.size + 1 + 1 + 1) r w.heap.size (w.heap.size + 1 + 1) o0 o1 o2 o3 none) (fun o => BoxI (w.heap.size + 1 + 1 + 1) r w.heap.size (w.heap.size + 1 + 1) o0 o1 o2 o3 o) (fun W W' f h => h.fr f) (fun o W W' f h => h.fr f) (fun W h => h) (closure70 hs) K3nnnn hs e7 B2annnn).mono ?_
  rintro ee W8 ⟨rfl, K3nnnnn, ⟨o4, B2annnnn, p5⟩, G5⟩
  have e8 := sect_end 5 fnListR b e7
  obtain ⟨t5, q5⟩ : ∃ t, nextR (fun base l => sectR 5 base fnListR l) (bl b) t4 = t := ⟨_, rfl⟩
  obtain ⟨x5, y5⟩ : ∃ t, outR (fun base l => sectR 5 base fnListR l) (bl b) [] t4 = t := ⟨_, rfl⟩
  rw [q5] at K3nnnnn p5 e8
  rw [y5] at p5
  have P5 : Hid _ := p5
  have Q5 : Hid _ := q5
  have Y5 : Hid _ := y5
  clear rc K3nnnn B2annnn p5 q5 y5
  obtain ⟨ok5, z1, z2⟩ := rest_next ipF b ⟨[], [], 0, 0, []⟩ ok3 Q1.out Y1.out Q2.out Y2.out Q3.out Y3.out Q4.out Y4.out Q5.out Y5.out
  have K8 := K3nnnnn
  have B8 := B2annnnn
  have FT : Fr [r] w W8 := by
    have g1 : Fr [r] w W3 := (((F0.mono (by simp)).trans F0a).trans F1a).trans F2a
    have g2 : Fr [r, w.heap.size + 1 + 1] W3 W8 := (((G1.trans G2).trans G3).trans G4).trans G5
    exact g1.trans' g2 (fun x hx => by simp at hx; rcases hx with rfl | rfl; exact .inl (by simp); exact .inr (by omega))
  have hres8 : W8.heap[w.heap.size + 1]? = some (.cells #[.slice none 0 0, .slice none 0 0, .int .i64 0, .int .i64 0, .slice none 0 0] 43) := by
    have g1 : Fr [r, w.heap.size + 1 + 1] W0 W8 := ((((F0a.trans F1a).trans F2a).mono (by simp)).trans ((((G1.trans G2).trans G3).trans G4).trans G5))
    rw [g1.block _ ((Array.getElem?_eq_some_iff.1 hres).1) (by simp; omega), hres]
  have HG : Hid ((∃ p, t5 = .inr p) → (∃ p, t4 = .inr p) ∧ (∃ p, t3 = .inr p) ∧ (∃ p, t2 = .inr p) ∧ (∃ p, t1 = .inr p)) := fun h5 => by
    have h4 := good_back (Q5.out.symm ▸ h5)
    have h3 := good_back (Q4.out.symm ▸ h4)
    have h2 := good_back (Q3.out.symm ▸ h3)
    have h1 := good_back (Q2.out.symm ▸ h2)
    exact ⟨h4, h3, h2, h1⟩
  clear K3nnnnn B2annnnn G1 G2 G3 G4 G5 F0a F1a F2a F0 hres N1 N2 N3 Q1 Q2 Q3 Q4 Q5 Y1 Y2 Y3 Y4 Y5 e4 e5 e6 e7
  obtain ⟨u1, u2, u3⟩ := sum_next b (⟨x1, x2, (x3 : Int), (x4 : Int), x5⟩ : Mo) ⟨[], [], 0, 0, []⟩ ok5 e8
  rw [← z1] at u1 u2 u3
  rw [← z2] at u3
  obtain ⟨l1, l2⟩ := stA_le ok5
  have hS := fun (W : World) => sum_any (b.extract 0 (stA b.size t5)) W (by rw [ByteArray.size_extract]; omega)
  change ∀ W : World, Calls Tryd.prog 51 _ W (fun e w' => e = .returned (.string (mkB (sum3 (bl (b.extract 0 (stA b.size t5)))))) ∧ Fr [] W w') at hS
  have U1 : Hid _ := u1
  have U2 : Hid _ := u2
  have U3 : Hid _ := u3
  have HS : Hid _ := hS
  generalize hSS : mkB (sum3 (bl (b.extract 0 (stA b.size t5)))) = SS at *
  have rc := B8.rc
  have c0 := K8.c.c0
  have c1 := K8.c.c1
  have g1 : (0 : Int) ≤ (stA b.size t5 : Int) := by omega
  have g2 : (stA b.size t5 : Int) ≤ (b.size : Int) := by omega
  clear u1 u2 u3 hS hSS z1 z2
  go_wp2
  refine wp_region_heldD (fun w1 : World => w1.cell? ⟨w.heap.size, 0, none⟩ = some (.pointer (some ⟨r, 0, none⟩)) ∧ w1.cell? ⟨r, 0, none⟩ = some (.string b) ∧ w1.cell? ⟨r, 1, none⟩ = some (.int .i64 (stA b.size t5))) hm ?_
  have hSp : (fun w1 : World => w1.cell? ⟨w.heap.size, 0, none⟩ = some (.pointer (some ⟨r, 0, none⟩)) ∧ w1.cell? ⟨r, 0, none⟩ = some (.string b) ∧ w1.cell? ⟨r, 1, none⟩ = some (.int .i64 (stA b.size t5))) W8.drew := And.intro rc (And.intro c0 c1)
  refine wpAnyH_take (i := 0) (v := ?_) rfl (by kernel_rfl) (by kernel_rfl) (by kernel_rfl) (fun _ _ _ h => h) (.inl ⟨rfl, fun w1 hS1 => ?_⟩) hSp ?_
  rotate_left
  · obtain ⟨q0, q1, q2⟩ := hS1
    go_simp
    rfl
  simp only [Act.put, List.setIfInBounds_toArray, List.set_cons_zero, List.set_cons_succ]
  refine wpAnyH_take (i := 1) (v := ?_) rfl (by kernel_rfl) (by kernel_rfl) (by kernel_rfl) (fun _ _ _ h => h) (.inl ⟨rfl, fun w1 hS1 => ?_⟩) hSp ?_
  rotate_left
  · obtain ⟨q0, q1, q2⟩ := hS1
    go_simp
    rfl
  simp only [Act.put, List.setIfInBounds_toArray, List.set_cons_zero, List.set_cons_succ]
  refine wpAnyH_take (i := 2) (v := ?_) rfl (by kernel_rfl) (by kernel_rfl) (by kernel_rfl) (fun _ _ _ h => h) (.inl ⟨rfl, fun w1 hS1 => ?_⟩) hSp ?_
  rotate_left
  · obtain ⟨q0, q1, q2⟩ := hS1
    go_simp
    rfl
  simp only [Act.put, List.setIfInBounds_toArray, List.set_cons_zero, List.set_cons_succ]
  refine wpAnyH_take (i := 3) (v := ?_) rfl (by kernel_rfl) (by kernel_rfl) (by kernel_rfl) (fun _ _ _ h => h) (.inl ⟨rfl, fun w1 hS1 => ?_⟩) hSp ?_
  rotate_left
  · obtain ⟨q0, q1, q2⟩ := hS1
    go_simp
    rfl
  simp only [Act.put, List.setIfInBounds_toArray, List.set_cons_zero, List.set_cons_succ]
  refine wpAnyH_take (i := 4) (v := ?_) rfl (by kernel_rfl) (by kernel_rfl) (by kernel_rfl) (fun _ _ _ h => h) (.inl ⟨rfl, fun w1 hS1 => ?_⟩) hSp ?_
  rotate_left
  · obtain ⟨q0, q1, q2⟩ := hS1
    go_simp
    rfl
  simp only [Act.put, List.setIfInBounds_toArray, List.set_cons_zero, List.set_cons_succ]
  refine wpAnyH_take (i := 5) (v := ?_) rfl (by kernel_rfl) (by kernel_rfl) (by kernel_rfl) (fun _ _ _ h => h) (.inl ⟨rfl, fun w1 hS1 => ?_⟩) hSp ?_
  rotate_left
  · obtain ⟨q0, q1, q2⟩ := hS1
    go_simp
    rfl
  simp only [Act.put, List.setIfInBounds_toArray, List.set_cons_zero, List.set_cons_succ]
  refine wpAnyH_take (i := 6) (v := ?_) rfl (by kernel_rfl) (by kernel_rfl) (by kernel_rfl) (fun _ _ _ h => h) (.inl ⟨rfl, fun w1 hS1 => ?_⟩) hSp ?_
  rotate_left
  · obtain ⟨q0, q1, q2⟩ := hS1
    go_simp
    rfl
  simp only [Act.put, List.setIfInBounds_toArray, List.set_cons_zero, List.set_cons_succ]
  refine wpAnyH_take (i := 7) (v := ?_) rfl (by kernel_rfl) (by kernel_rfl) (by kernel_rfl) (fun _ _ _ h => h) (.inl ⟨rfl, fun w1 hS1 => ?_⟩) hSp ?_
  rotate_left
  · obtain ⟨q0, q1, q2⟩ := hS1
    go_simp
    rfl
  simp only [Act.put, List.setIfInBounds_toArray, List.set_cons_zero, List.set_cons_succ]
  refine wpAnyH_take (i := 8) (v := ?_) rfl (by kernel_rfl) (by kernel_rfl) (by kernel_rfl) (fun _ _ _ h => h) (.inl ⟨rfl, fun w1 hS1 => ?_⟩) hSp ?_
  rotate_left
  · obtain ⟨q0, q1, q2⟩ := hS1
    go_simp
    rfl
  simp only [Act.put, List.setIfInBounds_toArray, List.set_cons_zero, List.set_cons_succ]
  refine wpAnyH_take (i := 9) (v := ?_) rfl (by kernel_rfl) (by kernel_rfl) (by kernel_rfl) (fun _ _ _ h => h) (.inl ⟨rfl, fun w1 hS1 => ?_⟩) hSp ?_
  rotate_left
  · obtain ⟨q0, q1, q2⟩ := hS1
    go_simp
    rfl
  simp only [Act.put, List.setIfInBounds_toArray, List.set_cons_zero, List.set_cons_succ]
  refine wpAnyH_take (i := 10) (v := ?_) rfl (by kernel_rfl) (by kernel_rfl) (by kernel_rfl) (fun _ _ _ h => h) (.inl ⟨rfl, fun w1 hS1 => ?_⟩) hSp ?_
  rotate_left
  · obtain ⟨q0, q1, q2⟩ := hS1
    go_simp
    rfl
  simp only [Act.put, List.setIfInBounds_toArray, List.set_cons_zero, List.set_cons_succ]
  refine wpAnyH_take (i := 11) (v := ?_) rfl (by kernel_rfl) (by kernel_rfl) (by kernel_rfl) (fun _ _ _ h => h) (.inl ⟨rfl, fun w1 hS1 => ?_⟩) hSp ?_
  rotate_left
  · obtain ⟨q0, q1, q2⟩ := hS1
    go_simp
    rfl
  simp only [Act.put, List.setIfInBounds_toArray, List.set_cons_zero, List.set_cons_succ]
  refine wpAnyH_take (i := 12) (v := ?_) rfl (by kernel_rfl) (by kernel_rfl) (by kernel_rfl) (fun _ _ _ h => h) (.inl ⟨rfl, fun w1 hS1 => ?_⟩) hSp ?_
  rotate_left
  · obtain ⟨q0, q1, q2⟩ := hS1
    go_simp
    rfl
  simp only [Act.put, List.setIfInBounds_toArray, List.set_cons_zero, List.set_cons_succ]
  refine wpAnyH_take (i := 13) (v := ?_) rfl (by kernel_rfl) (by kernel_rfl) (by kernel_rfl) (fun _ _ _ h => h) (.inl ⟨rfl, fun w1 hS1 => ?_⟩) hSp ?_
  rotate_left
  · obtain ⟨q0, q1, q2⟩ := hS1
    go_simp
    rfl
  simp only [Act.put, List.setIfInBounds_toArray, List.set_cons_zero, List.set_cons_succ]
  refine wpAnyH_take (i := 14) (v := ?_) rfl (by kernel_rfl) (by kernel_rfl) (by kernel_rfl) (fun _ _ _ h => h) (.inl ⟨rfl, fun w1 hS1 => ?_⟩) hSp ?_
  rotate_left
  · obtain ⟨q0, q1, q2⟩ := hS1
    go_simp
    rfl
  simp only [Act.put, List.setIfInBounds_toArray, List.set_cons_zero, List.set_cons_succ]
  refine wpAnyH_take (i := 15) (v := ?_) rfl (by kernel_rfl) (by kernel_rfl) (by kernel_rfl) (fun _ _ _ h => h) (.inl ⟨rfl, fun w1 hS1 => ?_⟩) hSp ?_
  rotate_left
  · obtain ⟨q0, q1, q2⟩ := hS1
    go_simp
    rfl
  simp only [Act.put, List.setIfInBounds_toArray, List.set_cons_zero, List.set_cons_succ]
  refine wpAnyH_take (i := 16) (v := ?_) rfl (by kernel_rfl) (by kernel_rfl) (by kernel_rfl) (fun _ _ _ h => h) (.inl ⟨rfl, fun w1 hS1 => ?_⟩) hSp ?_
  rotate_left
  · obtain ⟨q0, q1, q2⟩ := hS1
    go_simp
    rfl
  simp only [Act.put, List.setIfInBounds_toArray, List.set_cons_zero, List.set_cons_succ]
  refine wpAnyH_take (i := 17) (v := ?_) rfl (by kernel_rfl) (by kernel_rfl) (by kernel_rfl) (fun _ _ _ h => h) (.inl ⟨rfl, fun w1 hS1 => ?_⟩) hSp ?_
  rotate_left
  · obtain ⟨q0, q1, q2⟩ := hS1
    go_simp
    rfl
  simp only [Act.put, List.setIfInBounds_toArray, List.set_cons_zero, List.set_cons_succ]
  refine wpAnyH_ready (rs := [18]) (by kernel_rfl) (by simp) ?_
  refine AllReadyH.cons rfl (fun K' hK => ?_) AllReadyH.nil
  go_simp
  refine (HS.out _).mono ?_
  rintro ee W9 ⟨rfl, G9⟩
  have F9 : Fr [] W8 W9 := ⟨G9.os, G9.tape, G9.output, G9.size, G9.block⟩
  have K9 := K8.fr F9 (by simp)
  have B9 := B8.fr (F9.mono (by simp))
  have rc := B9.rc
  have c0 := K9.c.c0
  have c1 := K9.c.c1
  refine hK _ _ (And.intro rc (And.intro c0 c1)) ?_
  have hSp : (fun w1 : World => w1.cell? ⟨w.heap.size, 0, none⟩ = some (.pointer (some ⟨r, 0, none⟩)) ∧ w1.cell? ⟨r, 0, none⟩ = some (.string b) ∧ w1.cell? ⟨r, 1, none⟩ = some (.int .i64 (stA b.size t5))) W9 := And.intro rc (And.intro c0 c1)
  clear hK K'
  intro _
  refine wpAnyH_ready (rs := [19]) (by kernel_rfl) (by simp) ?_
  refine AllReadyH.cons rfl (fun K' hK => ?_) AllReadyH.nil
  go_simp
  refine hK _ _ hSp ?_
  clear hK K'
  intro _
  refine wpAnyH_done (by kernel_rfl) ?_ _
  have FT9 := FT.trans (F9.mono (by simp))
  have hres9 : W9.heap[w.heap.size + 1]? = some (.cells #[.slice none 0 0, .slice none 0 0, .int .i64 0, .int .i64 0, .slice none 0 0] 43) := by
    rw [F9.block _ ((Array.getElem?_eq_some_iff.1 hres8).1) (by simp), hres8]
  have hlt9 := (Array.getElem?_eq_some_iff.1 hres9).1
  clear hSp K8 B8 G9 FT F9 hres8 HS
  have hfin : ∀ L0 L1 (gn an : Nat) L4, (∀ X, o0 = some X → L0 = X) → (∀ X, o1 = some X → L1 = X) → (∀ X, o2 = some X → gn = X) → (∀ X, o3 = some X → an = X) → (∀ X, o4 = some X → L4 = X) →
      (∃ f, unpackR ipF (bl b) = .inl f ∧ nextR (restR ipF (bl b)) (bl b) s3 = .inl f) ∨ ∃ p, unpackR ipF (bl b) = .inr ⟨L0, L1, (gn : Int), (an : Int), L4⟩ ∧ nextR (restR ipF (bl b)) (bl b) s3 = .inr p := by
    intro L0 L1 gn an L4 j0 j1 j2 j3 j4
    rcases rest_unpack ipF b ⟨[], [], 0, 0, []⟩ HH.out with h | ⟨p, h1, h2⟩
    · exact .inl h
    · refine .inr ⟨p, ?_, h2⟩
      have t5g : ∃ p, t5 = .inr p := by
        by_cases hc : b.extract (stA b.size t5) b.size = SS
        · exact ⟨p, (U1.out hc).symm.trans h2⟩
        · have := (U2.out hc).symm.trans h2
          rcases t5 with f | q
          · cases this
          · exact ⟨q, rfl⟩
      obtain ⟨t4g, t3g, t2g, t1g⟩ := HG.out t5g
      have hx1 := j0 _ (P1.out t1g)
      have hx2 := j1 _ (P2.out t2g)
      have hx3 := j2 _ (P3.out t3g)
      have hx4 := j3 _ (P4.out t4g)
      have hx5 := j4 _ (P5.out t5g)
      rw [h1, U3.out ⟨p, h2⟩, hx1, hx2, hx3, hx4, hx5]
  have HFIN : Hid _ := hfin
  clear hfin
  by_cases hcmp : b.extract (stA b.size t5) b.size = SS
  · have g3 : ((b.extract (stA b.size t5) b.size).toList == SS.toList) = true := by rw [eq_strU]; simp [hcmp]
    simp only [g3, Bool.not_true]
    clear g3
    have hnx := U1.out hcmp
    rw [hnx] at HFIN
    have KX := K9
    have BW := B9
    have FX := FT9
    have hresX := hres9
    clear K9 B9 FT9 hres9 hnx U1 U2 U3 P1 P2 P3 P4 P5 HG HH
    generalize W9 = WX at *
    obtain ⟨v0, L0, a0, far0, i0⟩ := BW.m0
    obtain ⟨v1, L1, a1, far1, i1⟩ := BW.m1
    obtain ⟨gn, a2, i2⟩ := BW.m2
    obtain ⟨an, a3, i3⟩ := BW.m3
    obtain ⟨v4, L4, a4, far4, i4⟩ := BW.m4
    have S0 := (far0.fr (put5_fr WX (w.heap.size + 1) v0 v1 (.int .i64 gn) (.int .i64 an) v4) (by simp)).base (B' := w.heap.size) (by omega)
    have S1 := (far1.fr (put5_fr WX (w.heap.size + 1) v0 v1 (.int .i64 gn) (.int .i64 an) v4) (by simp)).base (B' := w.heap.size) (by omega)
    have S4 := (far4.fr (put5_fr WX (w.heap.size + 1) v0 v1 (.int .i64 gn) (.int .i64 an) v4) (by simp)).base (B' := w.heap.size) (by omega)
    obtain ⟨aa0, cc0, g0, of0, rfl, -⟩ := far0
    obtain ⟨aa1, cc1, g1', of1, rfl, -⟩ := far1
    obtain ⟨aa4, cc4, g4', of4, rfl, -⟩ := far4
    have r0 : WX.cell? ⟨w.heap.size + 1, 0, none⟩ = some (.slice none 0 0) := by unfold World.cell?; rw [hresX]; rfl
    have r1 : WX.cell? ⟨w.heap.size + 1, 1, none⟩ = some (.slice none 0 0) := by unfold World.cell?; rw [hresX]; rfl
    have r2 : WX.cell? ⟨w.heap.size + 1, 2, none⟩ = some (.int .i64 0) := by unfold World.cell?; rw [hresX]; rfl
    have r3 : WX.cell? ⟨w.heap.size + 1, 3, none⟩ = some (.int .i64 0) := by unfold World.cell?; rw [hresX]; rfl
    have r4 : WX.cell? ⟨w.heap.size + 1, 4, none⟩ = some (.slice none 0 0) := by unfold World.cell?; rw [hresX]; rfl
    have rz : ∀ i, WX.frozen? ⟨w.heap.size + 1, i, none⟩ = false := fun i => by unfold World.frozen?; rw [hresX]; simp
    obtain ⟨y0, y1, y2, y3, y4⟩ := put5_cells (W := WX) (g := w.heap.size + 1) (.slice aa0 L0.length cc0) (.slice aa1 L1.length cc1) (.int .i64 gn) (.int .i64 an) (.slice aa4 L4.length cc4) r0 r1 r2 r3 r4
    have FZ : Fr [r] w (put5 WX (w.heap.size + 1) (.slice aa0 L0.length cc0) (.slice aa1 L1.length cc1) (.int .i64 gn) (.int .i64 an) (.slice aa4 L4.length cc4)) := FX.trans' (put5_fr _ _ _ _ _ _ _) (fun x hx => .inr (by simp at hx; omega))
    have KZ := KX.fr (put5_fr WX (w.heap.size + 1) (.slice aa0 L0.length cc0) (.slice aa1 L1.length cc1) (.int .i64 gn) (.int .i64 an) (.slice aa4 L4.length cc4)) (by simp; omega)
    have hfinal := HFIN.out L0 L1 gn an L4 i0 i1 i2 i3 i4
    have HFF : Hid _ := hfinal
    have HY : Hid _ := And.intro y0 (And.intro y1 (And.intro y2 (And.intro y3 y4)))
    have HZ : Hid _ := And.intro FZ KZ
    have HS3 : Hid _ := And.intro S0 (And.intro S1 S4)
    clear hfinal HFIN i0 i1 i2 i3 i4 BW KX FX hresX y0 y1 y2 y3 y4 FZ KZ S0 S1 S4 e3 e8 ok3 ok5 l1 l2 hcmp hlt9
    have rz0 := rz 0
    have rz1 := rz 1
    have rz2 := rz 2
    have rz3 := rz 3
    have rz4 := rz 4
    clear rz
    go_wp2
    obtain ⟨y0, y1, y2, y3, y4⟩ := HY.out
    obtain ⟨FZ, KZ⟩ := HZ.out
    obtain ⟨S0, S1, S4⟩ := HS3.out
    clear HY HZ HS3
    change bodyPost Tryd.prog Tryd.f48 (ModPost b r w) Exit.ret _ (put5 WX (w.heap.size + 1) (.slice aa0 L0.length cc0) (.slice aa1 L1.length cc1) (.int .i64 gn) (.int .i64 an) (.slice aa4 L4.length cc4))
    clear r0 r1 r2 r3 r4 rz0 rz1 rz2 rz3 rz4 a0 a1 a2 a3 a4
    generalize put5 WX (w.heap.size + 1) (.slice aa0 L0.length cc0) (.slice aa1 L1.length cc1) (.int .i64 gn) (.int .i64 an) (.slice aa4 L4.length cc4) = Z at *
    refine bodyPost_ret (v := .agg #[.slice aa0 L0.length cc0, .slice aa1 L1.length cc1, .int .i64 gn, .int .i64 an, .slice aa4 L4.length cc4]) (by simp [results, Tryd.results48, go_sem, y0, y1, y2, y3, y4]) rfl ?_
    refine ⟨_, aa0, aa1, aa4, L0.length, cc0, L1.length, cc1, L4.length, cc4, gn, an, rfl, KZ, FZ, ?_⟩
    rcases HFF.out with ⟨f, q1, q2⟩ | ⟨p, q1, q2⟩
    · exact .inl ⟨f, q1, q2⟩
    · exact .inr ⟨_, p, q1, q2, ⟨_, _, _, rfl, S0, S1, S4⟩⟩
  · have g3 : ((b.extract (stA b.size t5) b.size).toList == SS.toList) = false := by rw [eq_strU]; simp [hcmp]
    simp only [g3, Bool.not_false]
    clear g3
    have hnx := U2.out hcmp
    rw [hnx] at HFIN
    have hfail := failU_any (place := stA b.size t5) (no := 8) (nI := 8) rfl (K9.heap (w' := W9.drew) rfl) hs (by omega) (by omega) (by omega)
    have HFL : Hid _ := hfail
    clear hnx U1 U2 U3 P1 P2 P3 P4 P5 HG HH hfail
    go_wp2
    refine wp_region_tail 5 hm (by kernel_rfl) ?_
    simp only [List.take_succ_cons, List.take_zero, List.drop_succ_cons, List.drop_zero]
    repeat still_step
    refine wpStill_nil ?_
    go_wp2_with fail
    refine Calls.mono HFL.out ?_
    rintro ee WX ⟨rfl, KX, GX⟩
    have F10 : Fr [r] W9 WX := ⟨GX.os, GX.tape, GX.output, GX.size, GX.block⟩
    have BW := B9.fr F10
    have FX := FT9.trans F10
    have hresX : WX.heap[w.heap.size + 1]? = some (.cells #[.slice none 0 0, .slice none 0 0, .int .i64 0, .int .i64 0, .slice none 0 0] 43) := by
      rw [F10.block _ hlt9 (by simp; omega), hres9]
    clear K9 B9 FT9 hres9 HFL GX F10 rc c0 c1
    obtain ⟨v0, L0, a0, far0, i0⟩ := BW.m0
    obtain ⟨v1, L1, a1, far1, i1⟩ := BW.m1
    obtain ⟨gn, a2, i2⟩ := BW.m2
    obtain ⟨an, a3, i3⟩ := BW.m3
    obtain ⟨v4, L4, a4, far4, i4⟩ := BW.m4
    have S0 := (far0.fr (put5_fr WX (w.heap.size + 1) v0 v1 (.int .i64 gn) (.int .i64 an) v4) (by simp)).base (B' := w.heap.size) (by omega)
    have S1 := (far1.fr (put5_fr WX (w.heap.size + 1) v0 v1 (.int .i64 gn) (.int .i64 an) v4) (by simp)).base (B' := w.heap.size) (by omega)
    have S4 := (far4.fr (put5_fr WX (w.heap.size + 1) v0 v1 (.int .i64 gn) (.int .i64 an) v4) (by simp)).base (B' := w.heap.size) (by omega)
    obtain ⟨aa0, cc0, g0, of0, rfl, -⟩ := far0
    obtain ⟨aa1, cc1, g1', of1, rfl, -⟩ := far1
    obtain ⟨aa4, cc4, g4', of4, rfl, -⟩ := far4
    have r0 : WX.cell? ⟨w.heap.size + 1, 0, none⟩ = some (.slice none 0 0) := by unfold World.cell?; rw [hresX]; rfl
    have r1 : WX.cell? ⟨w.heap.size + 1, 1, none⟩ = some (.slice none 0 0) := by unfold World.cell?; rw [hresX]; rfl
    have r2 : WX.cell? ⟨w.heap.size + 1, 2, none⟩ = some (.int .i64 0) := by unfold World.cell?; rw [hresX]; rfl
    have r3 : WX.cell? ⟨w.heap.size + 1, 3, none⟩ = some (.int .i64 0) := by unfold World.cell?; rw [hresX]; rfl
    have r4 : WX.cell? ⟨w.heap.size + 1, 4, none⟩ = some (.slice none 0 0) := by unfold World.cell?; rw [hresX]; rfl
    have rz : ∀ i, WX.frozen? ⟨w.heap.size + 1, i, none⟩ = false := fun i => by unfold World.frozen?; rw [hresX]; simp
    obtain ⟨y0, y1, y2, y3, y4⟩ := put5_cells (W := WX) (g := w.heap.size + 1) (.slice aa0 L0.length cc0) (.slice aa1 L1.length cc1) (.int .i64 gn) (.int .i64 an) (.slice aa4 L4.length cc4) r0 r1 r2 r3 r4
    have FZ : Fr [r] w (put5 WX (w.heap.size + 1) (.slice aa0 L0.length cc0) (.slice aa1 L1.length cc1) (.int .i64 gn) (.int .i64 an) (.slice aa4 L4.length cc4)) := FX.trans' (put5_fr _ _ _ _ _ _ _) (fun x hx => .inr (by simp at hx; omega))
    have KZ := KX.fr (put5_fr WX (w.heap.size + 1) (.slice aa0 L0.length cc0) (.slice aa1 L1.length cc1) (.int .i64 gn) (.int .i64 an) (.slice aa4 L4.length cc4)) (by simp; omega)
    have hfinal := HFIN.out L0 L1 gn an L4 i0 i1 i2 i3 i4
    have HFF : Hid _ := hfinal
    have HY : Hid _ := And.intro y0 (And.intro y1 (And.intro y2 (And.intro y3 y4)))
    have HZ : Hid _ := And.intro FZ KZ
    have HS3 : Hid _ := And.intro S0 (And.intro S1 S4)
    clear hfinal HFIN i0 i1 i2 i3 i4 BW KX FX hresX y0 y1 y2 y3 y4 FZ KZ S0 S1 S4 e3 e8 ok3 ok5 l1 l2 hcmp hlt9
    have rz0 := rz 0
    have rz1 := rz 1
    have rz2 := rz 2
    have rz3 := rz 3
    have rz4 := rz 4
    clear rz
    go_wp2
    obtain ⟨y0, y1, y2, y3, y4⟩ := HY.out
    obtain ⟨FZ, KZ⟩ := HZ.out
    obtain ⟨S0, S1, S4⟩ := HS3.out
    clear HY HZ HS3
    change bodyPost Tryd.prog Tryd.f48 (ModPost b r w) Exit.ret _ (put5 WX (w.heap.size + 1) (.slice aa0 L0.length cc0) (.slice aa1 L1.length cc1) (.int .i64 gn) (.int .i64 an) (.slice aa4 L4.length cc4))
    clear r0 r1 r2 r3 r4 rz0 rz1 rz2 rz3 rz4 a0 a1 a2 a3 a4
    generalize put5 WX (w.heap.size + 1) (.slice aa0 L0.length cc0) (.slice aa1 L1.length cc1) (.int .i64 gn) (.int .i64 an) (.slice aa4 L4.length cc4) = Z at *
    refine bodyPost_ret (v := .agg #[.slice aa0 L0.length cc0, .slice aa1 L1.length cc1, .int .i64 gn, .int .i64 an, .slice aa4 L4.length cc4]) (by simp [results, Tryd.results48, go_sem, y0, y1, y2, y3, y4]) rfl ?_
    refine ⟨_, aa0, aa1, aa4, L0.length, cc0, L1.length, cc1, L4.length, cc4, gn, an, rfl, KZ, FZ, ?_⟩
    rcases HFF.out with ⟨f, q1, q2⟩ | ⟨p, q1, q2⟩
    · exact .inl ⟨f, q1, q2⟩
    · exact .inr ⟨_, p, q1, q2, ⟨_, _, _, rfl, S0, S1, S4⟩⟩
end Go.Proofs.YticaoekmlaipnaaDoor

