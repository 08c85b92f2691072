/-
  The document's Pack of the small module that prints 5: its parts. The document's Written and Pack of the small module.
-/
import Derived.Test.YtakbfoegkjaphaaGreatDoorM30
set_option linter.unusedSimpArgs false
set_option linter.unusedVariables false
namespace Go.Proofs.YtakbfoegkjaphaaGreatDoor
open Go.RowKit

theorem conv_bytes (W : World) (g cap n : Nat) (l : List UInt8) (hl : l.length = n) (hc : ∀ j (hj : j < l.length), W.cell? ⟨g, j, none⟩ = some (.int .u8 (l[j].toNat : Int))) :
    (convert 62 9 (.slice (some ⟨g, 0, none⟩) n cap)).run Tryz.prog W = .ok (.string ⟨l.toArray⟩) W := by
  subst hl
  exact run_convert_bytes_back (P := Tryz.prog) W 62 9 5 ⟨g, 0, none⟩ cap l Tryz.underlying62 Tryz.underlying5 Tryz.underlying9 (fun j hj => by rcases j with _ | j <;> simpa [Addr.add] using hc _ hj)

theorem a_byte (x : Int) (h0 : 0 ≤ x) (h1 : x < 256) : ∃ c : UInt8, (c.toNat : Int) = x := ⟨UInt8.ofNat x.toNat, by simp; omega⟩

set_option maxRecDepth 100000 in
set_option maxHeartbeats 1000000 in
theorem digits_small (n : Nat) (w : World) (hn : n < 128) : Calls Tryz.prog 90 #[.int .i64 n] w fun e w' => ∃ s : ByteArray, s.size = 1 ∧ e = .returned (.string s) ∧ Fr [] w w' := by
  have g1 : (n : Int) < 128 := by omega
  obtain ⟨c, hc⟩ := a_byte n (by omega) (by omega)
  go_enter Tryz.func90, Tryz.ntmps90
  go_wp2
  rw [conv_bytes _ _ _ 1 [c] rfl (by intro j hj; have : j = 0 := by simpa using hj
                                     subst this; simp [hc])]
  simp only [Result.andThen]
  rw [Oper.upon_value]
  go_wp2
  go_ret
  exact ⟨_, rfl, rfl, (Fr.refl [] w).alloc _⟩

set_option maxRecDepth 100000 in
set_option maxHeartbeats 1000000 in
theorem sum_any (b : ByteArray) (w : World) (hb : b.size ≤ 1000) : Calls Tryz.prog 79 #[.string b] w fun e w' => ∃ s : ByteArray, s.size = 3 ∧ e = .returned (.string s) ∧ Fr [] w w' := by
  go_enter Tryz.func79, Tryz.ntmps79
  go_wp2
  go_loop [3, 4] (fun s i => ∃ (k : Nat) (m : Nat), k ≤ b.size ∧ m < 1000003 ∧ s = .int .i64 m ∧ i = .int .i64 k) (fun _ i => b.size - (intOf i).toNat)
  case atStart => exact ⟨0, 1, by omega, by omega, rfl, rfl⟩
  case round =>
    obtain ⟨k, m, hk, hm, rfl, rfl⟩ := hrel
    by_cases hlt : k < b.size
    · have g1 : (k : Int) < b.size := by omega
      have hu := b[k].toNat_lt
      go_wp2
      exact ⟨⟨k + 1, (257 * m + b[k].toNat + 1) % 1000003, by omega, by omega, by go_num, by go_num⟩, by simp [intOf]; omega⟩
    · have g1 : ¬ ((k : Int) < b.size) := by omega
      obtain ⟨c0, h0⟩ := a_byte ((m : Int) % 256) (by omega) (by omega)
      obtain ⟨c1, h1⟩ := a_byte ((m : Int) / 256 % 256) (by omega) (by omega)
      obtain ⟨c2, h2⟩ := a_byte ((m : Int) / 65536) (by omega) (by omega)
      have H : Hid ((c0.toNat : Int) = (m : Int) % 256 ∧ (c1.toNat : Int) = (m : Int) / 256 % 256 ∧ (c2.toNat : Int) = (m : Int) / 65536) := ⟨h0, h1, h2⟩
      clear h0 h1 h2
      go_wp2
      rw [conv_bytes _ _ _ 3 [c0, c1, c2] rfl (by
        obtain ⟨h0, h1, h2⟩ := H.out
        intro j hj
        have hj3 : j < 3 := by simpa using hj
        obtain rfl | rfl | rfl : j = 0 ∨ j = 1 ∨ j = 2 := by omega
        · simp [h0]
        · simp [h1]
        · simp [h2])]
      simp only [Result.andThen]
      rw [Oper.upon_value]
      go_wp2
      go_ret
      exact ⟨_, rfl, rfl, (Fr.refl [] w).alloc _⟩

set_option maxRecDepth 100000 in
set_option maxHeartbeats 1000000 in
theorem lawful_any (c : ByteArray) (i : Nat) (w : World) (hc : c.size ≤ 1000) (hi : i ≤ 1000) : Calls Tryz.prog 89 #[.agg #[.int .i64 0, .int .i64 0, .string c], .int .i64 i] w fun e w' => e = .returned (.bool true) ∧ Fr [] w w' := by
  have g1 : ¬ ((20000 : Int) < c.size) := by omega
  by_cases h2 : 2 < i
  · have g2 : (2 : Int) < i := by omega
    go_enter Tryz.func89, Tryz.ntmps89
    go_wp2
    go_ret
    exact ⟨rfl, (Fr.refl [] w).alloc _⟩
  · have g2 : ¬ ((2 : Int) < i) := by omega
    go_enter Tryz.func89, Tryz.ntmps89
    go_wp2
    go_ret
    exact ⟨rfl, (Fr.refl [] w).alloc _⟩

set_option maxRecDepth 100000 in
set_option maxHeartbeats 1000000 in
theorem section_small (k : Nat) (c : ByteArray) (w : World) (hk : k < 128) (hc : c.size < 128) : Calls Tryz.prog 91 #[.int .i64 k, .string c] w fun e w' => ∃ s : ByteArray, s.size = c.size + 2 ∧ e = .returned (.string s) ∧ Fr [] w w' := by
  have H1 : Hid _ := fun W => digits_small k W hk
  have H2 : Hid _ := fun W => digits_small c.size W hc
  go_enter Tryz.func91, Tryz.ntmps91
  go_wp2_with fail
  refine (H1.out _).mono ?_
  rintro e w1 ⟨s1, h1, rfl, f1⟩
  go_wp2_with fail
  refine (H2.out _).mono ?_
  rintro e w2 ⟨s2, h2, rfl, f2⟩
  have e1 : (s1 ++ s2).size = 2 := by rw [ByteArray.size_append]; omega
  have e2 : (s1 ++ s2 ++ c).size = c.size + 2 := by rw [ByteArray.size_append]; omega
  go_wp2
  go_ret
  exact ⟨_, e2, rfl, f1.trans f2⟩

set_option maxRecDepth 100000 in
set_option maxHeartbeats 1000000 in
theorem listing_nil (w : World) : Calls Tryz.prog 92 #[.slice none 0 0] w fun e w' => ∃ s : ByteArray, s.size = 1 ∧ e = .returned (.string s) ∧ Fr [] w w' := by
  have H1 : Hid _ := fun W => digits_small 0 W (by decide)
  go_enter Tryz.func92, Tryz.ntmps92
  go_wp2_with fail
  refine (H1.out _).mono ?_
  rintro e w1 ⟨s1, h1, rfl, f1⟩
  go_wp2
  go_loop [3, 4] (fun s i => s = .string s1 ∧ i = .int .i64 0) (fun _ _ => 0)
  case atStart => exact ⟨rfl, rfl⟩
  case round =>
    obtain ⟨rfl, rfl⟩ := hrel
    go_wp2
    go_ret
    exact ⟨_, h1, rfl, f1⟩

/-- The three functions of the small module. -/
structure Funcs3 (W : World) (fb : Nat) (c0 c1 c2 : ByteArray) : Prop where
  p0 : W.cell? ⟨fb, 0, none⟩ = some (.int .i64 0)
  l0 : W.cell? ⟨fb, 1, none⟩ = some (.int .i64 0)
  s0 : W.cell? ⟨fb, 2, none⟩ = some (.string c0)
  p1 : W.cell? ⟨fb, 3, none⟩ = some (.int .i64 0)
  l1 : W.cell? ⟨fb, 4, none⟩ = some (.int .i64 0)
  s1 : W.cell? ⟨fb, 5, none⟩ = some (.string c1)
  p2 : W.cell? ⟨fb, 6, none⟩ = some (.int .i64 0)
  l2 : W.cell? ⟨fb, 7, none⟩ = some (.int .i64 0)
  s2 : W.cell? ⟨fb, 8, none⟩ = some (.string c2)
theorem Funcs3.fr {W W' : World} {fb : Nat} {c0 c1 c2 : ByteArray} (h : Funcs3 W fb c0 c1 c2) (hf : Fr [] W W') : Funcs3 W' fb c0 c1 c2 := by
  have hl : fb < W.heap.size := lt_of_cell (a := ⟨fb, 0, none⟩) h.p0
  exact ⟨(hf.cell (p := ⟨fb, 0, none⟩) hl (by simp)).trans h.p0, (hf.cell (p := ⟨fb, 1, none⟩) hl (by simp)).trans h.l0, (hf.cell (p := ⟨fb, 2, none⟩) hl (by simp)).trans h.s0,
    (hf.cell (p := ⟨fb, 3, none⟩) hl (by simp)).trans h.p1, (hf.cell (p := ⟨fb, 4, none⟩) hl (by simp)).trans h.l1, (hf.cell (p := ⟨fb, 5, none⟩) hl (by simp)).trans h.s1,
    (hf.cell (p := ⟨fb, 6, none⟩) hl (by simp)).trans h.p2, (hf.cell (p := ⟨fb, 7, none⟩) hl (by simp)).trans h.l2, (hf.cell (p := ⟨fb, 8, none⟩) hl (by simp)).trans h.s2⟩

/-- The small module's value. -/
def modV (fb : Nat) : Value := .agg #[.slice none 0 0, .slice none 0 0, .int .i64 0, .int .i64 0, .slice (some ⟨fb, 0, none⟩) 3 3]

set_option maxRecDepth 100000 in
set_option maxHeartbeats 2000000 in
theorem within_five (fb : Nat) (c0 c1 c2 : ByteArray) (w : World) (h : Funcs3 w fb c0 c1 c2) (h0 : c0.size ≤ 100) (h1 : c1.size ≤ 100) (h2 : c2.size ≤ 100) :
    Calls Tryz.prog 59 #[modV fb] w fun e w' => e = .returned (.bool true) ∧ Fr [] w w' := by
  have H0 : Hid _ := fun W => lawful_any c0 0 W (by omega) (by omega)
  have H1 : Hid _ := fun W => lawful_any c1 1 W (by omega) (by omega)
  have H2 : Hid _ := fun W => lawful_any c2 2 W (by omega) (by omega)
  have HF : Hid _ := h
  have f0 : ∀ o, Fr [] w (w.alloc o) := fun o => (Fr.refl [] w).alloc o
  have Hf : Hid _ := f0
  clear h f0
  unfold modV
  go_enter Tryz.func59, Tryz.ntmps59
  go_wp2
  go_loop [3] (fun i => i = .int .i64 0) (fun _ => 0)
  case atStart => exact rfl
  case round =>
    subst hrel
    go_wp2
    go_loop [4] (fun i => i = .int .i64 0) (fun _ => 0)
    case atStart => exact rfl
    case round =>
      subst hrel
      go_wp2
      go_loopw [7] (fun i wr => ∃ k : Nat, k ≤ 3 ∧ i = .int .i64 k ∧ Fr [] w wr ∧ wr.cell? ⟨w.heap.size, 4, none⟩ = some (.slice (some ⟨fb, 0, none⟩) 3 3)) (fun i _ => 3 - (intOf i).toNat)
      case atStart => exact ⟨0, by omega, rfl, Hf.out _, by simp⟩
      case round =>
        obtain ⟨k, hk, rfl, fr, cm⟩ := hrel
        have F := HF.out.fr fr
        have hl := lt_of_cell cm
        obtain rfl | rfl | rfl | rfl : k = 0 ∨ k = 1 ∨ k = 2 ∨ k = 3 := by omega
        · have a := F.p0
          have b := F.l0
          have c := F.s0
          go_wp2_with fail
          refine (H0.out _).mono ?_
          rintro e w2 ⟨rfl, f2⟩
          have cm2 := (f2.cell hl (by simp)).trans cm
          go_wp2
          exact ⟨⟨1, by omega, by go_num, fr.trans f2, cm2⟩, by simp [intOf]⟩
        · have a := F.p1
          have b := F.l1
          have c := F.s1
          go_wp2_with fail
          refine (H1.out _).mono ?_
          rintro e w2 ⟨rfl, f2⟩
          have cm2 := (f2.cell hl (by simp)).trans cm
          go_wp2
          exact ⟨⟨2, by omega, by go_num, fr.trans f2, cm2⟩, by simp [intOf]⟩
        · have a := F.p2
          have b := F.l2
          have c := F.s2
          go_wp2_with fail
          refine (H2.out _).mono ?_
          rintro e w2 ⟨rfl, f2⟩
          have cm2 := (f2.cell hl (by simp)).trans cm
          go_wp2
          exact ⟨⟨3, by omega, by go_num, fr.trans f2, cm2⟩, by simp [intOf]⟩
        · go_wp2
          go_ret
          exact ⟨rfl, fr⟩

end Go.Proofs.YtakbfoegkjaphaaGreatDoor

namespace Go.Proofs.YtakbfoegkjaphaaGreatDoor
open Go.RowKit

theorem size_app (a b : ByteArray) : (a ++ b).size = a.size + b.size := ByteArray.size_append

set_option maxRecDepth 100000 in
set_option maxHeartbeats 4000000 in
theorem written_five (fb : Nat) (c0 c1 c2 : ByteArray) (w : World) (h : Funcs3 w fb c0 c1 c2) (h0 : c0.size ≤ 10) (h1 : c1.size ≤ 10) (h2 : c2.size ≤ 10) :
    Calls Tryz.prog 60 #[modV fb] w fun e w' => ∃ s : ByteArray, s.size ≤ 200 ∧ e = .returned (.string s) ∧ Fr [] w w' := by
  have hm : Tryz.prog.follows .mixedOrders = true := by kernel_rfl
  have HD : Hid _ := fun (n : Nat) (W : World) (hn : n < 128) => digits_small n W hn
  have HF : Hid _ := h
  have f0 : ∀ o, Fr [] w (w.alloc o) := fun o => (Fr.refl [] w).alloc o
  have Hf : Hid _ := f0
  clear h f0
  unfold modV
  go_enter Tryz.func60, Tryz.ntmps60
  go_wp2_with fail
  refine (HD.out 3 _ (by decide)).mono ?_
  rintro e w1 ⟨s1, z1, rfl, f1⟩
  have fw : Fr [] w w1 := (Hf.out _).trans f1
  have b0 : w1.cell? ⟨w.heap.size, 0, none⟩ = some (.slice none 0 0) := (f1.cell (p := ⟨w.heap.size, 0, none⟩) (by simp) (by simp)).trans (by simp)
  have b1 : w1.cell? ⟨w.heap.size, 1, none⟩ = some (.slice none 0 0) := (f1.cell (p := ⟨w.heap.size, 1, none⟩) (by simp) (by simp)).trans (by simp)
  have b2 : w1.cell? ⟨w.heap.size, 2, none⟩ = some (.int .i64 0) := (f1.cell (p := ⟨w.heap.size, 2, none⟩) (by simp) (by simp)).trans (by simp)
  have b3 : w1.cell? ⟨w.heap.size, 3, none⟩ = some (.int .i64 0) := (f1.cell (p := ⟨w.heap.size, 3, none⟩) (by simp) (by simp)).trans (by simp)
  have b4 : w1.cell? ⟨w.heap.size, 4, none⟩ = some (.slice (some ⟨fb, 0, none⟩) 3 3) := (f1.cell (p := ⟨w.heap.size, 4, none⟩) (by simp) (by simp)).trans (by simp)
  have hbl : w.heap.size < w1.heap.size := lt_of_cell b0
  have F := HF.out.fr fw
  clear f1 Hf HF
  have F3 : ∀ k, k < 3 → ∃ cc : ByteArray, cc.size ≤ 10 ∧ w1.cell? ⟨fb, k * 3, none⟩ = some (.int .i64 0) ∧ w1.cell? ⟨fb, k * 3 + 1, none⟩ = some (.int .i64 0) ∧ w1.cell? ⟨fb, k * 3 + 2, none⟩ = some (.string cc) := by
    intro k hk
    obtain rfl | rfl | rfl : k = 0 ∨ k = 1 ∨ k = 2 := by omega
    · exact ⟨c0, h0, F.p0, F.l0, F.s0⟩
    · exact ⟨c1, h1, F.p1, F.l1, F.s1⟩
    · exact ⟨c2, h2, F.p2, F.l2, F.s2⟩
  have HF3 : Hid _ := F3
  have hfl : fb < w1.heap.size := lt_of_cell F.p0
  clear F F3
  go_wp2
  go_loopw [3, 4] (fun s i wr => ∃ (k : Nat) (t : ByteArray), k ≤ 3 ∧ i = .int .i64 k ∧ s = .string t ∧ t.size ≤ 1 + 13 * k ∧ Fr [] w1 wr) (fun _ i _ => 3 - (intOf i).toNat)
  case atStart => exact ⟨0, s1, by omega, rfl, rfl, by omega, Fr.refl _ _⟩
  case round =>
    obtain ⟨k, s, hk, rfl, rfl, hs, fr⟩ := hrel
    have a4 := (fr.cell (p := ⟨w.heap.size, 4, none⟩) hbl (by simp)).trans b4
    by_cases hlt : k < 3
    · have g1 : (k : Int) < 3 := by omega
      obtain ⟨cc, hcc, u0, u1, u2⟩ := HF3.out k hlt
      have x0 := (fr.cell (p := ⟨fb, k * 3, none⟩) hfl (by simp)).trans u0
      have x1 := (fr.cell (p := ⟨fb, k * 3 + 1, none⟩) hfl (by simp)).trans u1
      have x2 := (fr.cell (p := ⟨fb, k * 3 + 2, none⟩) hfl (by simp)).trans u2
      clear u0 u1 u2
      go_wp2
      have fa : Fr [] wr (wr.alloc (Obj.cells #[Value.int IntKind.i64 0, Value.int IntKind.i64 0, Value.string cc] 55)) := (Fr.refl [] wr).alloc _
      have k0 : (wr.alloc (Obj.cells #[Value.int IntKind.i64 0, Value.int IntKind.i64 0, Value.string cc] 55)).cell? ⟨wr.heap.size, 0, none⟩ = some (.int .i64 0) := by simp
      have k1 : (wr.alloc (Obj.cells #[Value.int IntKind.i64 0, Value.int IntKind.i64 0, Value.string cc] 55)).cell? ⟨wr.heap.size, 1, none⟩ = some (.int .i64 0) := by simp
      have k2 : (wr.alloc (Obj.cells #[Value.int IntKind.i64 0, Value.int IntKind.i64 0, Value.string cc] 55)).cell? ⟨wr.heap.size, 2, none⟩ = some (.string cc) := by simp
      generalize (wr.alloc (Obj.cells #[Value.int IntKind.i64 0, Value.int IntKind.i64 0, Value.string cc] 55)) = W0 at *
      generalize wr.heap.size = fc at *
      have hfl := lt_of_cell k0
      clear x0 x1 x2 a4
      refine wp_region_heldD (fun w1 => w1.cell? ⟨fc, 0, none⟩ = some (.int .i64 0) ∧ w1.cell? ⟨fc, 1, none⟩ = some (.int .i64 0) ∧ w1.cell? ⟨fc, 2, none⟩ = some (.string cc)) hm ?_
      have hS : (fun w1 => w1.cell? ⟨fc, 0, none⟩ = some (.int .i64 0) ∧ w1.cell? ⟨fc, 1, none⟩ = some (.int .i64 0) ∧ w1.cell? ⟨fc, 2, none⟩ = some (.string cc)) W0.drew := ⟨k0, k1, k2⟩
      refine wpAnyH_take (i := 0) (v := ?_) rfl (by kernel_rfl) (by kernel_rfl) (by kernel_rfl) (fun _ _ _ h => h) (.inl ⟨rfl, fun w1 hS1 => ?_⟩) hS ?_
      rotate_left
      · obtain ⟨q1, q2, q3⟩ := hS1
        go_simp
        first | rfl | (refine (if_neg (by omega)).trans ?_; rfl)
      simp only [Act.put, List.setIfInBounds_toArray, List.set_cons_zero, List.set_cons_succ]
      refine wpAnyH_take (i := 1) (v := ?_) rfl (by kernel_rfl) (by kernel_rfl) (by kernel_rfl) (fun _ _ _ h => h) (.inl ⟨rfl, fun w1 hS1 => ?_⟩) hS ?_
      rotate_left
      · obtain ⟨q1, q2, q3⟩ := hS1
        go_simp
        first | rfl | (refine (if_neg (by omega)).trans ?_; rfl)
      simp only [Act.put, List.setIfInBounds_toArray, List.set_cons_zero, List.set_cons_succ]
      refine wpAnyH_take (i := 2) (v := ?_) rfl (by kernel_rfl) (by kernel_rfl) (by kernel_rfl) (fun _ _ _ h => h) (.inl ⟨rfl, fun w1 hS1 => ?_⟩) hS ?_
      rotate_left
      · obtain ⟨q1, q2, q3⟩ := hS1
        go_simp
        first | rfl | (refine (if_neg (by omega)).trans ?_; rfl)
      simp only [Act.put, List.setIfInBounds_toArray, List.set_cons_zero, List.set_cons_succ]
      refine wpAnyH_take (i := 5) (v := ?_) rfl (by kernel_rfl) (by kernel_rfl) (by kernel_rfl) (fun _ _ _ h => h) (.inl ⟨rfl, fun w1 hS1 => ?_⟩) hS ?_
      rotate_left
      · obtain ⟨q1, q2, q3⟩ := hS1
        go_simp
        first | rfl | (refine (if_neg (by omega)).trans ?_; rfl)
      simp only [Act.put, List.setIfInBounds_toArray, List.set_cons_zero, List.set_cons_succ]
      refine wpAnyH_take (i := 6) (v := ?_) rfl (by kernel_rfl) (by kernel_rfl) (by kernel_rfl) (fun _ _ _ h => h) (.inl ⟨rfl, fun w1 hS1 => ?_⟩) hS ?_
      rotate_left
      · obtain ⟨q1, q2, q3⟩ := hS1
        go_simp
        first | rfl | (refine (if_neg (by omega)).trans ?_; rfl)
      simp only [Act.put, List.setIfInBounds_toArray, List.set_cons_zero, List.set_cons_succ]
      refine wpAnyH_take (i := 9) (v := ?_) rfl (by kernel_rfl) (by kernel_rfl) (by kernel_rfl) (fun _ _ _ h => h) (.inl ⟨rfl, fun w1 hS1 => ?_⟩) hS ?_
      rotate_left
      · obtain ⟨q1, q2, q3⟩ := hS1
        go_simp
        first | rfl | (refine (if_neg (by omega)).trans ?_; rfl)
      simp only [Act.put, List.setIfInBounds_toArray, List.set_cons_zero, List.set_cons_succ]
      refine wpAnyH_take (i := 10) (v := ?_) rfl (by kernel_rfl) (by kernel_rfl) (by kernel_rfl) (fun _ _ _ h => h) (.inl ⟨rfl, fun w1 hS1 => ?_⟩) hS ?_
      rotate_left
      · obtain ⟨q1, q2, q3⟩ := hS1
        go_simp
        first | rfl | (refine (if_neg (by omega)).trans ?_; rfl)
      simp only [Act.put, List.setIfInBounds_toArray, List.set_cons_zero, List.set_cons_succ]
      refine wpAnyH_take (i := 11) (v := ?_) rfl (by kernel_rfl) (by kernel_rfl) (by kernel_rfl) (fun _ _ _ h => h) (.inl ⟨rfl, fun w1 hS1 => ?_⟩) hS ?_
      rotate_left
      · obtain ⟨q1, q2, q3⟩ := hS1
        go_simp
        first | rfl | (refine (if_neg (by omega)).trans ?_; rfl)
      simp only [Act.put, List.setIfInBounds_toArray, List.set_cons_zero, List.set_cons_succ]
      refine wpAnyH_take (i := 14) (v := ?_) rfl (by kernel_rfl) (by kernel_rfl) (by kernel_rfl) (fun _ _ _ h => h) (.inl ⟨rfl, fun w1 hS1 => ?_⟩) hS ?_
      rotate_left
      · obtain ⟨q1, q2, q3⟩ := hS1
        go_simp
        first | rfl | (refine (if_neg (by omega)).trans ?_; rfl)
      simp only [Act.put, List.setIfInBounds_toArray, List.set_cons_zero, List.set_cons_succ]
      refine wpAnyH_take (i := 15) (v := ?_) rfl (by kernel_rfl) (by kernel_rfl) (by kernel_rfl) (fun _ _ _ h => h) (.inl ⟨rfl, fun w1 hS1 => ?_⟩) hS ?_
      rotate_left
      · obtain ⟨q1, q2, q3⟩ := hS1
        go_simp
        first | rfl | (refine (if_neg (by omega)).trans ?_; rfl)
      simp only [Act.put, List.setIfInBounds_toArray, List.set_cons_zero, List.set_cons_succ]
      refine wpAnyH_ready (rs := [3]) (by kernel_rfl) (by simp) ?_
      refine AllReadyH.cons rfl (fun K hK => ?_) AllReadyH.nil
      go_simp
      refine (HD.out 0 _ (by decide)).mono ?_
      rintro e V1 ⟨d1, z1, rfl, g1⟩
      have f1 : Fr [] W0 V1 := ⟨g1.os, g1.tape, g1.output, g1.size, g1.block⟩
      have hn1 : (s ++ d1).size = s.size + 1 := by rw [size_app]; omega
      refine hK _ _ (⟨(f1.cell (p := ⟨fc, 0, none⟩) hfl (by simp)).trans k0, (f1.cell (p := ⟨fc, 1, none⟩) hfl (by simp)).trans k1, (f1.cell (p := ⟨fc, 2, none⟩) hfl (by simp)).trans k2⟩) ?_
      clear hK K
      intro hS
      refine wpAnyH_take (i := 4) (v := ?_) rfl (by kernel_rfl) (by kernel_rfl) (by kernel_rfl) (fun _ _ _ h => h) (.inl ⟨rfl, fun w1 hS1 => ?_⟩) hS ?_
      rotate_left
      · obtain ⟨q1, q2, q3⟩ := hS1
        go_simp
        first | rfl | (refine (if_neg (by omega)).trans ?_; rfl)
      simp only [Act.put, List.setIfInBounds_toArray, List.set_cons_zero, List.set_cons_succ]
      refine wpAnyH_ready (rs := [7]) (by kernel_rfl) (by simp) ?_
      refine AllReadyH.cons rfl (fun K hK => ?_) AllReadyH.nil
      go_simp
      refine (HD.out 0 _ (by decide)).mono ?_
      rintro e V2 ⟨d2, z2, rfl, g2⟩
      have f2 := f1.trans g2
      have hn2 : (s ++ d1 ++ d2).size = s.size + 2 := by rw [size_app]; omega
      refine hK _ _ (⟨(f2.cell (p := ⟨fc, 0, none⟩) hfl (by simp)).trans k0, (f2.cell (p := ⟨fc, 1, none⟩) hfl (by simp)).trans k1, (f2.cell (p := ⟨fc, 2, none⟩) hfl (by simp)).trans k2⟩) ?_
      clear hK K
      intro hS
      refine wpAnyH_take (i := 8) (v := ?_) rfl (by kernel_rfl) (by kernel_rfl) (by kernel_rfl) (fun _ _ _ h => h) (.inl ⟨rfl, fun w1 hS1 => ?_⟩) hS ?_
      rotate_left
      · obtain ⟨q1, q2, q3⟩ := hS1
        go_simp
        first | rfl | (refine (if_neg (by omega)).trans ?_; rfl)
      simp only [Act.put, List.setIfInBounds_toArray, List.set_cons_zero, List.set_cons_succ]
      refine wpAnyH_ready (rs := [12]) (by kernel_rfl) (by simp) ?_
      refine AllReadyH.cons rfl (fun K hK => ?_) AllReadyH.nil
      go_simp
      refine (HD.out cc.size _ (by omega)).mono ?_
      rintro e V3 ⟨d3, z3, rfl, g3⟩
      have f3 := f2.trans g3
      have hn3 : (s ++ d1 ++ d2 ++ d3).size = s.size + 3 := by rw [size_app]; omega
      have hn4 : (s ++ d1 ++ d2 ++ d3 ++ cc).size = s.size + 3 + cc.size := by rw [size_app]; omega
      refine hK _ _ (⟨(f3.cell (p := ⟨fc, 0, none⟩) hfl (by simp)).trans k0, (f3.cell (p := ⟨fc, 1, none⟩) hfl (by simp)).trans k1, (f3.cell (p := ⟨fc, 2, none⟩) hfl (by simp)).trans k2⟩) ?_
      clear hK K
      intro hS
      refine wpAnyH_take (i := 13) (v := ?_) rfl (by kernel_rfl) (by kernel_rfl) (by kernel_rfl) (fun _ _ _ h => h) (.inl ⟨rfl, fun w1 hS1 => ?_⟩) hS ?_
      rotate_left
      · obtain ⟨q1, q2, q3⟩ := hS1
        go_simp
        first | rfl | (refine (if_neg (by omega)).trans ?_; rfl)
      simp only [Act.put, List.setIfInBounds_toArray, List.set_cons_zero, List.set_cons_succ]
      refine wpAnyH_take (i := 16) (v := ?_) rfl (by kernel_rfl) (by kernel_rfl) (by kernel_rfl) (fun _ _ _ h => h) (.inl ⟨rfl, fun w1 hS1 => ?_⟩) hS ?_
      rotate_left
      · obtain ⟨q1, q2, q3⟩ := hS1
        go_simp
        first | rfl | (refine (if_neg (by omega)).trans ?_; rfl)
      simp only [Act.put, List.setIfInBounds_toArray, List.set_cons_zero, List.set_cons_succ]
      refine wpAnyH_take (i := 17) (v := ?_) rfl (by kernel_rfl) (by kernel_rfl) (by kernel_rfl) (fun _ _ _ h => h) (.inl ⟨rfl, fun w1 hS1 => ?_⟩) hS ?_
      rotate_left
      · obtain ⟨q1, q2, q3⟩ := hS1
        go_simp
        first | rfl | (refine (if_neg (by omega)).trans ?_; rfl)
      simp only [Act.put, List.setIfInBounds_toArray, List.set_cons_zero, List.set_cons_succ]
      refine wpAnyH_done (by kernel_rfl) ?_ _
      go_wp2
      exact ⟨⟨k + 1, s ++ d1 ++ d2 ++ d3 ++ cc, by omega, by go_num, rfl, by omega, (fr.trans fa).trans f3⟩, by simp [intOf]; omega⟩
    · have g1 : ¬ ((k : Int) < 3) := by omega
      have x0 := (fr.cell (p := ⟨w.heap.size, 0, none⟩) hbl (by simp)).trans b0
      have x1 := (fr.cell (p := ⟨w.heap.size, 1, none⟩) hbl (by simp)).trans b1
      have x2 := (fr.cell (p := ⟨w.heap.size, 2, none⟩) hbl (by simp)).trans b2
      have x3 := (fr.cell (p := ⟨w.heap.size, 3, none⟩) hbl (by simp)).trans b3
      have fww := fw.trans fr
      have hbr : w.heap.size < wr.heap.size := lt_of_cell x0
      have HL : Hid _ := fun W => listing_nil W
      have HS : Hid _ := fun (n : Nat) (c : ByteArray) (W : World) (hn : n < 128) (hc : c.size < 128) => section_small n c W hn hc
      have HU : Hid _ := fun (c : ByteArray) (W : World) (hc : c.size ≤ 1000) => sum_any c W hc
      clear b0 b1 b2 b3 b4 HF3
      go_wp2
      refine wp_region_heldD (fun w1 : World => w1.cell? ⟨w.heap.size, 0, none⟩ = some (.slice none 0 0) ∧ w1.cell? ⟨w.heap.size, 1, none⟩ = some (.slice none 0 0) ∧ w1.cell? ⟨w.heap.size, 2, none⟩ = some (.int .i64 0) ∧ w1.cell? ⟨w.heap.size, 3, none⟩ = some (.int .i64 0)) hm ?_
      have hS : (fun w1 : World => w1.cell? ⟨w.heap.size, 0, none⟩ = some (.slice none 0 0) ∧ w1.cell? ⟨w.heap.size, 1, none⟩ = some (.slice none 0 0) ∧ w1.cell? ⟨w.heap.size, 2, none⟩ = some (.int .i64 0) ∧ w1.cell? ⟨w.heap.size, 3, none⟩ = some (.int .i64 0)) wr.drew := ⟨x0, x1, x2, x3⟩
      refine wpAnyH_take (i := 0) (v := ?_) rfl (by kernel_rfl) (by kernel_rfl) (by kernel_rfl) (fun _ _ _ h => h) (.inl ⟨rfl, fun w1 hS1 => ?_⟩) hS ?_
      rotate_left
      · obtain ⟨q1, q2, q3, q4⟩ := hS1
        go_simp
        first | rfl | (refine (if_neg (by omega)).trans ?_; rfl)
      simp only [Act.put, List.setIfInBounds_toArray, List.set_cons_zero, List.set_cons_succ]
      refine wpAnyH_take (i := 1) (v := ?_) rfl (by kernel_rfl) (by kernel_rfl) (by kernel_rfl) (fun _ _ _ h => h) (.inl ⟨rfl, fun w1 hS1 => ?_⟩) hS ?_
      rotate_left
      · obtain ⟨q1, q2, q3, q4⟩ := hS1
        go_simp
        first | rfl | (refine (if_neg (by omega)).trans ?_; rfl)
      simp only [Act.put, List.setIfInBounds_toArray, List.set_cons_zero, List.set_cons_succ]
      refine wpAnyH_take (i := 5) (v := ?_) rfl (by kernel_rfl) (by kernel_rfl) (by kernel_rfl) (fun _ _ _ h => h) (.inl ⟨rfl, fun w1 hS1 => ?_⟩) hS ?_
      rotate_left
      · obtain ⟨q1, q2, q3, q4⟩ := hS1
        go_simp
        first | rfl | (refine (if_neg (by omega)).trans ?_; rfl)
      simp only [Act.put, List.setIfInBounds_toArray, List.set_cons_zero, List.set_cons_succ]
      refine wpAnyH_take (i := 6) (v := ?_) rfl (by kernel_rfl) (by kernel_rfl) (by kernel_rfl) (fun _ _ _ h => h) (.inl ⟨rfl, fun w1 hS1 => ?_⟩) hS ?_
      rotate_left
      · obtain ⟨q1, q2, q3, q4⟩ := hS1
        go_simp
        first | rfl | (refine (if_neg (by omega)).trans ?_; rfl)
      simp only [Act.put, List.setIfInBounds_toArray, List.set_cons_zero, List.set_cons_succ]
      refine wpAnyH_ready (rs := [2]) (by kernel_rfl) (by simp) ?_
      refine AllReadyH.cons rfl (fun K hK => ?_) AllReadyH.nil
      go_simp
      refine (HL.out _).mono ?_
      rintro e V1 ⟨e1, y1, rfl, g1⟩
      have v1 : Fr [] wr V1 := ⟨g1.os, g1.tape, g1.output, g1.size, g1.block⟩
      refine hK _ _ (⟨(v1.cell (p := ⟨w.heap.size, 0, none⟩) hbr (by simp)).trans x0, (v1.cell (p := ⟨w.heap.size, 1, none⟩) hbr (by simp)).trans x1, (v1.cell (p := ⟨w.heap.size, 2, none⟩) hbr (by simp)).trans x2, (v1.cell (p := ⟨w.heap.size, 3, none⟩) hbr (by simp)).trans x3⟩) ?_
      clear hK K
      intro hS
      refine wpAnyH_ready (rs := [3]) (by kernel_rfl) (by simp) ?_
      refine AllReadyH.cons rfl (fun K hK => ?_) AllReadyH.nil
      go_simp
      refine (HS.out 1 e1 _ (by decide) (by omega)).mono ?_
      rintro e V2 ⟨e2, y2, rfl, g2⟩
      have v2 := v1.trans g2
      have m2 : ((⟨#[71, 76, 1]⟩ : ByteArray) ++ e2).size = 6 := by rw [size_app, y2, y1]; rfl
      refine hK _ _ (⟨(v2.cell (p := ⟨w.heap.size, 0, none⟩) hbr (by simp)).trans x0, (v2.cell (p := ⟨w.heap.size, 1, none⟩) hbr (by simp)).trans x1, (v2.cell (p := ⟨w.heap.size, 2, none⟩) hbr (by simp)).trans x2, (v2.cell (p := ⟨w.heap.size, 3, none⟩) hbr (by simp)).trans x3⟩) ?_
      clear hK K
      intro hS
      refine wpAnyH_take (i := 4) (v := ?_) rfl (by kernel_rfl) (by kernel_rfl) (by kernel_rfl) (fun _ _ _ h => h) (.inl ⟨rfl, fun w1 hS1 => ?_⟩) hS ?_
      rotate_left
      · obtain ⟨q1, q2, q3, q4⟩ := hS1
        go_simp
        first | rfl | (refine (if_neg (by omega)).trans ?_; rfl)
      simp only [Act.put, List.setIfInBounds_toArray, List.set_cons_zero, List.set_cons_succ]
      refine wpAnyH_ready (rs := [7]) (by kernel_rfl) (by simp) ?_
      refine AllReadyH.cons rfl (fun K hK => ?_) AllReadyH.nil
      go_simp
      refine (HL.out _).mono ?_
      rintro e V3 ⟨e3, y3, rfl, g3⟩
      have v3 := v2.trans g3
      refine hK _ _ (⟨(v3.cell (p := ⟨w.heap.size, 0, none⟩) hbr (by simp)).trans x0, (v3.cell (p := ⟨w.heap.size, 1, none⟩) hbr (by simp)).trans x1, (v3.cell (p := ⟨w.heap.size, 2, none⟩) hbr (by simp)).trans x2, (v3.cell (p := ⟨w.heap.size, 3, none⟩) hbr (by simp)).trans x3⟩) ?_
      clear hK K
      intro hS
      refine wpAnyH_ready (rs := [8]) (by kernel_rfl) (by simp) ?_
      refine AllReadyH.cons rfl (fun K hK => ?_) AllReadyH.nil
      go_simp
      refine (HS.out 2 e3 _ (by decide) (by omega)).mono ?_
      rintro e V4 ⟨e4, y4, rfl, g4⟩
      have v4 := v3.trans g4
      have m4 : ((⟨#[71, 76, 1]⟩ : ByteArray) ++ e2 ++ e4).size = 9 := by rw [size_app, m2, y4, y3]
      refine hK _ _ (⟨(v4.cell (p := ⟨w.heap.size, 0, none⟩) hbr (by simp)).trans x0, (v4.cell (p := ⟨w.heap.size, 1, none⟩) hbr (by simp)).trans x1, (v4.cell (p := ⟨w.heap.size, 2, none⟩) hbr (by simp)).trans x2, (v4.cell (p := ⟨w.heap.size, 3, none⟩) hbr (by simp)).trans x3⟩) ?_
      clear hK K
      intro hS
      refine wpAnyH_take (i := 9) (v := ?_) rfl (by kernel_rfl) (by kernel_rfl) (by kernel_rfl) (fun _ _ _ h => h) (.inl ⟨rfl, fun w1 hS1 => ?_⟩) hS ?_
      rotate_left
      · obtain ⟨q1, q2, q3, q4⟩ := hS1
        go_simp
        first | rfl | (refine (if_neg (by omega)).trans ?_; rfl)
      simp only [Act.put, List.setIfInBounds_toArray, List.set_cons_zero, List.set_cons_succ]
      refine wpAnyH_take (i := 10) (v := ?_) rfl (by kernel_rfl) (by kernel_rfl) (by kernel_rfl) (fun _ _ _ h => h) (.inl ⟨rfl, fun w1 hS1 => ?_⟩) hS ?_
      rotate_left
      · obtain ⟨q1, q2, q3, q4⟩ := hS1
        go_simp
        first | rfl | (refine (if_neg (by omega)).trans ?_; rfl)
      simp only [Act.put, List.setIfInBounds_toArray, List.set_cons_zero, List.set_cons_succ]
      refine wpAnyH_done (by kernel_rfl) ?_ _
      generalize (⟨#[71, 76, 1]⟩ : ByteArray) ++ e2 ++ e4 = bb at *
      have x0 := (v4.cell (p := ⟨w.heap.size, 0, none⟩) hbr (by simp)).trans x0
      have x1 := (v4.cell (p := ⟨w.heap.size, 1, none⟩) hbr (by simp)).trans x1
      have x2 := (v4.cell (p := ⟨w.heap.size, 2, none⟩) hbr (by simp)).trans x2
      have x3 := (v4.cell (p := ⟨w.heap.size, 3, none⟩) hbr (by simp)).trans x3
      have hbr := lt_of_cell x0
      have fww := fww.trans v4
      clear v1 v2 v3 v4 g1 g2 g3 g4 y1 y2 y3 y4 m2 hS
      go_wp2
      refine wp_region_heldD (fun w1 : World => w1.cell? ⟨w.heap.size, 0, none⟩ = some (.slice none 0 0) ∧ w1.cell? ⟨w.heap.size, 1, none⟩ = some (.slice none 0 0) ∧ w1.cell? ⟨w.heap.size, 2, none⟩ = some (.int .i64 0) ∧ w1.cell? ⟨w.heap.size, 3, none⟩ = some (.int .i64 0)) hm ?_
      have hS : (fun w1 : World => w1.cell? ⟨w.heap.size, 0, none⟩ = some (.slice none 0 0) ∧ w1.cell? ⟨w.heap.size, 1, none⟩ = some (.slice none 0 0) ∧ w1.cell? ⟨w.heap.size, 2, none⟩ = some (.int .i64 0) ∧ w1.cell? ⟨w.heap.size, 3, none⟩ = some (.int .i64 0)) V4.drew := ⟨x0, x1, x2, x3⟩
      refine wpAnyH_take (i := 0) (v := ?_) rfl (by kernel_rfl) (by kernel_rfl) (by kernel_rfl) (fun _ _ _ h => h) (.inl ⟨rfl, fun w1 hS1 => ?_⟩) hS ?_
      rotate_left
      · obtain ⟨q1, q2, q3, q4⟩ := hS1
        go_simp
        first | rfl | (refine (if_neg (by omega)).trans ?_; rfl)
      simp only [Act.put, List.setIfInBounds_toArray, List.set_cons_zero, List.set_cons_succ]
      refine wpAnyH_take (i := 1) (v := ?_) rfl (by kernel_rfl) (by kernel_rfl) (by kernel_rfl) (fun _ _ _ h => h) (.inl ⟨rfl, fun w1 hS1 => ?_⟩) hS ?_
      rotate_left
      · obtain ⟨q1, q2, q3, q4⟩ := hS1
        go_simp
        first | rfl | (refine (if_neg (by omega)).trans ?_; rfl)
      simp only [Act.put, List.setIfInBounds_toArray, List.set_cons_zero, List.set_cons_succ]
      refine wpAnyH_take (i := 2) (v := ?_) rfl (by kernel_rfl) (by kernel_rfl) (by kernel_rfl) (fun _ _ _ h => h) (.inl ⟨rfl, fun w1 hS1 => ?_⟩) hS ?_
      rotate_left
      · obtain ⟨q1, q2, q3, q4⟩ := hS1
        go_simp
        first | rfl | (refine (if_neg (by omega)).trans ?_; rfl)
      simp only [Act.put, List.setIfInBounds_toArray, List.set_cons_zero, List.set_cons_succ]
      refine wpAnyH_take (i := 6) (v := ?_) rfl (by kernel_rfl) (by kernel_rfl) (by kernel_rfl) (fun _ _ _ h => h) (.inl ⟨rfl, fun w1 hS1 => ?_⟩) hS ?_
      rotate_left
      · obtain ⟨q1, q2, q3, q4⟩ := hS1
        go_simp
        first | rfl | (refine (if_neg (by omega)).trans ?_; rfl)
      simp only [Act.put, List.setIfInBounds_toArray, List.set_cons_zero, List.set_cons_succ]
      refine wpAnyH_take (i := 7) (v := ?_) rfl (by kernel_rfl) (by kernel_rfl) (by kernel_rfl) (fun _ _ _ h => h) (.inl ⟨rfl, fun w1 hS1 => ?_⟩) hS ?_
      rotate_left
      · obtain ⟨q1, q2, q3, q4⟩ := hS1
        go_simp
        first | rfl | (refine (if_neg (by omega)).trans ?_; rfl)
      simp only [Act.put, List.setIfInBounds_toArray, List.set_cons_zero, List.set_cons_succ]
      refine wpAnyH_take (i := 11) (v := ?_) rfl (by kernel_rfl) (by kernel_rfl) (by kernel_rfl) (fun _ _ _ h => h) (.inl ⟨rfl, fun w1 hS1 => ?_⟩) hS ?_
      rotate_left
      · obtain ⟨q1, q2, q3, q4⟩ := hS1
        go_simp
        first | rfl | (refine (if_neg (by omega)).trans ?_; rfl)
      simp only [Act.put, List.setIfInBounds_toArray, List.set_cons_zero, List.set_cons_succ]
      refine wpAnyH_ready (rs := [3]) (by kernel_rfl) (by simp) ?_
      refine AllReadyH.cons rfl (fun K hK => ?_) AllReadyH.nil
      go_simp
      refine (HD.out 0 _ (by decide)).mono ?_
      rintro e V5 ⟨e5, y5, rfl, g5⟩
      have v5 : Fr [] V4 V5 := ⟨g5.os, g5.tape, g5.output, g5.size, g5.block⟩
      refine hK _ _ (⟨(v5.cell (p := ⟨w.heap.size, 0, none⟩) hbr (by simp)).trans x0, (v5.cell (p := ⟨w.heap.size, 1, none⟩) hbr (by simp)).trans x1, (v5.cell (p := ⟨w.heap.size, 2, none⟩) hbr (by simp)).trans x2, (v5.cell (p := ⟨w.heap.size, 3, none⟩) hbr (by simp)).trans x3⟩) ?_
      clear hK K
      intro hS
      refine wpAnyH_ready (rs := [4]) (by kernel_rfl) (by simp) ?_
      refine AllReadyH.cons rfl (fun K hK => ?_) AllReadyH.nil
      go_simp
      refine (HS.out 3 e5 _ (by decide) (by omega)).mono ?_
      rintro e V6 ⟨e6, y6, rfl, g6⟩
      have v6 := v5.trans g6
      have m6 : (bb ++ e6).size = 12 := by rw [size_app, y6, y5, m4]
      refine hK _ _ (⟨(v6.cell (p := ⟨w.heap.size, 0, none⟩) hbr (by simp)).trans x0, (v6.cell (p := ⟨w.heap.size, 1, none⟩) hbr (by simp)).trans x1, (v6.cell (p := ⟨w.heap.size, 2, none⟩) hbr (by simp)).trans x2, (v6.cell (p := ⟨w.heap.size, 3, none⟩) hbr (by simp)).trans x3⟩) ?_
      clear hK K
      intro hS
      refine wpAnyH_take (i := 5) (v := ?_) rfl (by kernel_rfl) (by kernel_rfl) (by kernel_rfl) (fun _ _ _ h => h) (.inl ⟨rfl, fun w1 hS1 => ?_⟩) hS ?_
      rotate_left
      · obtain ⟨q1, q2, q3, q4⟩ := hS1
        go_simp
        first | rfl | (refine (if_neg (by omega)).trans ?_; rfl)
      simp only [Act.put, List.setIfInBounds_toArray, List.set_cons_zero, List.set_cons_succ]
      refine wpAnyH_ready (rs := [8]) (by kernel_rfl) (by simp) ?_
      refine AllReadyH.cons rfl (fun K hK => ?_) AllReadyH.nil
      go_simp
      refine (HD.out 0 _ (by decide)).mono ?_
      rintro e V7 ⟨e7, y7, rfl, g7⟩
      have v7 := v6.trans g7
      refine hK _ _ (⟨(v7.cell (p := ⟨w.heap.size, 0, none⟩) hbr (by simp)).trans x0, (v7.cell (p := ⟨w.heap.size, 1, none⟩) hbr (by simp)).trans x1, (v7.cell (p := ⟨w.heap.size, 2, none⟩) hbr (by simp)).trans x2, (v7.cell (p := ⟨w.heap.size, 3, none⟩) hbr (by simp)).trans x3⟩) ?_
      clear hK K
      intro hS
      refine wpAnyH_ready (rs := [9]) (by kernel_rfl) (by simp) ?_
      refine AllReadyH.cons rfl (fun K hK => ?_) AllReadyH.nil
      go_simp
      refine (HS.out 4 e7 _ (by decide) (by omega)).mono ?_
      rintro e V8 ⟨e8, y8, rfl, g8⟩
      have v8 := v7.trans g8
      have m8 : (bb ++ e6 ++ e8).size = 15 := by rw [size_app, y8, y7, m6]
      refine hK _ _ (⟨(v8.cell (p := ⟨w.heap.size, 0, none⟩) hbr (by simp)).trans x0, (v8.cell (p := ⟨w.heap.size, 1, none⟩) hbr (by simp)).trans x1, (v8.cell (p := ⟨w.heap.size, 2, none⟩) hbr (by simp)).trans x2, (v8.cell (p := ⟨w.heap.size, 3, none⟩) hbr (by simp)).trans x3⟩) ?_
      clear hK K
      intro hS
      refine wpAnyH_take (i := 10) (v := ?_) rfl (by kernel_rfl) (by kernel_rfl) (by kernel_rfl) (fun _ _ _ h => h) (.inl ⟨rfl, fun w1 hS1 => ?_⟩) hS ?_
      rotate_left
      · obtain ⟨q1, q2, q3, q4⟩ := hS1
        go_simp
        first | rfl | (refine (if_neg (by omega)).trans ?_; rfl)
      simp only [Act.put, List.setIfInBounds_toArray, List.set_cons_zero, List.set_cons_succ]
      refine wpAnyH_ready (rs := [12]) (by kernel_rfl) (by simp) ?_
      refine AllReadyH.cons rfl (fun K hK => ?_) AllReadyH.nil
      go_simp
      refine (HS.out 5 s _ (by decide) (by omega)).mono ?_
      rintro e V9 ⟨e9, y9, rfl, g9⟩
      have v9 := v8.trans g9
      have m9 : (bb ++ e6 ++ e8 ++ e9).size = 15 + (s.size + 2) := by rw [size_app, y9, m8]
      refine hK _ _ (⟨(v9.cell (p := ⟨w.heap.size, 0, none⟩) hbr (by simp)).trans x0, (v9.cell (p := ⟨w.heap.size, 1, none⟩) hbr (by simp)).trans x1, (v9.cell (p := ⟨w.heap.size, 2, none⟩) hbr (by simp)).trans x2, (v9.cell (p := ⟨w.heap.size, 3, none⟩) hbr (by simp)).trans x3⟩) ?_
      clear hK K
      intro hS
      refine wpAnyH_take (i := 13) (v := ?_) rfl (by kernel_rfl) (by kernel_rfl) (by kernel_rfl) (fun _ _ _ h => h) (.inl ⟨rfl, fun w1 hS1 => ?_⟩) hS ?_
      rotate_left
      · obtain ⟨q1, q2, q3, q4⟩ := hS1
        go_simp
        first | rfl | (refine (if_neg (by omega)).trans ?_; rfl)
      simp only [Act.put, List.setIfInBounds_toArray, List.set_cons_zero, List.set_cons_succ]
      refine wpAnyH_take (i := 14) (v := ?_) rfl (by kernel_rfl) (by kernel_rfl) (by kernel_rfl) (fun _ _ _ h => h) (.inl ⟨rfl, fun w1 hS1 => ?_⟩) hS ?_
      rotate_left
      · obtain ⟨q1, q2, q3, q4⟩ := hS1
        go_simp
        first | rfl | (refine (if_neg (by omega)).trans ?_; rfl)
      simp only [Act.put, List.setIfInBounds_toArray, List.set_cons_zero, List.set_cons_succ]
      refine wpAnyH_done (by kernel_rfl) ?_ _
      have fww := fww.trans v9
      go_wp2_with fail
      refine (HU.out _ _ (by omega)).mono ?_
      rintro e w9 ⟨su, ys, rfl, fs⟩
      have mz : (bb ++ e6 ++ e8 ++ e9 ++ su).size = 15 + (s.size + 2) + 3 := by rw [size_app, ys, m9]
      go_wp2
      go_ret
      exact ⟨_, by omega, rfl, fww.trans fs⟩

set_option maxRecDepth 100000 in
set_option maxHeartbeats 1000000 in
theorem pack_five (fb : Nat) (c0 c1 c2 : ByteArray) (w : World) (h : Funcs3 w fb c0 c1 c2) (h0 : c0.size ≤ 10) (h1 : c1.size ≤ 10) (h2 : c2.size ≤ 10) :
    Calls Tryz.prog 22 #[modV fb] w fun e w' => ∃ s : ByteArray, s.size ≤ 200 ∧ e = .returned (.tuple #[.string s, .int .i64 0]) ∧ Fr [] w w' := by
  have HW : Hid _ := fun (W : World) (hf : Funcs3 W fb c0 c1 c2) => within_five fb c0 c1 c2 W hf (by omega) (by omega) (by omega)
  have HR : Hid _ := fun (W : World) (hf : Funcs3 W fb c0 c1 c2) => written_five fb c0 c1 c2 W hf h0 h1 h2
  unfold modV at *
  have HF : Hid _ := h
  have Hf : Hid _ := fun o => (Fr.refl [] w).alloc o
  clear h
  go_enter Tryz.func22, Tryz.ntmps22
  go_wp2_with fail
  refine (HW.out _ (HF.out.fr (Hf.out _))).mono ?_
  rintro e w1 ⟨rfl, f1⟩
  have fw := (Hf.out _).trans f1
  have b0 : w1.cell? ⟨w.heap.size, 0, none⟩ = some (.slice none 0 0) := (f1.cell (p := ⟨w.heap.size, 0, none⟩) (by simp) (by simp)).trans (by simp)
  have b1 : w1.cell? ⟨w.heap.size, 1, none⟩ = some (.slice none 0 0) := (f1.cell (p := ⟨w.heap.size, 1, none⟩) (by simp) (by simp)).trans (by simp)
  have b2 : w1.cell? ⟨w.heap.size, 2, none⟩ = some (.int .i64 0) := (f1.cell (p := ⟨w.heap.size, 2, none⟩) (by simp) (by simp)).trans (by simp)
  have b3 : w1.cell? ⟨w.heap.size, 3, none⟩ = some (.int .i64 0) := (f1.cell (p := ⟨w.heap.size, 3, none⟩) (by simp) (by simp)).trans (by simp)
  have b4 : w1.cell? ⟨w.heap.size, 4, none⟩ = some (.slice (some ⟨fb, 0, none⟩) 3 3) := (f1.cell (p := ⟨w.heap.size, 4, none⟩) (by simp) (by simp)).trans (by simp)
  clear f1
  go_wp2_with fail
  refine (HR.out _ (HF.out.fr fw)).mono ?_
  rintro e w2 ⟨s, hs, rfl, f2⟩
  have g1 : ¬ ((40000 : Int) < s.size) := by omega
  go_wp2
  go_ret2
  exact ⟨s, hs, rfl, fw.trans f2⟩

end Go.Proofs.YtakbfoegkjaphaaGreatDoor

