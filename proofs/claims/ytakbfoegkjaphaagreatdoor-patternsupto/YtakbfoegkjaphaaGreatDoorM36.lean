/-
  owner: a record more, a draw more. owner: one of the caller's bytes is turned.
-/
import Derived.Test.YtakbfoegkjaphaaGreatDoorM35
set_option linter.unusedSimpArgs false
set_option linter.unusedVariables false
namespace Go.Proofs.YtakbfoegkjaphaaGreatDoor
open Go.RowKit

theorem info3 : (Tryz.prog.info? 3).map (fun i => (i.zero, i.size, i.bytes)) = some (some (.int .i64 0), 1, 8) := by kernel_rfl

theorem ScrI.grow3 {w0 W W2 : World} {b : Nat} {tag tag' : Nat → Nat} {c : Nat → Value} {T : Nat} {bk : List Book} {wl el : List Value} {v' : Value} {n : Nat} {xs : List Value} (I : ScrI w0 W b tag c T bk wl el) (s : Stp tag tag' 1 W W2) (core : CorI w0 W2 b tag' (upd c 3 v')) (hr : RowT w0.heap.size W2 tag' 1 9 1 v' n xs) (hn : n ≤ T + 1) :
    ScrI w0 W2 b tag' (upd c 3 v') (T + 1) bk wl el := by
  obtain ⟨n4, x4, h4, t4⟩ := I.r4
  exact ⟨core, I.n0, I.n1, I.n2, ⟨n, xs, hr, hn⟩, ⟨n4, x4, s.row h4 (by omega) (by omega), by omega⟩, I.n6, s.row I.r7 (by omega) (by omega), I.n8, s.row I.r11 (by omega) (by omega), s.row I.r12 (by omega) (by omega), I.n13, I.n14, fun x hx => s.book (I.books x hx) (by omega)⟩
theorem ScrI.grow4 {w0 W W2 : World} {b : Nat} {tag tag' : Nat → Nat} {c : Nat → Value} {T : Nat} {bk : List Book} {wl el : List Value} {v' : Value} {n : Nat} {xs : List Value} (I : ScrI w0 W b tag c T bk wl el) (s : Stp tag tag' 2 W W2) (core : CorI w0 W2 b tag' (upd c 4 v')) (hr : RowT w0.heap.size W2 tag' 2 3 1 v' n xs) (hn : n ≤ T + 1) :
    ScrI w0 W2 b tag' (upd c 4 v') (T + 1) bk wl el := by
  obtain ⟨n3, x3, h3, t3⟩ := I.r3
  exact ⟨core, I.n0, I.n1, I.n2, ⟨n3, x3, s.row h3 (by omega) (by omega), by omega⟩, ⟨n, xs, hr, hn⟩, I.n6, s.row I.r7 (by omega) (by omega), I.n8, s.row I.r11 (by omega) (by omega), s.row I.r12 (by omega) (by omega), I.n13, I.n14, fun x hx => s.book (I.books x hx) (by omega)⟩

set_option maxRecDepth 100000 in
set_option maxHeartbeats 4000000 in
theorem owner_record (w0 W : World) (b : Nat) (tag : Nat → Nat) (c : Nat → Value) (T : Nat) (bk : List Book) (wl el : List Value) (a b' : Int) (s t u : ByteArray) (I : ScrI w0 W b tag c T bk wl el) (Wt : Waits w0.heap.size W tag wl el 0) (hT : T ≤ 1000000000) :
    Calls Tryz.prog 10 #[.pointer (some ⟨b, 0, none⟩), .agg #[.int .i64 5, .int .i64 a, .int .i64 b', .string s, .string t, .string u]] W fun e W' => e = .returned (.tuple #[]) ∧ ∃ tag' c', ScrI w0 W' b tag' c' (T + 1) bk wl el ∧ Waits w0.heap.size W' tag' wl el 0 := by
  have hm : Tryz.prog.follows .mixedOrders = true := by kernel_rfl
  obtain ⟨i0, hi, hz0, hz1, hz2⟩ := info_parts info9
  have HI : Hid _ := I.frm ((Fr.refl [] W).alloc (Obj.cells #[.int .i64 5, .int .i64 a, .int .i64 b', .string s, .string t, .string u] 38))
  have HW : Hid _ := Wt.chg (S := []) (Chg.of_fr ((Fr.refl [] W).alloc (Obj.cells #[.int .i64 5, .int .i64 a, .int .i64 b', .string s, .string t, .string u] 38))) (by simp)
  clear I Wt
  go_enter Tryz.func10, Tryz.ntmps10
  go_wp2
  have k1 : (W.alloc (Obj.cells #[.int .i64 5, .int .i64 a, .int .i64 b', .string s, .string t, .string u] 38)).cell? ⟨W.heap.size, 1, none⟩ = some (.int .i64 a) := by simp
  have k3 : (W.alloc (Obj.cells #[.int .i64 5, .int .i64 a, .int .i64 b', .string s, .string t, .string u] 38)).cell? ⟨W.heap.size, 3, none⟩ = some (.string s) := by simp
  generalize (W.alloc (Obj.cells #[.int .i64 5, .int .i64 a, .int .i64 b', .string s, .string t, .string u] 38)) = W1 at *
  generalize W.heap.size = ob at *
  have hob := lt_of_cell k1
  have I := HI.out
  obtain ⟨n, xs, r, hn⟩ := I.r3
  obtain ⟨o3, cap3, e3⟩ := own_form r.own
  have d3 := I.core.cell 3 (by decide)
  rw [e3] at d3
  have r' := r
  rw [e3] at r'
  have hsz := I.core.fr.size
  obtain ⟨vv, w3, hr2, hown', hgrow, hnil, hwh⟩ := run_append_own_at (P := Tryz.prog) (W1.drew.alloc (Obj.cells #[.string s] 9)) w0.heap.size 27 27 9 i0 _ 1 16 Tryz.underlying27 hi hz0 hz1 hz2 rfl (by decide) (.slice o3 n cap3) n xs ((show W1.drew.ownsRow _ _ _ _ _ _ from r'.own).alloc _) ⟨W1.heap.size, 0, none⟩ 1 1 [.string s] rfl
    (by
      intro j u hj
      have hnw : ∀ i, (W1.drew.alloc (Obj.cells #[.string s] 9)).cell? ⟨W1.heap.size, i, none⟩ = [.string s][i]? := fun i => by
        have hm := World.alloc_heap_new W1.drew (Obj.cells #[.string s] 9)
        have hm' : (W1.drew.alloc (Obj.cells #[.string s] 9)).heap[W1.heap.size]? = some _ := hm
        unfold World.cell?; rw [hm']; simp
      rcases j with _ | j
      · simpa [Addr.add, hnw] using hj
      · simp at hj)
    (by intro u hu; simp at hu; subst hu; rfl) (by unfold maxLen; omega) (by omega) (by simp; omega)
  obtain ⟨q1, q2, rfl⟩ := own_form hown'
  have fa : Fr [] W1 (W1.drew.alloc (Obj.cells #[.string s] 9)) := ((Fr.refl [] W1).drew).alloc _
  obtain ⟨s3, core3, row3, cl, fz, _⟩ := row_step 3 1 I.core r fa hown' (by rw [e3]; exact hgrow) (by rw [e3]; exact hwh) (by decide) (by decide) (by decide)
  have cl3 := cl 3 (by decide)
  have fz3 := fz 3 (by decide)
  rw [e3] at cl3
  have IF := I.grow3 s3 core3 row3 (by omega)
  have WF := s3.waits HW.out (by decide)
  have Hr2 : Hid _ := hr2
  have HF : Hid (_ ∧ _) := ⟨IF, WF⟩
  have b0 := ((Fr.refl [] W1).alloc (Obj.cells #[.string s] 9)).cell (p := ⟨b, 3, none⟩) I.core.lt (by simp)
  rw [d3] at b0
  have b1 : W1.drew.cell? ⟨b, 3, none⟩ = some (.slice o3 n cap3) := d3
  clear hr2 IF WF s3 core3 row3 cl fz hown' hgrow hnil hwh r r' HI HW I fa e3
  refine wp_region_heldD (fun _ => True) hm ?_
  have hS : (fun _ : World => True) W1.drew := trivial
  refine wpAnyH_take (i := 0) (v := ?_) rfl (by kernel_rfl) (by kernel_rfl) (by kernel_rfl) (fun _ _ _ h => h) (.inl ⟨rfl, fun w1 hS1 => ?_⟩) hS ?_
  rotate_left
  · have q9 := hS1
    go_simp
    rfl
  simp only [Act.put, List.setIfInBounds_toArray, List.set_cons_zero, List.set_cons_succ]
  refine wpAnyH_take (i := 1) (v := ?_) rfl (by kernel_rfl) (by kernel_rfl) (by kernel_rfl) (fun _ _ _ h => h) (.inl ⟨rfl, fun w1 hS1 => ?_⟩) hS ?_
  rotate_left
  · have q9 := hS1
    go_simp
    rfl
  simp only [Act.put, List.setIfInBounds_toArray, List.set_cons_zero, List.set_cons_succ]
  refine wpAnyH_take (i := 2) (v := ?_) rfl (by kernel_rfl) (by kernel_rfl) (by kernel_rfl) (fun _ _ _ h => h) (.inl ⟨rfl, fun w1 hS1 => ?_⟩) hS ?_
  rotate_left
  · have q9 := hS1
    go_simp
    rfl
  simp only [Act.put, List.setIfInBounds_toArray, List.set_cons_zero, List.set_cons_succ]
  refine wpAnyH_take (i := 3) (v := ?_) rfl (by kernel_rfl) (by kernel_rfl) (by kernel_rfl) (fun _ _ _ h => h) (.inl ⟨rfl, fun w1 hS1 => ?_⟩) hS ?_
  rotate_left
  · have q9 := hS1
    go_simp
    rfl
  simp only [Act.put, List.setIfInBounds_toArray, List.set_cons_zero, List.set_cons_succ]
  refine wpAnyH_take (i := 5) (v := ?_) rfl (by kernel_rfl) (by kernel_rfl) (by kernel_rfl) (fun _ _ _ h => h) (.inl ⟨rfl, fun w1 hS1 => ?_⟩) hS ?_
  rotate_left
  · have q9 := hS1
    go_simp
    rfl
  simp only [Act.put, List.setIfInBounds_toArray, List.set_cons_zero, List.set_cons_succ]
  refine wpAnyH_ready (rs := [4, 6]) (by kernel_rfl) (by simp) ?_
  refine AllReadyH.cons rfl (fun K hK => ?_) ?_
  · go_simp
    refine hK _ _ trivial ?_
    clear hK K
    intro _
    refine wpAnyH_ready (rs := [6]) (by kernel_rfl) (by simp) ?_
    refine AllReadyH.cons rfl (fun K hK => ?_) AllReadyH.nil
    go_simp
    refine hK _ _ trivial ?_
    clear hK K
    intro _
    refine wpAnyH_ready (rs := [7]) (by kernel_rfl) (by simp) ?_
    refine AllReadyH.cons rfl (fun K hK => ?_) AllReadyH.nil
    go_simp
    refine hK _ _ trivial ?_
    clear hK K
    intro _
    refine wpAnyH_ready (rs := [8]) (by kernel_rfl) (by simp) ?_
    refine AllReadyH.cons rfl (fun K hK => ?_) AllReadyH.nil
    refine wanted_of (by rfl) ?_
    refine wp_append_run _ _ 27 rfl _ _ rfl rfl Hr2.out ?_
    refine hK _ _ trivial ?_
    clear hK K
    intro _
    simp only [Act.put, List.setIfInBounds_toArray, List.set_cons_zero, List.set_cons_succ]
    refine wpAnyH_ready (rs := [9]) (by kernel_rfl) (by simp) ?_
    refine AllReadyH.cons rfl (fun K hK => ?_) AllReadyH.nil
    go_simp
    refine hK _ _ trivial ?_
    clear hK K
    intro _
    refine wpAnyH_ready (rs := [10]) (by kernel_rfl) (by simp) ?_
    refine AllReadyH.cons rfl (fun K hK => ?_) AllReadyH.nil
    go_simp
    refine hK _ _ trivial ?_
    clear hK K
    intro _
    refine wpAnyH_ready (rs := [11]) (by kernel_rfl) (by simp) ?_
    refine AllReadyH.cons rfl (fun K hK => ?_) AllReadyH.nil
    go_simp
    refine hK _ _ trivial ?_
    clear hK K
    intro _
    refine wpAnyH_done (by kernel_rfl) ?_ _
    go_wp2
    go_end0
    exact ⟨rfl, _, ⟨_, HF.out.1⟩, HF.out.2⟩
  · refine AllReadyH.cons rfl (fun K hK => ?_) AllReadyH.nil
    go_simp
    refine hK _ _ trivial ?_
    clear hK K
    intro _
    refine wpAnyH_ready (rs := [4, 7]) (by kernel_rfl) (by simp) ?_
    refine AllReadyH.cons rfl (fun K hK => ?_) ?_
    · go_simp
      refine hK _ _ trivial ?_
      clear hK K
      intro _
      refine wpAnyH_ready (rs := [7]) (by kernel_rfl) (by simp) ?_
      refine AllReadyH.cons rfl (fun K hK => ?_) AllReadyH.nil
      go_simp
      refine hK _ _ trivial ?_
      clear hK K
      intro _
      refine wpAnyH_ready (rs := [8]) (by kernel_rfl) (by simp) ?_
      refine AllReadyH.cons rfl (fun K hK => ?_) AllReadyH.nil
      refine wanted_of (by rfl) ?_
      refine wp_append_run _ _ 27 rfl _ _ rfl rfl Hr2.out ?_
      refine hK _ _ trivial ?_
      clear hK K
      intro _
      simp only [Act.put, List.setIfInBounds_toArray, List.set_cons_zero, List.set_cons_succ]
      refine wpAnyH_ready (rs := [9]) (by kernel_rfl) (by simp) ?_
      refine AllReadyH.cons rfl (fun K hK => ?_) AllReadyH.nil
      go_simp
      refine hK _ _ trivial ?_
      clear hK K
      intro _
      refine wpAnyH_ready (rs := [10]) (by kernel_rfl) (by simp) ?_
      refine AllReadyH.cons rfl (fun K hK => ?_) AllReadyH.nil
      go_simp
      refine hK _ _ trivial ?_
      clear hK K
      intro _
      refine wpAnyH_ready (rs := [11]) (by kernel_rfl) (by simp) ?_
      refine AllReadyH.cons rfl (fun K hK => ?_) AllReadyH.nil
      go_simp
      refine hK _ _ trivial ?_
      clear hK K
      intro _
      refine wpAnyH_done (by kernel_rfl) ?_ _
      go_wp2
      go_end0
      exact ⟨rfl, _, ⟨_, HF.out.1⟩, HF.out.2⟩
    · refine AllReadyH.cons rfl (fun K hK => ?_) AllReadyH.nil
      go_simp
      refine hK _ _ trivial ?_
      clear hK K
      intro _
      refine wpAnyH_ready (rs := [4]) (by kernel_rfl) (by simp) ?_
      refine AllReadyH.cons rfl (fun K hK => ?_) AllReadyH.nil
      go_simp
      refine hK _ _ trivial ?_
      clear hK K
      intro _
      refine wpAnyH_ready (rs := [8]) (by kernel_rfl) (by simp) ?_
      refine AllReadyH.cons rfl (fun K hK => ?_) AllReadyH.nil
      refine wanted_of (by rfl) ?_
      refine wp_append_run _ _ 27 rfl _ _ rfl rfl Hr2.out ?_
      refine hK _ _ trivial ?_
      clear hK K
      intro _
      simp only [Act.put, List.setIfInBounds_toArray, List.set_cons_zero, List.set_cons_succ]
      refine wpAnyH_ready (rs := [9]) (by kernel_rfl) (by simp) ?_
      refine AllReadyH.cons rfl (fun K hK => ?_) AllReadyH.nil
      go_simp
      refine hK _ _ trivial ?_
      clear hK K
      intro _
      refine wpAnyH_ready (rs := [10]) (by kernel_rfl) (by simp) ?_
      refine AllReadyH.cons rfl (fun K hK => ?_) AllReadyH.nil
      go_simp
      refine hK _ _ trivial ?_
      clear hK K
      intro _
      refine wpAnyH_ready (rs := [11]) (by kernel_rfl) (by simp) ?_
      refine AllReadyH.cons rfl (fun K hK => ?_) AllReadyH.nil
      go_simp
      refine hK _ _ trivial ?_
      clear hK K
      intro _
      refine wpAnyH_done (by kernel_rfl) ?_ _
      go_wp2
      go_end0
      exact ⟨rfl, _, ⟨_, HF.out.1⟩, HF.out.2⟩

set_option maxRecDepth 100000 in
set_option maxHeartbeats 4000000 in
theorem owner_draw (w0 W : World) (b : Nat) (tag : Nat → Nat) (c : Nat → Value) (T : Nat) (bk : List Book) (wl el : List Value) (a b' : Int) (s t u : ByteArray) (I : ScrI w0 W b tag c T bk wl el) (Wt : Waits w0.heap.size W tag wl el 0) (hT : T ≤ 1000000000) :
    Calls Tryz.prog 10 #[.pointer (some ⟨b, 0, none⟩), .agg #[.int .i64 6, .int .i64 a, .int .i64 b', .string s, .string t, .string u]] W fun e W' => e = .returned (.tuple #[]) ∧ ∃ tag' c', ScrI w0 W' b tag' c' (T + 1) bk wl el ∧ Waits w0.heap.size W' tag' wl el 0 := by
  have hm : Tryz.prog.follows .mixedOrders = true := by kernel_rfl
  obtain ⟨i0, hi, hz0, hz1, hz2⟩ := info_parts info3
  have HI : Hid _ := I.frm ((Fr.refl [] W).alloc (Obj.cells #[.int .i64 6, .int .i64 a, .int .i64 b', .string s, .string t, .string u] 38))
  have HW : Hid _ := Wt.chg (S := []) (Chg.of_fr ((Fr.refl [] W).alloc (Obj.cells #[.int .i64 6, .int .i64 a, .int .i64 b', .string s, .string t, .string u] 38))) (by simp)
  clear I Wt
  go_enter Tryz.func10, Tryz.ntmps10
  go_wp2
  have k1 : (W.alloc (Obj.cells #[.int .i64 6, .int .i64 a, .int .i64 b', .string s, .string t, .string u] 38)).cell? ⟨W.heap.size, 1, none⟩ = some (.int .i64 a) := by simp
  have k3 : (W.alloc (Obj.cells #[.int .i64 6, .int .i64 a, .int .i64 b', .string s, .string t, .string u] 38)).cell? ⟨W.heap.size, 3, none⟩ = some (.string s) := by simp
  generalize (W.alloc (Obj.cells #[.int .i64 6, .int .i64 a, .int .i64 b', .string s, .string t, .string u] 38)) = W1 at *
  generalize W.heap.size = ob at *
  have hob := lt_of_cell k1
  have I := HI.out
  obtain ⟨n, xs, r, hn⟩ := I.r4
  obtain ⟨o3, cap3, e3⟩ := own_form r.own
  have d3 := I.core.cell 4 (by decide)
  rw [e3] at d3
  have r' := r
  rw [e3] at r'
  have hsz := I.core.fr.size
  obtain ⟨vv, w3, hr2, hown', hgrow, hnil, hwh⟩ := run_append_own_at (P := Tryz.prog) (W1.drew.alloc (Obj.cells #[.int .i64 a] 3)) w0.heap.size 28 28 3 i0 _ 1 8 Tryz.underlying28 hi hz0 hz1 hz2 rfl (by decide) (.slice o3 n cap3) n xs ((show W1.drew.ownsRow _ _ _ _ _ _ from r'.own).alloc _) ⟨W1.heap.size, 0, none⟩ 1 1 [.int .i64 a] rfl
    (by
      intro j u hj
      have hnw : ∀ i, (W1.drew.alloc (Obj.cells #[.int .i64 a] 3)).cell? ⟨W1.heap.size, i, none⟩ = [.int .i64 a][i]? := fun i => by
        have hm := World.alloc_heap_new W1.drew (Obj.cells #[.int .i64 a] 3)
        have hm' : (W1.drew.alloc (Obj.cells #[.int .i64 a] 3)).heap[W1.heap.size]? = some _ := hm
        unfold World.cell?; rw [hm']; simp
      rcases j with _ | j
      · simpa [Addr.add, hnw] using hj
      · simp at hj)
    (by intro u hu; simp at hu; subst hu; rfl) (by unfold maxLen; omega) (by omega) (by simp; omega)
  obtain ⟨q1, q2, rfl⟩ := own_form hown'
  have fa : Fr [] W1 (W1.drew.alloc (Obj.cells #[.int .i64 a] 3)) := ((Fr.refl [] W1).drew).alloc _
  obtain ⟨s3, core3, row3, cl, fz, _⟩ := row_step 4 2 I.core r fa hown' (by rw [e3]; exact hgrow) (by rw [e3]; exact hwh) (by decide) (by decide) (by decide)
  have cl3 := cl 4 (by decide)
  have fz3 := fz 4 (by decide)
  rw [e3] at cl3
  have IF := I.grow4 s3 core3 row3 (by omega)
  have WF := s3.waits HW.out (by decide)
  have Hr2 : Hid _ := hr2
  have HF : Hid (_ ∧ _) := ⟨IF, WF⟩
  have b0 := ((Fr.refl [] W1).alloc (Obj.cells #[.int .i64 a] 3)).cell (p := ⟨b, 4, none⟩) I.core.lt (by simp)
  rw [d3] at b0
  have b1 : W1.drew.cell? ⟨b, 4, none⟩ = some (.slice o3 n cap3) := d3
  clear hr2 IF WF s3 core3 row3 cl fz hown' hgrow hnil hwh r r' HI HW I fa e3
  refine wp_region_heldD (fun _ => True) hm ?_
  have hS : (fun _ : World => True) W1.drew := trivial
  refine wpAnyH_take (i := 0) (v := ?_) rfl (by kernel_rfl) (by kernel_rfl) (by kernel_rfl) (fun _ _ _ h => h) (.inl ⟨rfl, fun w1 hS1 => ?_⟩) hS ?_
  rotate_left
  · have q9 := hS1
    go_simp
    rfl
  simp only [Act.put, List.setIfInBounds_toArray, List.set_cons_zero, List.set_cons_succ]
  refine wpAnyH_take (i := 1) (v := ?_) rfl (by kernel_rfl) (by kernel_rfl) (by kernel_rfl) (fun _ _ _ h => h) (.inl ⟨rfl, fun w1 hS1 => ?_⟩) hS ?_
  rotate_left
  · have q9 := hS1
    go_simp
    rfl
  simp only [Act.put, List.setIfInBounds_toArray, List.set_cons_zero, List.set_cons_succ]
  refine wpAnyH_take (i := 2) (v := ?_) rfl (by kernel_rfl) (by kernel_rfl) (by kernel_rfl) (fun _ _ _ h => h) (.inl ⟨rfl, fun w1 hS1 => ?_⟩) hS ?_
  rotate_left
  · have q9 := hS1
    go_simp
    rfl
  simp only [Act.put, List.setIfInBounds_toArray, List.set_cons_zero, List.set_cons_succ]
  refine wpAnyH_take (i := 3) (v := ?_) rfl (by kernel_rfl) (by kernel_rfl) (by kernel_rfl) (fun _ _ _ h => h) (.inl ⟨rfl, fun w1 hS1 => ?_⟩) hS ?_
  rotate_left
  · have q9 := hS1
    go_simp
    rfl
  simp only [Act.put, List.setIfInBounds_toArray, List.set_cons_zero, List.set_cons_succ]
  refine wpAnyH_take (i := 5) (v := ?_) rfl (by kernel_rfl) (by kernel_rfl) (by kernel_rfl) (fun _ _ _ h => h) (.inl ⟨rfl, fun w1 hS1 => ?_⟩) hS ?_
  rotate_left
  · have q9 := hS1
    go_simp
    rfl
  simp only [Act.put, List.setIfInBounds_toArray, List.set_cons_zero, List.set_cons_succ]
  refine wpAnyH_ready (rs := [4, 6]) (by kernel_rfl) (by simp) ?_
  refine AllReadyH.cons rfl (fun K hK => ?_) ?_
  · go_simp
    refine hK _ _ trivial ?_
    clear hK K
    intro _
    refine wpAnyH_ready (rs := [6]) (by kernel_rfl) (by simp) ?_
    refine AllReadyH.cons rfl (fun K hK => ?_) AllReadyH.nil
    go_simp
    refine hK _ _ trivial ?_
    clear hK K
    intro _
    refine wpAnyH_ready (rs := [7]) (by kernel_rfl) (by simp) ?_
    refine AllReadyH.cons rfl (fun K hK => ?_) AllReadyH.nil
    go_simp
    refine hK _ _ trivial ?_
    clear hK K
    intro _
    refine wpAnyH_ready (rs := [8]) (by kernel_rfl) (by simp) ?_
    refine AllReadyH.cons rfl (fun K hK => ?_) AllReadyH.nil
    refine wanted_of (by rfl) ?_
    refine wp_append_run _ _ 28 rfl _ _ rfl rfl Hr2.out ?_
    refine hK _ _ trivial ?_
    clear hK K
    intro _
    simp only [Act.put, List.setIfInBounds_toArray, List.set_cons_zero, List.set_cons_succ]
    refine wpAnyH_ready (rs := [9]) (by kernel_rfl) (by simp) ?_
    refine AllReadyH.cons rfl (fun K hK => ?_) AllReadyH.nil
    go_simp
    refine hK _ _ trivial ?_
    clear hK K
    intro _
    refine wpAnyH_ready (rs := [10]) (by kernel_rfl) (by simp) ?_
    refine AllReadyH.cons rfl (fun K hK => ?_) AllReadyH.nil
    go_simp
    refine hK _ _ trivial ?_
    clear hK K
    intro _
    refine wpAnyH_ready (rs := [11]) (by kernel_rfl) (by simp) ?_
    refine AllReadyH.cons rfl (fun K hK => ?_) AllReadyH.nil
    go_simp
    refine hK _ _ trivial ?_
    clear hK K
    intro _
    refine wpAnyH_done (by kernel_rfl) ?_ _
    go_wp2
    go_end0
    exact ⟨rfl, _, ⟨_, HF.out.1⟩, HF.out.2⟩
  · refine AllReadyH.cons rfl (fun K hK => ?_) AllReadyH.nil
    go_simp
    refine hK _ _ trivial ?_
    clear hK K
    intro _
    refine wpAnyH_ready (rs := [4, 7]) (by kernel_rfl) (by simp) ?_
    refine AllReadyH.cons rfl (fun K hK => ?_) ?_
    · go_simp
      refine hK _ _ trivial ?_
      clear hK K
      intro _
      refine wpAnyH_ready (rs := [7]) (by kernel_rfl) (by simp) ?_
      refine AllReadyH.cons rfl (fun K hK => ?_) AllReadyH.nil
      go_simp
      refine hK _ _ trivial ?_
      clear hK K
      intro _
      refine wpAnyH_ready (rs := [8]) (by kernel_rfl) (by simp) ?_
      refine AllReadyH.cons rfl (fun K hK => ?_) AllReadyH.nil
      refine wanted_of (by rfl) ?_
      refine wp_append_run _ _ 28 rfl _ _ rfl rfl Hr2.out ?_
      refine hK _ _ trivial ?_
      clear hK K
      intro _
      simp only [Act.put, List.setIfInBounds_toArray, List.set_cons_zero, List.set_cons_succ]
      refine wpAnyH_ready (rs := [9]) (by kernel_rfl) (by simp) ?_
      refine AllReadyH.cons rfl (fun K hK => ?_) AllReadyH.nil
      go_simp
      refine hK _ _ trivial ?_
      clear hK K
      intro _
      refine wpAnyH_ready (rs := [10]) (by kernel_rfl) (by simp) ?_
      refine AllReadyH.cons rfl (fun K hK => ?_) AllReadyH.nil
      go_simp
      refine hK _ _ trivial ?_
      clear hK K
      intro _
      refine wpAnyH_ready (rs := [11]) (by kernel_rfl) (by simp) ?_
      refine AllReadyH.cons rfl (fun K hK => ?_) AllReadyH.nil
      go_simp
      refine hK _ _ trivial ?_
      clear hK K
      intro _
      refine wpAnyH_done (by kernel_rfl) ?_ _
      go_wp2
      go_end0
      exact ⟨rfl, _, ⟨_, HF.out.1⟩, HF.out.2⟩
    · refine AllReadyH.cons rfl (fun K hK => ?_) AllReadyH.nil
      go_simp
      refine hK _ _ trivial ?_
      clear hK K
      intro _
      refine wpAnyH_ready (rs := [4]) (by kernel_rfl) (by simp) ?_
      refine AllReadyH.cons rfl (fun K hK => ?_) AllReadyH.nil
      go_simp
      refine hK _ _ trivial ?_
      clear hK K
      intro _
      refine wpAnyH_ready (rs := [8]) (by kernel_rfl) (by simp) ?_
      refine AllReadyH.cons rfl (fun K hK => ?_) AllReadyH.nil
      refine wanted_of (by rfl) ?_
      refine wp_append_run _ _ 28 rfl _ _ rfl rfl Hr2.out ?_
      refine hK _ _ trivial ?_
      clear hK K
      intro _
      simp only [Act.put, List.setIfInBounds_toArray, List.set_cons_zero, List.set_cons_succ]
      refine wpAnyH_ready (rs := [9]) (by kernel_rfl) (by simp) ?_
      refine AllReadyH.cons rfl (fun K hK => ?_) AllReadyH.nil
      go_simp
      refine hK _ _ trivial ?_
      clear hK K
      intro _
      refine wpAnyH_ready (rs := [10]) (by kernel_rfl) (by simp) ?_
      refine AllReadyH.cons rfl (fun K hK => ?_) AllReadyH.nil
      go_simp
      refine hK _ _ trivial ?_
      clear hK K
      intro _
      refine wpAnyH_ready (rs := [11]) (by kernel_rfl) (by simp) ?_
      refine AllReadyH.cons rfl (fun K hK => ?_) AllReadyH.nil
      go_simp
      refine hK _ _ trivial ?_
      clear hK K
      intro _
      refine wpAnyH_done (by kernel_rfl) ?_ _
      go_wp2
      go_end0
      exact ⟨rfl, _, ⟨_, HF.out.1⟩, HF.out.2⟩

end Go.Proofs.YtakbfoegkjaphaaGreatDoor

namespace Go.Proofs.YtakbfoegkjaphaaGreatDoor
open Go.RowKit

theorem bytes_of (W : World) (bs : ByteArray) : ∃ Wb cap, (convert 9 62 (.string bs)).run Tryz.prog W = .ok (.slice (some ⟨W.heap.size, 0, none⟩) bs.size cap) Wb ∧ Fr [] W Wb ∧ bs.size ≤ cap ∧
    (∀ j (hj : j < bs.data.toList.length), Wb.cell? ⟨W.heap.size, j, none⟩ = some (.int .u8 ((bs.data.toList[j]).toNat : Int))) ∧ ∀ j, j < bs.size → Wb.frozen? ⟨W.heap.size, j, none⟩ = false := by
  have hr := run_bytes_of_string (P := Tryz.prog) W 9 62 5 bs Tryz.underlying9 Tryz.underlying62 Tryz.underlying5
  have hc : bs.size ≤ grownCap W bs.size 0 5 := grownCap_ge _ _ _ _
  generalize grownCap W bs.size 0 5 = cap at hr hc
  have hrow : (bytesRow bs cap).size = cap := by
    have : bs.data.size = bs.size := rfl
    simp [bytesRow, this]; omega
  have hm := World.alloc_heap_new W.drew (.cells (bytesRow bs cap) 5 ((bytesRow bs cap).size, (bytesRow bs cap).size + 1))
  have hm' : (W.drew.alloc (.cells (bytesRow bs cap) 5 ((bytesRow bs cap).size, (bytesRow bs cap).size + 1))).heap[W.heap.size]? = some _ := hm
  refine ⟨_, cap, hr, ((Fr.refl [] W).drew).alloc _, hc, fun j hj => ?_, fun j hj => ?_⟩
  · unfold World.cell?
    rw [hm']
    have hj' : j < bs.data.size := by simpa using hj
    have e := Array.getElem?_append_left (xs := bs.data.map (fun b => Value.int .u8 b.toNat)) (ys := Array.replicate (cap - bs.size) (Value.int .u8 0)) (i := j) (by simpa using hj')
    show (bytesRow bs cap)[j]? = _
    unfold bytesRow
    rw [e, Array.getElem?_map, Array.getElem?_eq_getElem hj']
    rfl
  · unfold World.frozen?
    rw [hm']
    simp [hrow]
    omega

set_option maxRecDepth 100000 in
set_option maxHeartbeats 2000000 in
theorem owner_mar0 (w0 W : World) (b : Nat) (tag : Nat → Nat) (c : Nat → Value) (T : Nat) (bk : List Book) (wl el : List Value) (a b' : Int) (s t u bs : ByteArray) (I : ScrI w0 W b tag c T bk wl el) (Wt : Waits w0.heap.size W tag wl el 0) (e1 : c 1 = .string bs) (h0 : bs.size = 0) :
    Calls Tryz.prog 10 #[.pointer (some ⟨b, 0, none⟩), .agg #[.int .i64 3, .int .i64 a, .int .i64 b', .string s, .string t, .string u]] W fun e W' => e = .returned (.tuple #[]) ∧ ∃ tag' c', ScrI w0 W' b tag' c' T bk wl el ∧ Waits w0.heap.size W' tag' wl el 0 := by
  have Ha := And.intro (I.frm ((Fr.refl [] W).alloc (Obj.cells #[.int .i64 3, .int .i64 a, .int .i64 b', .string s, .string t, .string u] 38))) (Wt.chg (S := []) (Chg.of_fr ((Fr.refl [] W).alloc (Obj.cells #[.int .i64 3, .int .i64 a, .int .i64 b', .string s, .string t, .string u] 38))) (by simp))
  have d1 := Ha.1.core.cell 1 (by decide)
  rw [e1] at d1
  have Hf : Hid _ := Ha
  clear I Wt Ha e1
  go_enter Tryz.func10, Tryz.ntmps10
  go_wp2
  go_end0
  exact ⟨rfl, _, _, Hf.out.1, Hf.out.2⟩

set_option maxRecDepth 100000 in
set_option maxHeartbeats 2000000 in
theorem owner_mar1 (w0 W : World) (b : Nat) (tag : Nat → Nat) (c : Nat → Value) (T : Nat) (bk : List Book) (wl el : List Value) (a b' : Int) (s t u bs : ByteArray) (I : ScrI w0 W b tag c T bk wl el) (Wt : Waits w0.heap.size W tag wl el 0) (e1 : c 1 = .string bs) (h0 : 0 < bs.size) (hs : bs.size ≤ 2000000) (ha0 : -9223372036854775808 ≤ a) (ha1 : a ≤ 9223372036854775807) (hb0 : -9223372036854775808 ≤ b') (hb1 : b' ≤ 9223372036854775807) :
    Calls Tryz.prog 10 #[.pointer (some ⟨b, 0, none⟩), .agg #[.int .i64 3, .int .i64 a, .int .i64 b', .string s, .string t, .string u]] W fun e W' => e = .returned (.tuple #[]) ∧ ∃ tag' c', ScrI w0 W' b tag' c' T bk wl el ∧ Waits w0.heap.size W' tag' wl el 0 := by
  have hm : Tryz.prog.follows .mixedOrders = true := by kernel_rfl
  have Ha := And.intro (I.frm ((Fr.refl [] W).alloc (Obj.cells #[.int .i64 3, .int .i64 a, .int .i64 b', .string s, .string t, .string u] 38))) (Wt.chg (S := []) (Chg.of_fr ((Fr.refl [] W).alloc (Obj.cells #[.int .i64 3, .int .i64 a, .int .i64 b', .string s, .string t, .string u] 38))) (by simp))
  have d1 := Ha.1.core.cell 1 (by decide)
  rw [e1] at d1
  have g1 : (0 : Int) < bs.size := by omega
  have Hf : Hid _ := Ha
  clear I Wt Ha e1
  go_enter Tryz.func10, Tryz.ntmps10
  go_wp2
  have k1 : (W.alloc (Obj.cells #[.int .i64 3, .int .i64 a, .int .i64 b', .string s, .string t, .string u] 38)).cell? ⟨W.heap.size, 1, none⟩ = some (.int .i64 a) := by simp
  have k2 : (W.alloc (Obj.cells #[.int .i64 3, .int .i64 a, .int .i64 b', .string s, .string t, .string u] 38)).cell? ⟨W.heap.size, 2, none⟩ = some (.int .i64 b') := by simp
  generalize (W.alloc (Obj.cells #[.int .i64 3, .int .i64 a, .int .i64 b', .string s, .string t, .string u] 38)) = W1 at *
  generalize W.heap.size = ob at *
  have hob := lt_of_cell k1
  obtain ⟨Wb, cap, hr, fb, hcap, hcl, hfz⟩ := bytes_of W1 bs
  rw [hr]
  simp only [Result.andThen]
  rw [Oper.upon_value]
  obtain ⟨y8, hy⟩ := a_byte (IntKind.u8.wrap b') (by rw [IntKind.wrap_u8]; omega) (by rw [IntKind.wrap_u8]; omega)
  obtain ⟨gb, hgb⟩ : ∃ g, W1.heap.size = g := ⟨_, rfl⟩
  rw [hgb] at hcl hfz
  have j1 := (fb.cell (p := ⟨ob, 1, none⟩) hob (by simp)).trans k1
  have j2 := (fb.cell (p := ⟨ob, 2, none⟩) hob (by simp)).trans k2
  have hbs : bs.data.toList.length = bs.size := by cases bs; rfl
  have Hc : Hid _ := hcl
  have Hz : Hid _ := hfz
  have Hy : Hid _ := hy
  have Hpk : Hid _ := fun W => pick_any a bs.size W h0 ha0 ha1 (by omega)
  clear hr hcl hfz hy k1 k2
  rw [hgb]
  go_wp2
  refine wp_region_heldD (fun w1 : World => w1.cell? ⟨ob, 1, none⟩ = some (.int .i64 a) ∧ w1.cell? ⟨ob, 2, none⟩ = some (.int .i64 b')) hm ?_
  have hS : (fun w1 : World => w1.cell? ⟨ob, 1, none⟩ = some (.int .i64 a) ∧ w1.cell? ⟨ob, 2, none⟩ = some (.int .i64 b')) Wb.drew := ⟨j1, j2⟩
  refine wpAnyH_take (i := 0) (v := ?_) rfl (by kernel_rfl) (by kernel_rfl) (by kernel_rfl) (fun _ _ _ h => h) (.inl ⟨rfl, fun w1 hS1 => ?_⟩) hS ?_
  rotate_left
  · obtain ⟨q1, q2⟩ := hS1
    go_simp
    rfl
  simp only [Act.put, List.setIfInBounds_toArray, List.set_cons_zero, List.set_cons_succ]
  refine wpAnyH_take (i := 1) (v := ?_) rfl (by kernel_rfl) (by kernel_rfl) (by kernel_rfl) (fun _ _ _ h => h) (.inl ⟨rfl, fun w1 hS1 => ?_⟩) hS ?_
  rotate_left
  · obtain ⟨q1, q2⟩ := hS1
    go_simp
    rfl
  simp only [Act.put, List.setIfInBounds_toArray, List.set_cons_zero, List.set_cons_succ]
  refine wpAnyH_take (i := 2) (v := ?_) rfl (by kernel_rfl) (by kernel_rfl) (by kernel_rfl) (fun _ _ _ h => h) (.inl ⟨rfl, fun w1 hS1 => ?_⟩) hS ?_
  rotate_left
  · obtain ⟨q1, q2⟩ := hS1
    go_simp
    rfl
  simp only [Act.put, List.setIfInBounds_toArray, List.set_cons_zero, List.set_cons_succ]
  refine wpAnyH_take (i := 3) (v := ?_) rfl (by kernel_rfl) (by kernel_rfl) (by kernel_rfl) (fun _ _ _ h => h) (.inl ⟨rfl, fun w1 hS1 => ?_⟩) hS ?_
  rotate_left
  · obtain ⟨q1, q2⟩ := hS1
    go_simp
    rfl
  simp only [Act.put, List.setIfInBounds_toArray, List.set_cons_zero, List.set_cons_succ]
  refine wpAnyH_take (i := 4) (v := ?_) rfl (by kernel_rfl) (by kernel_rfl) (by kernel_rfl) (fun _ _ _ h => h) (.inl ⟨rfl, fun w1 hS1 => ?_⟩) hS ?_
  rotate_left
  · obtain ⟨q1, q2⟩ := hS1
    go_simp
    rfl
  simp only [Act.put, List.setIfInBounds_toArray, List.set_cons_zero, List.set_cons_succ]
  refine wpAnyH_take (i := 6) (v := ?_) rfl (by kernel_rfl) (by kernel_rfl) (by kernel_rfl) (fun _ _ _ h => h) (.inl ⟨rfl, fun w1 hS1 => ?_⟩) hS ?_
  rotate_left
  · obtain ⟨q1, q2⟩ := hS1
    go_simp
    rfl
  simp only [Act.put, List.setIfInBounds_toArray, List.set_cons_zero, List.set_cons_succ]
  refine wpAnyH_take (i := 7) (v := ?_) rfl (by kernel_rfl) (by kernel_rfl) (by kernel_rfl) (fun _ _ _ h => h) (.inl ⟨rfl, fun w1 hS1 => ?_⟩) hS ?_
  rotate_left
  · obtain ⟨q1, q2⟩ := hS1
    go_simp
    rfl
  simp only [Act.put, List.setIfInBounds_toArray, List.set_cons_zero, List.set_cons_succ]
  refine wpAnyH_take (i := 8) (v := ?_) rfl (by kernel_rfl) (by kernel_rfl) (by kernel_rfl) (fun _ _ _ h => h) (.inl ⟨rfl, fun w1 hS1 => ?_⟩) hS ?_
  rotate_left
  · obtain ⟨q1, q2⟩ := hS1
    go_simp
    rfl
  simp only [Act.put, List.setIfInBounds_toArray, List.set_cons_zero, List.set_cons_succ]
  refine wpAnyH_ready (rs := [5]) (by kernel_rfl) (by simp) ?_
  refine AllReadyH.cons rfl (fun K hK => ?_) AllReadyH.nil
  go_simp
  refine (Hpk.out _).mono ?_
  rintro e wz ⟨k, hk, rfl, rfl⟩
  refine hK _ _ ⟨j1, j2⟩ ?_
  clear hK K
  intro _
  have c1 : Wb.drew.cell? ⟨gb, k, none⟩ = some (.int .u8 ((bs.data.toList[k]'(by omega)).toNat : Int)) := Hc.out k (by omega)
  have c2 : Wb.drew.frozen? ⟨gb, k, none⟩ = false := Hz.out k hk
  have gk : (k : Int) < bs.size := by omega
  refine wpAnyH_ready (rs := [9]) (by kernel_rfl) (by simp) ?_
  refine AllReadyH.cons rfl (fun K hK => ?_) AllReadyH.nil
  go_simp
  refine hK _ _ ⟨j1, j2⟩ ?_
  clear hK K
  intro _
  refine wpAnyH_ready (rs := [10]) (by kernel_rfl) (by simp) ?_
  refine AllReadyH.cons rfl (fun K hK => ?_) AllReadyH.nil
  have hne : ob ≠ gb := by omega
  go_simp
  refine hK _ _ ⟨(setCell_far (fun e => hne e.symm)).trans j1, (setCell_far (fun e => hne e.symm)).trans j2⟩ ?_
  clear hK K
  intro _
  refine wpAnyH_done (by kernel_rfl) ?_ _
  have fWc : Fr [] W1 (Wb.setCell ⟨gb, k, none⟩ (.int .u8 (IntKind.u8.wrap b'))).drew := (fb.setCell (p := ⟨gb, k, none⟩) (.inr (by simp; omega)) _).drew
  have hcells : ∀ j (hj : j < (bs.data.toList.set k y8).length), (Wb.setCell ⟨gb, k, none⟩ (.int .u8 (IntKind.u8.wrap b'))).drew.cell? ⟨gb, j, none⟩ = some (.int .u8 (((bs.data.toList.set k y8)[j]).toNat : Int)) := by
    intro j hj
    have hj' : j < bs.data.toList.length := by simpa using hj
    by_cases e : k = j
    · subst e
      show (Wb.setCell ⟨gb, k, none⟩ (.int .u8 (IntKind.u8.wrap b'))).cell? ⟨gb, k, none⟩ = _
      rw [World.cell?_setCell_same' _ _ _ (by rw [show Wb.cell? ⟨gb, k, none⟩ = _ from c1]; rfl), ← Hy.out]
      simp
    · show (Wb.setCell ⟨gb, k, none⟩ (.int .u8 (IntKind.u8.wrap b'))).cell? ⟨gb, j, none⟩ = _
      rw [setCell_off e, Hc.out j hj', List.getElem_set_ne e]
  have hll : (bs.data.toList.set k y8).length = bs.size := by rw [List.length_set, hbs]
  generalize (Wb.setCell ⟨gb, k, none⟩ (.int .u8 (IntKind.u8.wrap b'))).drew = Wc at *
  have hcv := conv_bytes Wc gb cap bs.size (bs.data.toList.set k y8) hll hcells
  have Hcv : Hid _ := hcv
  have hl2 : (⟨(bs.data.toList.set k y8).toArray⟩ : ByteArray).size ≤ 2000000 := by
    have : (⟨(bs.data.toList.set k y8).toArray⟩ : ByteArray).size = (bs.data.toList.set k y8).length := rfl
    omega
  have I2 := Hf.out.1.frm fWc
  have W2 := Hf.out.2.chg (S := []) (Chg.of_fr fWc) (by simp)
  have HF : Hid (_ ∧ _) := ⟨I2.bytes ⟨(bs.data.toList.set k y8).toArray⟩ hl2, W2.cell (b := b) (i := 1) I2.core.tb (.string ⟨(bs.data.toList.set k y8).toArray⟩)⟩
  have d1c := I2.core.cell 1 (by decide)
  have z1c := I2.core.fz 1 (by decide)
  clear I2 W2 hcv hcells hl2 hll c1 c2 Hc Hz Hy Hf d1 j1 j2
  go_wp2
  rw [Hcv.out]
  simp only [Result.andThen]
  rw [Oper.upon_value]
  go_wp2
  go_end0
  first
    | exact ⟨rfl, _, _, HF.out.1, HF.out.2⟩
    | exact ⟨rfl, _, ⟨_, HF.out.1⟩, HF.out.2⟩

end Go.Proofs.YtakbfoegkjaphaaGreatDoor

