import Derived.Test.YtmolfmgchbjnbaaGreatDoorM22
set_option linter.unusedSimpArgs false
set_option linter.unusedVariables false
namespace Go.Proofs.YtmolfmgchbjnbaaGreatDoor
open Go.RowKit
open Wire Flow Mach
set_option maxRecDepth 100000 in
set_option maxHeartbeats 4000000 in
theorem frame_any (X g n cap : Nat) (W : World) (hs : W.cell? ⟨X, 11, none⟩ = some (.slice (some ⟨g, 0, none⟩) (n + 1) cap)) (hn : n < 4000) :
  Calls Tryz.prog 63 #[ptr X] W fun e W' => e = .returned (.pointer (some ⟨g, n * 51, none⟩)) ∧ Fr [] W W' := by
 have hm : Tryz.prog.follows Departure.mixedOrders = true := by kernel_rfl
 have hw64 : IntKind.i64.wrap (n : Int) = n := by rw [IntKind.wrap_i64]; omega
 have hlt : (n : Int) < (n : Int) + 1 := by omega
 go_enter Tryz.func63, Tryz.ntmps63
 go_wp2_with fail
 refine wp_region_lex hm (by kernel_rfl) ?_
 repeat still_step
 refine wpStill_nil ?_
 go_wp2_with fail
 go_ret
 exact ⟨rfl, (Fr.refl [] W).drew⟩
theorem cells5 {w : World} {b : Nat} {x y z u v : Value} {t : TypeId} (h : w.heap[b]? = some (.cells #[x, y, z, u, v] t)) : (w.cell? ⟨b, 0, none⟩ = some x ∧ w.cell? ⟨b, 1, none⟩ = some y ∧ w.cell? ⟨b, 2, none⟩ = some z ∧ w.cell? ⟨b, 3, none⟩ = some u ∧ w.cell? ⟨b, 4, none⟩ = some v) ∧ w.frozen? ⟨b, 0, none⟩ = false ∧ w.frozen? ⟨b, 1, none⟩ = false ∧ w.frozen? ⟨b, 2, none⟩ = false ∧ w.frozen? ⟨b, 3, none⟩ = false ∧ w.frozen? ⟨b, 4, none⟩ = false := by
 refine ⟨⟨?_, ?_, ?_, ?_, ?_⟩, ?_, ?_, ?_, ?_, ?_⟩ <;> first | (unfold World.cell?; rw [h]; rfl) | (unfold World.frozen?; rw [h]; simp)
theorem set5 {w : World} {b : Nat} {x y z u v x' y' z' u' v' : Value} (h : w.cell? ⟨b, 0, none⟩ = some x ∧ w.cell? ⟨b, 1, none⟩ = some y ∧ w.cell? ⟨b, 2, none⟩ = some z ∧ w.cell? ⟨b, 3, none⟩ = some u ∧ w.cell? ⟨b, 4, none⟩ = some v) : ∃ w', ((((w.setCell ⟨b, 0, none⟩ x').setCell ⟨b, 1, none⟩ y').setCell ⟨b, 2, none⟩ z').setCell ⟨b, 3, none⟩ u').setCell ⟨b, 4, none⟩ v' = w' ∧ w'.cell? ⟨b, 0, none⟩ = some x' ∧ w'.cell? ⟨b, 1, none⟩ = some y' ∧ w'.cell? ⟨b, 2, none⟩ = some z' ∧ w'.cell? ⟨b, 3, none⟩ = some u' ∧ w'.cell? ⟨b, 4, none⟩ = some v' ∧ Fr [b] w w' := by
 obtain ⟨h0, h1, h2, h3, h4⟩ := h
 refine ⟨_, rfl, ?_, ?_, ?_, ?_, ?_, (((((Fr.refl [b] w).setCell (.inl (by simp)) _).setCell (.inl (by simp)) _).setCell (.inl (by simp)) _).setCell (.inl (by simp)) _).setCell (.inl (by simp)) _⟩
 ·rw [setCell_off (by decide), setCell_off (by decide), setCell_off (by decide), setCell_off (by decide)]; exact cell_setA h0
 ·rw [setCell_off (by decide), setCell_off (by decide), setCell_off (by decide)]; exact cell_setA (by rw [setCell_off (by decide)]; exact h1)
 ·rw [setCell_off (by decide), setCell_off (by decide)]; exact cell_setA (by rw [setCell_off (by decide), setCell_off (by decide)]; exact h2)
 ·rw [setCell_off (by decide)]; exact cell_setA (by rw [setCell_off (by decide), setCell_off (by decide), setCell_off (by decide)]; exact h3)
 ·exact cell_setA (by rw [setCell_off (by decide), setCell_off (by decide), setCell_off (by decide), setCell_off (by decide)]; exact h4)
abbrev inV (op pl a b to_ : Int) : Value := .agg #[.int .u8 op, .int .i64 pl, .int .i64 a, .int .i64 b, .int .i64 to_]
set_option maxRecDepth 100000 in
set_option maxHeartbeats 4000000 in
theorem next_any (g o gc ix n cc : Nat) (op pl a b to_ : Int) (W : World) (h0 : W.cell? ⟨g, o, none⟩ = some (.slice (some ⟨gc, 0, none⟩) n cc)) (h1 : W.cell? ⟨g, o + 1, none⟩ = some (.int .i64 ix)) (hz : W.frozen? ⟨g, o + 1, none⟩ = false) (hi : ix < n) (hn : n ≤ 100000)
  (c0 : W.cell? ⟨gc, ix * 5, none⟩ = some (.int .u8 op)) (c1 : W.cell? ⟨gc, ix * 5 + 1, none⟩ = some (.int .i64 pl)) (c2 : W.cell? ⟨gc, ix * 5 + 2, none⟩ = some (.int .i64 a)) (c3 : W.cell? ⟨gc, ix * 5 + 3, none⟩ = some (.int .i64 b)) (c4 : W.cell? ⟨gc, ix * 5 + 4, none⟩ = some (.int .i64 to_)) :
  Calls Tryz.prog 64 #[.pointer (some ⟨g, o, none⟩)] W fun e W' => e = .returned (inV op pl a b to_) ∧ Set1 W g (o + 1) (.int .i64 ((ix + 1 : Nat) : Int)) W' := by
 have hm : Tryz.prog.follows Departure.mixedOrders = true := by kernel_rfl
 obtain ⟨W1, hW1⟩ : ∃ W1, W.alloc (.cells #[.int .u8 0, .int .i64 0, .int .i64 0, .int .i64 0, .int .i64 0] 150) = W1 := ⟨_, rfl⟩
 have F1 : Fr [] W W1 := by rw [← hW1]; exact (Fr.refl [] W).alloc _
 have k1 := World.alloc_heap_new W (.cells #[.int .u8 0, .int .i64 0, .int .i64 0, .int .i64 0, .int .i64 0] 150)
 rw [hW1] at k1
 have l1 := (Array.getElem?_eq_some_iff.1 k1).1
 have hg := lt_of_cell h1
 simp only at hg
 obtain ⟨WD, hWD⟩ : ∃ WD, W1.drew = WD := ⟨_, rfl⟩
 have FD : Fr [] W1 WD := by rw [← hWD]; exact (Fr.refl [] W1).drew
 have F0D := F1.trans FD
 have hsz : WD.heap.size = W1.heap.size := by rw [← hWD]; rfl
 have HQ : Hid _ := fun (w : World) (hw : Fr [] WD w) => And.intro (((F0D.trans hw).cell (p := ⟨g, o, none⟩) hg (by simp)).trans h0) (And.intro (((F0D.trans hw).cell (p := ⟨g, o + 1, none⟩) hg (by simp)).trans h1) (And.intro (((F0D.trans hw).cell (p := ⟨gc, ix * 5, none⟩) (lt_of_cell c0) (by simp)).trans c0) (And.intro (((F0D.trans hw).cell (p := ⟨gc, ix * 5 + 1, none⟩) (lt_of_cell c1) (by simp)).trans c1) (And.intro (((F0D.trans hw).cell (p := ⟨gc, ix * 5 + 2, none⟩) (lt_of_cell c2) (by simp)).trans c2) (And.intro (((F0D.trans hw).cell (p := ⟨gc, ix * 5 + 3, none⟩) (lt_of_cell c3) (by simp)).trans c3) (((F0D.trans hw).cell (p := ⟨gc, ix * 5 + 4, none⟩) (lt_of_cell c4) (by simp)).trans c4))))))
 obtain ⟨W2, hW2⟩ : ∃ W2, WD.alloc (.cells #[.int .u8 0, .int .i64 0, .int .i64 0, .int .i64 0, .int .i64 0] 150) = W2 := ⟨_, rfl⟩
 have F2 : Fr [] WD W2 := by rw [← hW2]; exact (Fr.refl [] WD).alloc _
 have k2 := World.alloc_heap_new WD (.cells #[.int .u8 0, .int .i64 0, .int .i64 0, .int .i64 0, .int .i64 0] 150)
 rw [hW2] at k2
 have l2 := (Array.getElem?_eq_some_iff.1 k2).1
 obtain ⟨hy, z0, z1, z2, z3, z4⟩ := cells5 k2
 obtain ⟨W3, hW3, u0, u1, u2, u3, u4, F3⟩ := set5 (x' := .int .u8 op) (y' := .int .i64 pl) (z' := .int .i64 a) (u' := .int .i64 b) (v' := .int .i64 to_) hy
 obtain ⟨y0, y1, y2, y3, y4⟩ := hy
 have FD3 : Fr [] WD W3 := F2.trans' F3 (by simp)
 have F03 : Fr [] W W3 := F0D.trans FD3
 have q1 : W3.cell? ⟨g, o + 1, none⟩ = some (.int .i64 ix) := (F03.cell (p := ⟨g, o + 1, none⟩) hg (by simp)).trans h1
 have qz : W3.frozen? ⟨g, o + 1, none⟩ = false := (F03.frozen (p := ⟨g, o + 1, none⟩) hg (by simp)).trans hz
 obtain ⟨W4, hW4⟩ : ∃ W4, W3.setCell ⟨g, o + 1, none⟩ (.int .i64 ((ix : Int) + 1)) = W4 := ⟨_, rfl⟩
 have F4 : Fr [g] W3 W4 := by rw [← hW4]; exact (Fr.refl [g] W3).setCell (.inl (by simp)) _
 have hs1 := F1.size
 have hs3 := FD3.size
 have hne : WD.heap.size ≠ g := by omega
 have hl3 : WD.heap.size < W3.heap.size := lt_of_cell u0
 have e0 := (F4.cell (p := ⟨WD.heap.size, 0, none⟩) hl3 (by simpa using hne)).trans u0
 have e1 := (F4.cell (p := ⟨WD.heap.size, 1, none⟩) hl3 (by simpa using hne)).trans u1
 have e2 := (F4.cell (p := ⟨WD.heap.size, 2, none⟩) hl3 (by simpa using hne)).trans u2
 have e3 := (F4.cell (p := ⟨WD.heap.size, 3, none⟩) hl3 (by simpa using hne)).trans u3
 have e4 := (F4.cell (p := ⟨WD.heap.size, 4, none⟩) hl3 (by simpa using hne)).trans u4
 have k4 := (F4.block W.heap.size (by omega) (by simp; omega)).trans (((FD.trans FD3).block W.heap.size l1 (by simp)).trans k1)
 obtain ⟨hx, w0, w1, w2, w3, w4⟩ := cells5 k4
 obtain ⟨W5, hW5, r0, r1, r2, r3, r4, F5⟩ := set5 (x' := .int .u8 op) (y' := .int .i64 pl) (z' := .int .i64 a) (u' := .int .i64 b) (v' := .int .i64 to_) hx
 obtain ⟨x0, x1, x2, x3, x4⟩ := hx
 have HR : Hid (Set1 W g (o + 1) (.int .i64 ((ix : Int) + 1)) W5) := by
  refine Set1.of F03 (S := [W.heap.size]) ?_ hg (by simp)
  rw [hW4]
  exact F5
 have H2 : Hid _ := And.intro F2 FD3
 have hi' : (ix : Int) < n := by omega
 have hw64 : IntKind.i64.wrap ((ix : Int) + 1) = (ix : Int) + 1 := by rw [IntKind.wrap_i64]; omega
 clear F1 FD F0D F2 F3 F4 F5 FD3 F03 h0 h1 hz c0 c1 c2 c3 c4 k1 k2 k4 l1 l2 hs1 hs3 hl3 hsz
 go_enter Tryz.func64, Tryz.ntmps64
 go_wp2_with fail
 refine wp_region_heldD (fun w => Fr [] WD w) hm ?_
 rw [hWD]
 have hS : Fr [] WD WD := Fr.refl _ _
 refine wpAnyH_takes (fun _ _ _ _ _ h => h) hS [0, 1, 2, 3, 4, 5, 6, 7, 8, 9] (by kernel_rfl) ?_
 iterate 10
  refine Yls.cons (v := ?_) rfl (.inl ⟨rfl, fun w1 hS1 => ?_⟩) ?_
  rotate_left
  ·obtain ⟨s0, s1, s2, s3, s4, s5, s6⟩ := HQ.out _ hS1
   go_simp
   first | rfl | (refine (if_neg (by omega)).trans ?_; rfl)
  simp only [Act.put, List.setIfInBounds_toArray, List.set_cons_zero, List.set_cons_succ, List.getElem_toArray, List.getElem_cons_succ, List.getElem_cons_zero]
 refine Yls.nil ?_
 refine wpAnyH_ready (rs := [10]) (by kernel_rfl) (by simp) ?_
 refine AllReadyH.cons rfl (fun K hK => ?_) AllReadyH.nil
 go_simp
 refine hK _ _ H2.out.1 ?_
 clear hK K
 intro _
 try simp only [Act.put, List.setIfInBounds_toArray, List.set_cons_zero, List.set_cons_succ, List.getElem_toArray, List.getElem_cons_succ, List.getElem_cons_zero]
 refine wpAnyH_ready (rs := [11]) (by kernel_rfl) (by simp) ?_
 refine AllReadyH.cons rfl (fun K hK => ?_) AllReadyH.nil
 go_simp
 refine hK _ _ H2.out.2 ?_
 clear hK K
 intro _
 try simp only [Act.put, List.setIfInBounds_toArray, List.set_cons_zero, List.set_cons_succ, List.getElem_toArray, List.getElem_cons_succ, List.getElem_cons_zero]
 refine wpAnyH_done (by kernel_rfl) ?_ _
 go_wp2_with fail
 refine bodyPost_ret (v := inV op pl a b to_) (by simp [results, Tryz.results64, go_sem, r0, r1, r2, r3, r4]) rfl ?_
 exact ⟨rfl, HR.out⟩
end Go.Proofs.YtmolfmgchbjnbaaGreatDoor
namespace Go.Proofs.YtmolfmgchbjnbaaGreatDoor
open Go.RowKit
open Wire Flow Mach
theorem buildK_cell (p : Nat) (w : World) : (Instr.build 306 #[(1, ptr p)]).run Tryz.prog w = .ok (.agg #[.int .u8 0, .int .i64 0, .string ⟨#[]⟩, ptr p]) w := by
 kernel_rfl
section
variable {W : World} {tag : Nat → Nat} {lv : Nat → Bool} {R : Nat → Rw} {mp : Nat → Option (Nat × List (Value × Value))}
set_option maxRecDepth 100000 in
set_option maxHeartbeats 4000000 in
theorem pushKeys_any (hS : Sto W tag lv R mp) {m k g n cap h : Nat} {xs ys : List Value} {sv : Value} (l11 : lv 11 = true) (r11 : R 11 = ⟨.slice (some ⟨g, 0, none⟩) n cap, 225, 51, n, xs⟩) (hk : k < n) (hm11 : m ≠ 11) (lm : lv m = true) (rm : R m = ⟨sv, 306, 4, h, ys⟩) (hx : xs[k * 51 + 50]? = some sv) (hh : h < 2000) (p : Nat) :
  Calls Tryz.prog 210 #[.pointer (some ⟨g, k * 51, none⟩), ptr p] W (PshP W tag lv R mp m g n cap (k * 51 + 50) h xs ys [.int .u8 0, .int .i64 0, .string ⟨#[]⟩, ptr p]) := by
 have hm : Tryz.prog.follows Departure.mixedOrders = true := by kernel_rfl
 obtain ⟨i0, hi, hz0, hz1, hz2⟩ := info_parts infoC
 have o11 : W.ownsRow 0 225 51 (.slice (some ⟨g, 0, none⟩) n cap) n xs := by have := (hS.rows 11 l11).1; rw [r11] at this; exact this
 have om : W.ownsRow 0 306 4 sv h ys := by have := (hS.rows m lm).1; rw [rm] at this; exact this
 obtain ⟨so, sc, rfl⟩ := own_form om
 have hgl : g < W.heap.size := (o11.lt g rfl).2
 have q0 : W.cell? ⟨g, k * 51 + 50, none⟩ = some (.slice so h sc) := own_cell o11 hx
 obtain ⟨W3, hW3⟩ : ∃ W3, W.alloc (.cells #[.int .u8 0, .int .i64 0, .string ⟨#[]⟩, ptr p] 306) = W3 := ⟨_, rfl⟩
 have F3 : Fr [] W W3 := by rw [← hW3]; exact (Fr.refl [] W).alloc _
 have F03 : Fr [] W W3 := F3
 have hnews := cells_new W #[.int .u8 0, .int .i64 0, .string ⟨#[]⟩, ptr p] 306
 rw [hW3] at hnews
 have S3 := hS.frm F03 6
 have om3 : W3.ownsRow 0 306 4 (.slice so h sc) h ys := by have := (S3.rows m lm).1; rw [rm] at this; exact this
 obtain ⟨v', W4, hr4, hown', hgrow, -, hwh⟩ := run_append_own_at (P := Tryz.prog) (w := W3) 0 223 223 306 i0 _ 4 40 Tryz.underlying223 hi hz0 hz1 hz2 rfl (by decide) _ _ _ om3 ⟨W.heap.size, 0, none⟩ 1 1 [.int .u8 0, .int .i64 0, .string ⟨#[]⟩, ptr p] rfl hnews (by intro u hu; simp at hu; rcases hu with rfl | rfl | rfl | rfl <;> rfl) (by unfold maxLen; omega) (by omega) (Nat.zero_le _)
 obtain ⟨vo, vc, rfl⟩ := own_form hown'
 obtain ⟨S4, K4⟩ := S3.grow (i := m) lm hown' (by rw [rm]; exact hgrow) (by rw [rm]; exact hwh)
 have r11' : up R m ⟨.slice vo (h + 1) vc, 306, 4, h + 1, ys ++ [.int .u8 0, .int .i64 0, .string ⟨#[]⟩, ptr p]⟩ 11 = ⟨.slice (some ⟨g, 0, none⟩) n cap, 225, 51, n, xs⟩ := by rw [up_off _ _ (by omega)]; exact r11
 have hj : k * 51 + 50 < n * 51 := by omega
 obtain ⟨S5, K5⟩ := S4.put l11 r11' hj (.slice vo (h + 1) vc)
 have o4 : W4.ownsRow 0 225 51 (.slice (some ⟨g, 0, none⟩) n cap) n xs := by have := (S4.rows 11 l11).1; rw [r11'] at this; exact this
 have c4 := own_cell o4 hx
 have z4 := own_thaw o4 (k * 51 + 50)
 have K : Kp tag _ W _ := ((Kp.of_fr F03 (fun k hk => newTag_old hk)).trans K4).trans K5
 have HZ : Hid _ := And.intro S5 K
 have Hr4 : Hid _ := hr4
 clear S5 K K5 K4 S4 S3 hown' hgrow hwh hr4 hnews om3 om o4 o11 hS r11 r11' rm lm l11 F3 F03 hi hz0 hz1 hz2
 have hbd := buildK_cell p
 have hbs := buildS_cell 0 0 ⟨#[]⟩ (some ⟨p, 0, none⟩)
 go_enter Tryz.func210, Tryz.ntmps210
 go_wp2_with (at_builtin; refine wpList_appendB rfl (.tmp 8) (.tmp 11) 223 rfl _ _ _ rfl rfl Hr4.out ?_)
 refine bodyPost_ret (results_none rfl _ _ _) rfl ?_
 exact ⟨rfl, _, _, HZ.out.1, HZ.out.2⟩
end
end Go.Proofs.YtmolfmgchbjnbaaGreatDoor
namespace Go.Proofs.YtmolfmgchbjnbaaGreatDoor
open Go.RowKit
open Wire Flow Mach
structure InsA (W : World) (g : Nat) (L : List Stp) (T : List Nat) : Prop where
 len : T.length = L.length
 cell : ∀ i s t, L[i]? = some s → T[i]? = some t → W.cell? ⟨g, i * 5, none⟩ = some (.int .u8 (s.op : Nat)) ∧ W.cell? ⟨g, i * 5 + 1, none⟩ = some (.int .i64 (s.pl : Nat)) ∧ W.cell? ⟨g, i * 5 + 2, none⟩ = some (.int .i64 (min s.a 2000000000 : Nat)) ∧ W.cell? ⟨g, i * 5 + 3, none⟩ = some (.int .i64 (min s.b 2000000000 : Nat)) ∧ W.cell? ⟨g, i * 5 + 4, none⟩ = some (.int .i64 (t : Nat))
theorem InsA.of_block {W W' : World} {g : Nat} {L : List Stp} {T : List Nat} (h : InsA W g L T) (hb : W'.heap[g]? = W.heap[g]?) : InsA W' g L T :=
 ⟨h.len, fun i s t hs ht => by
  have e := fun o => World.cell?_of_block (w := W) (a := ⟨g, o, none⟩) hb
  obtain ⟨h0, h1, h2, h3, h4⟩ := h.cell i s t hs ht
  exact ⟨(e _).trans h0, (e _).trans h1, (e _).trans h2, (e _).trans h3, (e _).trans h4⟩⟩
def JoinedA (L : List Stp) (T : List Nat) (k : Nat) : Prop := ∀ i s, i < k → L[i]? = some s → far s.op = true → ∃ t, T[i]? = some t ∧ numb L s.a = some t
structure CodeM (m : Mo) (W : World) (tag : Nat → Nat) (f : Nat) (cv : Value) (L : List Stp) : Prop where
 at_ : ∃ g cap T, cv = .slice (some ⟨g, 0, none⟩) L.length cap ∧ L.length ≤ cap ∧ g < W.heap.size ∧ tag g = 9 ∧ InsA W g L T ∧ JoinedA L T L.length
 reads : Reads m f (locsOf m f) (codeOf m f) L
 jump : badJump L L = none
 len : L.length ≤ 20000
def StrsV (B : Nat) (W : World) (v : Value) (L : List ByteArray) : Prop := ∃ o c, v = .slice o L.length c ∧ ∀ (i : Nat) (t : ByteArray), L[i]? = some t → ∃ g off, o = some ⟨g, off, none⟩ ∧ B ≤ g ∧ W.cell? ⟨g, off + i, none⟩ = some (.string t)
def PatG (E : Env) (W : World) (pb : Nat) (t : ByteArray) : Prop := ∀ W', W'.heap[pb]? = W.heap[pb]? → Tab W' →
 (∀ x : ByteArray, x.size ≤ 100 → Calls Tryz.prog 217 #[.pointer (some ⟨pb, 0, none⟩), .string x, .int .i64 0] W' fun e V => e = .returned (.tuple #[.int .i64 (E.fnd t x).1, .int .i64 (E.fnd t x).2]) ∧ Fr [] W' V) ∧
 (∀ y x : ByteArray, y.size ≤ 100 → x.size ≤ 100 → Calls Tryz.prog 218 #[.pointer (some ⟨pb, 0, none⟩), .string y, .string x] W' fun e V => e = .returned (.string (E.swp t y x)) ∧ Fr [] W' V) ∧
 (∀ x : ByteArray, x.size ≤ 100 → Calls Tryz.prog 219 #[.pointer (some ⟨pb, 0, none⟩), .string x] W' fun e V => ∃ v, e = .returned v ∧ StrsV W'.heap.size V v (E.spl t x) ∧ Fr [] W' V)
theorem PatG.of_block {E : Env} {W W' : World} {pb : Nat} {t : ByteArray} (h : PatG E W pb t) (hb : W'.heap[pb]? = W.heap[pb]?) : PatG E W' pb t := fun V hV hT => h V (hV.trans hb) hT
def PatL (E : Env) (W : World) (tag : Nat → Nat) (pv : Value) : Prop := ∃ o cap, pv = .slice o E.mo.pats.length cap ∧ E.mo.pats.length ≤ 1000 ∧
 ∀ (i : Nat) (t : ByteArray), E.mo.pats[i]? = some t → ∃ g pb, o = some ⟨g, 0, none⟩ ∧ g < W.heap.size ∧ tag g = 9 ∧ W.cell? ⟨g, i, none⟩ = some (.pointer (some ⟨pb, 0, none⟩)) ∧ pb < W.heap.size ∧ tag pb = 9 ∧ PatG E W pb t
structure Sta (E : Env) (W : World) (tag : Nat → Nat) (tv pv fv : Value) (code : Nat → Value × List Stp) : Prop where
 pow : PowTab W
 low : ∀ k, k < 6 → tag k < 10
 mxl : ∃ m : Int, W.cell? ⟨4, 0, none⟩ = some (.int .i64 m)
 tab : Tab W
 txt : RoL W tag tv (E.mo.texts.map .string)
 fns : ∃ g cap, fv = .slice (some ⟨g, 0, none⟩) E.mo.fns.length cap ∧ g < W.heap.size ∧ tag g = 9 ∧ E.mo.fns.length ≤ 1000 ∧ ∀ f, f < E.mo.fns.length → W.cell? ⟨g, f * 2, none⟩ = some (.int .i64 (parOf E.mo f : Nat)) ∧ W.cell? ⟨g, f * 2 + 1, none⟩ = some (code f).1
 code : ∀ f, f < E.mo.fns.length → CodeM E.mo W tag f (code f).1 (code f).2
 pat : PatL E W tag pv
theorem CodeM.kp {m : Mo} {W W' : World} {tag tag' : Nat → Nat} {f : Nat} {cv : Value} {L : List Stp} (h : CodeM m W tag f cv L) (k : Kp tag tag' W W') : CodeM m W' tag' f cv L := by
 obtain ⟨g, cap, T, h1, h2, h3, h4, h5, h6⟩ := h.at_
 exact ⟨⟨g, cap, T, h1, h2, Nat.lt_of_lt_of_le h3 k.size, (k.ret g h3).trans h4, h5.of_block (k.blk g h3 (by omega)), h6⟩, h.reads, h.jump, h.len⟩
structure Ms where
 w : Wd
 low : List Frm
 fr : Frm
 st : Nat
 code : Int
 used : Nat
def fAt (s : Ms) (k : Nat) : Frm := if k < s.low.length then s.low.getD k fr0 else s.fr
theorem fAt_top (s : Ms) : fAt s s.low.length = s.fr := by simp [fAt]
structure Mx where
 tv : Value
 pv : Value
 fv : Value
 rv : Value
 dv : Value
 flv : Value
 gv : Value
 av : Value
 frv : Value
 entry : Nat
 F : Nat → FrX
 A : Nat → Nat × Value
 code : Nat → Value × List Stp
def xC (x : Mx) (s : Ms) : List Value := [x.tv, x.pv, x.fv, x.rv, x.dv, .int .i64 (s.w.nr : Nat), .string s.w.rcd, x.flv, x.gv, x.av, .int .i64 (x.entry : Nat), x.frv, .int .i64 (s.st : Nat), .int .i64 s.code, .string s.w.out, .int .i64 (s.used : Nat)]
def entL (a : List (ByteArray × Val)) : List (Value × Value) := a.map fun e => (.string e.1, vV e.2)
def PlcAt (m : Mo) (f : Nat) (L : List Stp) (ix a : Nat) : Prop := (∃ i, L[ix]? = some i ∧ i.pl = a) ∨ (ix = L.length ∧ a = (codeOf m f).length)
structure MR (E : Env) (X g : Nat) (s : Ms) (W : World) (tag : Nat → Nat) (lv : Nat → Bool) (R : Nat → Rw) (mp : Nat → Option (Nat × List (Value × Value))) (x : Mx) : Prop where
 S : Sto W tag lv R mp
 sta : Sta E W tag x.tv x.pv x.fv x.code
 lX : lv 10 = true
 rX : R 10 = ⟨.slice (some ⟨X, 0, none⟩) 1 1, 135, 16, 1, xC x s⟩
 lF : lv 11 = true
 rF : R 11 = ⟨x.frv, 225, 51, s.low.length + 1, rng (s.low.length + 1) fun k => frC (x.F k) (fAt s k)⟩
 vF : ∃ cap, x.frv = .slice (some ⟨g, 0, none⟩) (s.low.length + 1) cap
 nF : s.low.length ≤ 20
 lG : lv 12 = true
 rG : R 12 = ⟨x.gv, 221, 3, s.w.globs.length, rng s.w.globs.length fun i => vC (s.w.globs.getD i nothing)⟩
 lA : lv 13 = true
 rA : R 13 = ⟨x.av, 146, 2, s.w.arrs.length, rng s.w.arrs.length fun i => [.map (some (x.A i).1), (x.A i).2]⟩
 nA : s.w.arrs.length ≤ 1000
 arr : ∀ i, i < s.w.arrs.length → mp (20 + 2 * i) = some ((x.A i).1, entL (s.w.arrs.getD i [])) ∧ lv (21 + 2 * i) = true ∧ R (21 + 2 * i) = ⟨(x.A i).2, 9, 1, (s.w.arrs.getD i []).length, (keysA (s.w.arrs.getD i [])).map .string⟩
 stk : ∀ k, k ≤ s.low.length → lv (5000 + k) = true ∧ R (5000 + k) = ⟨(x.F k).sv, 306, 4, (fAt s k).stk.length, stkC (x.F k).pw (fAt s k).stk⟩
 wlk : ∀ k j c, k ≤ s.low.length → (fAt s k).stk[j]? = some c → c.list = true → j < 1024 ∧ c.arr < s.w.arrs.length ∧ lv (10000 + 1024 * k + j) = true ∧
  ∃ ga ca lf, x.av = .slice (some ⟨ga, 0, none⟩) s.w.arrs.length ca ∧ R (10000 + 1024 * k + j) = ⟨.slice (some ⟨(x.F k).pw j, 0, none⟩) 1 1, 315, 2, 1, [.pointer (some ⟨ga, c.arr * 2, none⟩), lf]⟩ ∧ RoL W tag lf (c.keys.map .string)
 fn : ∀ k, k ≤ s.low.length → (fAt s k).f < E.mo.fns.length ∧ (x.F k).cv = (x.code (fAt s k).f).1 ∧ PlcAt E.mo (fAt s k).f (x.code (fAt s k).f).2 (x.F k).ix (fAt s k).at_
 rcs : RoL W tag x.rv ((s.w.recs.drop s.w.nr).map .string)
 drw : RoL W tag x.dv ((s.w.draws.drop s.w.drawn).map (.int .i64))
 fld : RoL W tag x.flv (s.w.flds.map .string)
end Go.Proofs.YtmolfmgchbjnbaaGreatDoor
namespace Go.Proofs.YtmolfmgchbjnbaaGreatDoor
open Go.RowKit
open Wire Flow Mach
theorem pow_global : Tryz.prog.globalNamed powNm = some 0 := by kernel_rfl
theorem PowTab.of_block {W W' : World} (h : PowTab W) (hb : W'.heap[0]? = W.heap[0]?) : PowTab W' := by
 unfold PowTab Lib.TabIs World.var? at *
 rw [pow_global] at h ⊢
 simp only [Option.bind_some] at h ⊢
 rw [hb]
 exact h
theorem PatL.kp {E : Env} {W W' : World} {tag tag' : Nat → Nat} {pv : Value} (h : PatL E W tag pv) (k : Kp tag tag' W W') : PatL E W' tag' pv := by
 obtain ⟨o, cap, h1, h2, h3⟩ := h
 refine ⟨o, cap, h1, h2, fun i t hi => ?_⟩
 obtain ⟨g, pb, e1, e2, e3, e4, e5, e6, e7⟩ := h3 i t hi
 exact ⟨g, pb, e1, Nat.lt_of_lt_of_le e2 k.size, (k.ret g e2).trans e3, (k.cell (p := ⟨g, i, none⟩) e2 (by show tag g < 10; omega)).trans e4, Nat.lt_of_lt_of_le e5 k.size, (k.ret pb e5).trans e6, e7.of_block (k.blk pb e5 (by omega))⟩
theorem Sta.kp {E : Env} {W W' : World} {tag tag' : Nat → Nat} {tv pv fv : Value} {code : Nat → Value × List Stp} (h : Sta E W tag tv pv fv code) (k : Kp tag tag' W W') (hs : 6 ≤ W.heap.size) : Sta E W' tag' tv pv fv code := by
 obtain ⟨g, cap, h1, h2, h3, h4, h5⟩ := h.fns
 refine ⟨h.pow.of_block (k.blk 0 (by omega) (h.low 0 (by omega))), fun i hi => by rw [k.ret i (by omega)]; exact h.low i hi, ?_, h.tab.of_block (k.blk 1 (by omega) (h.low 1 (by omega))), h.txt.kp k, ⟨g, cap, h1, Nat.lt_of_lt_of_le h2 k.size, (k.ret g h2).trans h3, h4, fun f hf => ?_⟩, fun f hf => (h.code f hf).kp k, h.pat.kp k⟩
 ·obtain ⟨m, hm⟩ := h.mxl
  exact ⟨m, (k.cell (p := ⟨4, 0, none⟩) (by show 4 < _; omega) (h.low 4 (by omega))).trans hm⟩
 obtain ⟨a, b⟩ := h5 f hf
 exact ⟨(k.cell (p := ⟨g, f * 2, none⟩) h2 (by show tag g < 10; omega)).trans a, (k.cell (p := ⟨g, f * 2 + 1, none⟩) h2 (by show tag g < 10; omega)).trans b⟩
section
variable {E : Env} {X g : Nat} {s : Ms} {W W' : World} {tag tag' : Nat → Nat} {lv : Nat → Bool} {R : Nat → Rw} {mp : Nat → Option (Nat × List (Value × Value))} {x : Mx}
theorem MR.stay (h : MR E X g s W tag lv R mp x) (hs : 6 ≤ W.heap.size) (hS : Sto W' tag' lv R mp) (k : Kp tag tag' W W') : MR E X g s W' tag' lv R mp x :=
 { h with
  S := hS
  sta := h.sta.kp k hs
  wlk := fun a b c ha hb hc => by
   obtain ⟨h1, h2, h3, ga, ca, lf, h4, h5, h6⟩ := h.wlk a b c ha hb hc
   exact ⟨h1, h2, h3, ga, ca, lf, h4, h5, h6.kp k⟩
  rcs := h.rcs.kp k
  drw := h.drw.kp k
  fld := h.fld.kp k }
theorem MR.fr (h : MR E X g s W tag lv R mp x) (hs : 6 ≤ W.heap.size) (hf : Fr [] W W') : MR E X g s W' (newTag tag W.heap.size 6) lv R mp x ∧ Kp tag (newTag tag W.heap.size 6) W W' :=
 have k : Kp tag (newTag tag W.heap.size 6) W W' := Kp.of_fr hf fun _ hk => newTag_old hk
 ⟨h.stay hs (h.S.frm hf 6) k, k⟩
def onStk (s : Ms) (l : List Cell) : Ms := { s with fr := { s.fr with stk := l } }
theorem fAt_on (s : Ms) (l : List Cell) {k : Nat} (hk : k < s.low.length) : fAt (onStk s l) k = fAt s k := by simp [fAt, onStk, hk]
def onF (x : Mx) (k : Nat) (y : FrX) : Mx := { x with F := up x.F k y }
theorem MR.restack (h : MR E X g s W tag lv R mp x) (hs : 6 ≤ W.heap.size) {l : List Cell} {sv : Value} {R' : Nat → Rw} {lv' : Nat → Bool} (k : Kp tag tag' W W') (hS : Sto W' tag' lv' R' mp) (hl : ∀ i, lv i = true → lv' i = true)
  (h11 : R' 11 = ⟨x.frv, 225, 51, s.low.length + 1, (rng (s.low.length + 1) fun k => frC (x.F k) (fAt s k)).set (s.low.length * 51 + 50) sv⟩)
  {pw : Nat → Nat} (hm : R' (5000 + s.low.length) = ⟨sv, 306, 4, l.length, stkC pw l⟩)
  (hR : ∀ i, i ≠ 11 → i ≠ 5000 + s.low.length → (i < 10000 + 1024 * s.low.length ∨ 10000 + 1024 * s.low.length + 1024 ≤ i) → R' i = R i)
  (hw : ∀ j c, l[j]? = some c → c.list = true → j < 1024 ∧ c.arr < s.w.arrs.length ∧ lv' (10000 + 1024 * s.low.length + j) = true ∧ ∃ ga ca lf, x.av = .slice (some ⟨ga, 0, none⟩) s.w.arrs.length ca ∧ R' (10000 + 1024 * s.low.length + j) = ⟨.slice (some ⟨pw j, 0, none⟩) 1 1, 315, 2, 1, [.pointer (some ⟨ga, c.arr * 2, none⟩), lf]⟩ ∧ RoL W' tag' lf (c.keys.map .string)) :
  MR E X g (onStk s l) W' tag' lv' R' mp (onF x s.low.length ⟨(x.F s.low.length).cv, (x.F s.low.length).ix, sv, pw⟩) := by
 have hn := h.nF
 refine ⟨hS, h.sta.kp k hs, hl _ h.lX, ?_, hl _ h.lF, ?_, h.vF, h.nF, hl _ h.lG, ?_, hl _ h.lA, ?_, h.nA, fun i hi => ?_, fun i hi => ?_, fun i j c hi hj hc => ?_, fun i hi => ?_, h.rcs.kp k, h.drw.kp k, h.fld.kp k⟩
 ·rw [hR 10 (by omega) (by omega) (.inl (by omega))]
  exact h.rX
 ·rw [h11]
  congr 1
  rw [rng_set (fun _ _ => frC_len _ _) (by omega) (by omega)]
  refine rng_congr fun j hj => ?_
  by_cases e : j = s.low.length
  ·subst e
   rw [up_same]
   show _ = frC (up x.F s.low.length _ s.low.length) (fAt (onStk s l) s.low.length)
   rw [up_same]
   unfold frC
   rw [List.set_append_right _ _ (by simp [locC_len])]
   simp only [List.length_append, List.length_cons, List.length_nil, locC_len]
   show _ ++ [sv] = _
   congr 2
   rw [fAt_top, show fAt (onStk s l) s.low.length = (onStk s l).fr from fAt_top (onStk s l)]
   rfl
  ·rw [up_off _ _ e]
   show _ = frC (up x.F s.low.length _ j) (fAt (onStk s l) j)
   rw [up_off _ _ e, fAt_on s l (by omega)]
 ·rw [hR 12 (by omega) (by omega) (.inl (by omega))]
  exact h.rG
 ·rw [hR 13 (by omega) (by omega) (.inl (by omega))]
  exact h.rA
 ·obtain ⟨a, b, c⟩ := h.arr i hi
  have := h.nA
  have hi' : i < s.w.arrs.length := hi
  exact ⟨a, hl _ b, by rw [hR _ (by omega) (by omega) (.inl (by omega))]; exact c⟩
 ·have hi' : i ≤ s.low.length := hi
  by_cases e : i = s.low.length
  ·subst e
   refine ⟨hl _ (h.stk _ (Nat.le_refl _)).1, ?_⟩
   rw [hm]
   show _ = Rw.mk (up x.F s.low.length _ s.low.length).sv 306 4 (fAt (onStk s l) s.low.length).stk.length (stkC (up x.F s.low.length _ s.low.length).pw (fAt (onStk s l) s.low.length).stk)
   rw [up_same, show fAt (onStk s l) s.low.length = (onStk s l).fr from fAt_top (onStk s l)]
   rfl
  ·obtain ⟨a, b⟩ := h.stk i hi
   refine ⟨hl _ a, ?_⟩
   rw [hR _ (by omega) (by omega) (.inl (by omega)), b]
   show _ = Rw.mk (up x.F s.low.length _ i).sv 306 4 (fAt (onStk s l) i).stk.length (stkC (up x.F s.low.length _ i).pw (fAt (onStk s l) i).stk)
   rw [up_off _ _ e, fAt_on s l (by omega)]
 ·have hi' : i ≤ s.low.length := hi
  by_cases e : i = s.low.length
  ·subst e
   rw [show fAt (onStk s l) s.low.length = (onStk s l).fr from fAt_top (onStk s l)] at hj
   obtain ⟨h1, h2, h3, ga, ca, lf, h4, h5, h6⟩ := hw j c hj hc
   refine ⟨h1, h2, h3, ga, ca, lf, h4, ?_, h6⟩
   rw [h5]
   show _ = Rw.mk (.slice (some ⟨(up x.F s.low.length _ s.low.length).pw j, 0, none⟩) 1 1) 315 2 1 _
   rw [up_same]
  ·rw [fAt_on s l (by omega)] at hj
   obtain ⟨h1, h2, h3, ga, ca, lf, h4, h5, h6⟩ := h.wlk i j c hi hj hc
   refine ⟨h1, h2, hl _ h3, ga, ca, lf, h4, ?_, h6.kp k⟩
   rw [hR _ (by omega) (by omega) (.inl (by omega)), h5]
   show _ = Rw.mk (.slice (some ⟨(up x.F s.low.length _ i).pw j, 0, none⟩) 1 1) 315 2 1 _
   rw [up_off _ _ e]
 ·have hi' : i ≤ s.low.length := hi
  obtain ⟨a, b, c⟩ := h.fn i hi
  by_cases e : i = s.low.length
  ·subst e
   rw [show fAt (onStk s l) s.low.length = (onStk s l).fr from fAt_top (onStk s l)]
   rw [fAt_top] at a b c
   show s.fr.f < _ ∧ (up x.F s.low.length _ s.low.length).cv = _ ∧ PlcAt E.mo s.fr.f (x.code s.fr.f).2 (up x.F s.low.length _ s.low.length).ix s.fr.at_
   rw [up_same]
   exact ⟨a, b, c⟩
  ·rw [fAt_on s l (by omega)]
   show _ ∧ (up x.F s.low.length _ i).cv = _ ∧ PlcAt E.mo (fAt s i).f (x.code (fAt s i).f).2 (up x.F s.low.length _ i).ix (fAt s i).at_
   rw [up_off _ _ e]
   exact ⟨a, b, c⟩
end
end Go.Proofs.YtmolfmgchbjnbaaGreatDoor
namespace Go.Proofs.YtmolfmgchbjnbaaGreatDoor
open Go.RowKit
open Wire Flow Mach
theorem Kp.new {tag : Nat → Nat} {a b : World} (h : Fr [] a b) (t : Nat) : Kp tag (newTag tag a.heap.size t) a b := Kp.of_fr h fun _ hk => newTag_old hk
structure Pl where
 g : Nat
 gv : Value
 av : Value
 en : Nat
 pv : Value
 code : Nat → Value × List Stp
def MM (E : Env) (X : Nat) (g : Pl) (s : Ms) (W : World) (tag : Nat → Nat) : Prop := 6 ≤ W.heap.size ∧ ∃ lv R mp x, ((x.gv = g.gv ∧ x.entry = g.en ∧ x.pv = g.pv ∧ x.code = g.code) ∧ x.av = g.av) ∧ MR E X g.g s W tag lv R mp x
def MP (E : Env) (X : Nat) (g : Pl) (s : Ms) (tag : Nat → Nat) (W : World) (v : Value) (e : Ending) (W' : World) : Prop := e = .returned v ∧ ∃ tag', MM E X g s W' tag' ∧ Kp tag tag' W W'
abbrev unit : Value := .tuple #[]
abbrev fp (g : Pl) (s : Ms) : Value := .pointer (some ⟨g.g, s.low.length * 51, none⟩)
section
variable {E : Env} {X : Nat} {g : Pl} {s : Ms} {W W' : World} {tag : Nat → Nat}
theorem MM.fr (h : MM E X g s W tag) (hf : Fr [] W W') : ∃ tag', MM E X g s W' tag' ∧ Kp tag tag' W W' := by
 obtain ⟨h6, lv, R, mp, x, hx, h⟩ := h
 obtain ⟨h', k⟩ := h.fr h6 hf
 exact ⟨_, ⟨Nat.le_trans h6 hf.size, lv, R, mp, x, hx, h'⟩, k⟩
theorem MM.pow (h : MM E X g s W tag) : PowTab W := by
 obtain ⟨h6, lv, R, mp, x, hx, h⟩ := h
 exact h.sta.pow
theorem MM.mxl (h : MM E X g s W tag) : ∃ m : Int, W.cell? ⟨4, 0, none⟩ = some (.int .i64 m) := by
 obtain ⟨h6, lv, R, mp, x, hx, h⟩ := h
 exact h.sta.mxl
theorem MM.tab (h : MM E X g s W tag) : Tab W := by
 obtain ⟨h6, lv, R, mp, x, hx, h⟩ := h
 exact h.sta.tab
theorem MR.top {lv : Nat → Bool} {R : Nat → Rw} {mp : Nat → Option (Nat × List (Value × Value))} {x : Mx} (h : MR E X g.g s W tag lv R mp x) :
  (∃ cap, R 11 = ⟨.slice (some ⟨g.g, 0, none⟩) (s.low.length + 1) cap, 225, 51, s.low.length + 1, rng (s.low.length + 1) fun k => frC (x.F k) (fAt s k)⟩ ∧ x.frv = .slice (some ⟨g.g, 0, none⟩) (s.low.length + 1) cap) ∧
  lv (5000 + s.low.length) = true ∧ R (5000 + s.low.length) = ⟨(x.F s.low.length).sv, 306, 4, s.fr.stk.length, stkC (x.F s.low.length).pw s.fr.stk⟩ ∧
  (rng (s.low.length + 1) fun k => frC (x.F k) (fAt s k))[s.low.length * 51 + 50]? = some (x.F s.low.length).sv := by
 obtain ⟨cap, hc⟩ := h.vF
 obtain ⟨a, b⟩ := h.stk _ (Nat.le_refl _)
 rw [fAt_top] at b
 refine ⟨⟨cap, by rw [h.rF, hc], hc⟩, a, b, ?_⟩
 rw [rng_get (fun _ _ => frC_len _ _) (by omega) (by omega), frC_stk]
theorem MM.push (h : MM E X g s W tag) (hl : s.fr.stk.length < 1024) (v : Val) : Calls Tryz.prog 195 #[fp g s, vV v] W (MP E X g (onStk s (s.fr.stk ++ [cv v])) tag W unit) := by
 obtain ⟨h6, lv, R, mp, x, hx, h⟩ := h
 obtain ⟨⟨cap, r11, hv⟩, lm, rm, hxx⟩ := h.top
 have hn := h.nF
 refine (pushA_any h.S h.lF r11 (Nat.lt_succ_self _) (by omega) lm rm hxx (by omega) _ _ _).mono fun e W' ⟨he, tag', sv', hS, k⟩ => ⟨he, tag', ⟨Nat.le_trans h6 k.size, lv, _, mp, onF x s.low.length _, hx, h.restack h6 (l := s.fr.stk ++ [cv v]) (pw := (x.F s.low.length).pw) (sv := sv') k hS (fun _ h => h) ?_ ?_ ?_ ?_⟩, k⟩
 ·rw [up_same, hv]
 ·rw [up_off _ _ (by omega), up_same, stkC_push, List.length_append]
  rfl
 ·intro i h1 h2 h3
  rw [up_off _ _ h1, up_off _ _ h2]
 ·intro j c hj hc
  rcases Nat.lt_or_ge j s.fr.stk.length with c1 | c1
  ·rw [List.getElem?_append_left c1] at hj
   obtain ⟨w1, w2, w3, ga, ca, lf, w4, w5, w6⟩ := h.wlk s.low.length j c (Nat.le_refl _) (by rw [fAt_top]; exact hj) hc
   exact ⟨w1, w2, w3, ga, ca, lf, w4, by rw [up_off _ _ (by omega), up_off _ _ (by omega)]; exact w5, w6.kp k⟩
  ·rw [List.getElem?_append_right c1] at hj
   have : c = cv v := by
    rcases e : j - s.fr.stk.length with _ | q
    ·rw [e] at hj; simpa using hj.symm
    ·rw [e] at hj; simp at hj
   subst this
   simp [cv] at hc
def celV (c : Cell) : Value := if c.list = true then vlV 0 0 ⟨#[]⟩ else vV c.v
theorem MM.pop (h : MM E X g s W tag) {l : List Cell} {c : Cell} (hs : s.fr.stk = l ++ [c]) (hl : s.fr.stk.length ≤ 1024) : Calls Tryz.prog 196 #[fp g s] W (MP E X g (onStk s l) tag W (celV c)) := by
 obtain ⟨h6, lv, R, mp, x, hx, h⟩ := h
 obtain ⟨⟨cap, r11, hv⟩, lm, rm, hxx⟩ := h.top
 have hn := h.nF
 have hlen : s.fr.stk.length = l.length + 1 := by rw [hs]; simp
 have o11 : W.ownsRow 0 225 51 (.slice (some ⟨g.g, 0, none⟩) (s.low.length + 1) cap) (s.low.length + 1) (rng (s.low.length + 1) fun k => frC (x.F k) (fAt s k)) := by have := (h.S.rows 11 h.lF).1; rw [r11] at this; exact this
 have om : W.ownsRow 0 306 4 (x.F s.low.length).sv (l.length + 1) (stkC (x.F s.low.length).pw (l ++ [c])) := by have := (h.S.rows _ lm).1; rw [rm, hlen, hs] at this; exact this
 obtain ⟨gs, cs, hsv, hcs, hgs⟩ := own_some om (by omega)
 rw [hsv] at om hxx
 obtain ⟨a, b, t, p, h0, h1, h2, h3, hV⟩ : ∃ (a b : Int) (t : ByteArray) (p : Option Addr), W.cell? ⟨gs, l.length * 4, none⟩ = some (.int .u8 a) ∧ W.cell? ⟨gs, l.length * 4 + 1, none⟩ = some (.int .i64 b) ∧ W.cell? ⟨gs, l.length * 4 + 2, none⟩ = some (.string t) ∧ W.cell? ⟨gs, l.length * 4 + 3, none⟩ = some (.pointer p) ∧ celV c = vlV a b t := by
  have e := fun t (ht : t < 4) => stkC_last (x.F s.low.length).pw l c t ht
  by_cases hc : c.list = true
  ·refine ⟨0, 0, ⟨#[]⟩, some ⟨(x.F s.low.length).pw l.length, 0, none⟩, own_cell om ((e 0 (by decide)).trans ?_), own_cell om ((e 1 (by decide)).trans ?_), own_cell om ((e 2 (by decide)).trans ?_), own_cell om ((e 3 (by decide)).trans ?_), by simp [celV, hc]⟩ <;> simp [celC, hc]
  ·refine ⟨c.v.kind, vN c.v, vS c.v, none, own_cell om ((e 0 (by decide)).trans ?_), own_cell om ((e 1 (by decide)).trans ?_), own_cell om ((e 2 (by decide)).trans ?_), own_cell om ((e 3 (by decide)).trans ?_), by simp [celV, hc, vV]⟩ <;> simp [celC, hc]
 rw [hV]
 refine (popA_any g.g (s.low.length * 51) gs l.length cs a b t p W (own_cell o11 hxx) (own_thaw o11 _) (by omega) hcs h0 h1 h2 h3).mono fun e W' ⟨he, hset⟩ => ⟨he, ?_⟩
 obtain ⟨S1, K1⟩ := h.S.put h.lF r11 (j := s.low.length * 51 + 50) (by omega) (.slice (some ⟨gs, 0, none⟩) l.length cs)
 have rm' : up R 11 ⟨.slice (some ⟨g.g, 0, none⟩) (s.low.length + 1) cap, 225, 51, s.low.length + 1, (rng (s.low.length + 1) fun k => frC (x.F k) (fAt s k)).set (s.low.length * 51 + 50) (.slice (some ⟨gs, 0, none⟩) l.length cs)⟩ (5000 + s.low.length) = ⟨.slice (some ⟨gs, 0, none⟩) (l.length + 1) cs, 306, 4, l.length + 1, stkC (x.F s.low.length).pw (l ++ [c])⟩ := by
  rw [up_off _ _ (by omega), rm, hsv, hlen, hs]
 have S2 := S1.cut lm rm' (n' := l.length) (by omega)
 have S3 := S2.frm hset 6
 have K := K1.trans (Kp.new hset 6)
 refine ⟨_, ⟨Nat.le_trans h6 K.size, lv, _, mp, onF x s.low.length _, hx, h.restack h6 (l := l) (pw := (x.F s.low.length).pw) (sv := .slice (some ⟨gs, 0, none⟩) l.length cs) K S3 (fun _ h => h) ?_ ?_ ?_ ?_⟩, K⟩
 ·rw [up_off _ _ (by omega), up_same, hv]
 ·rw [up_same, stkC_pop]
 ·intro i h1 h2 h3
  rw [up_off _ _ h2, up_off _ _ h1]
 ·intro j q hj hc
  have c1 := (List.getElem?_eq_some_iff.1 hj).1
  obtain ⟨w1, w2, w3, ga, ca, lf, w4, w5, w6⟩ := h.wlk s.low.length j q (Nat.le_refl _) (by rw [fAt_top, hs, List.getElem?_append_left c1]; exact hj) hc
  exact ⟨w1, w2, w3, ga, ca, lf, w4, by rw [up_off _ _ (by omega), up_off _ _ (by omega)]; exact w5, w6.kp K⟩
end
end Go.Proofs.YtmolfmgchbjnbaaGreatDoor
namespace Go.Proofs.YtmolfmgchbjnbaaGreatDoor
open Go.RowKit
open Wire Flow Mach
structure EnvOk (E : Env) : Prop where
 itoa : E.itoa = itoaB
 wr : ∀ n : Int, -9223372036854775808 ≤ n → n ≤ 9223372036854775807 → E.wr n = n
section
variable {E : Env} {X : Nat} {g : Pl} {s : Ms} {W W' : World} {tag : Nat → Nat}
set_option maxRecDepth 100000 in
theorem MM.pushNumber (h : MM E X g s W tag) (hl : s.fr.stk.length < 1024) (n : Int) : Calls Tryz.prog 192 #[fp g s, .int .i64 n] W (MP E X g (onStk s (s.fr.stk ++ [cv (whole n)])) tag W unit) := by
 have HN : Hid _ := fun (_ : Unit) => numberV_any n W
 have HP : Hid _ := fun (W1 : World) (t1 : Nat → Nat) (h1 : MM E X g s W1 t1) => h1.push hl (whole n)
 have HM : Hid (MM E X g s W tag) := h
 clear h
 go_enter Tryz.func192, Tryz.ntmps192
 go_wp2_with fail
 refine (HN.out ()).mono ?_
 rintro e W1 ⟨rfl, F1⟩
 obtain ⟨t1, h1, k1⟩ := MM.fr (HM.out : MM E X g s W tag) F1
 have HK : Hid _ := k1
 clear k1 F1 HM HN
 go_wp2_with fail
 refine (HP.out W1 t1 h1).mono ?_
 rintro e W2 hp
 obtain ⟨rfl, t2, h2, k2⟩ := hp
 go_wp2_with fail
 refine bodyPost_ret (results_none rfl _ _ _) rfl ?_
 exact ⟨rfl, t2, h2, HK.out.trans k2⟩
set_option maxRecDepth 100000 in
theorem MM.pushText (h : MM E X g s W tag) (hl : s.fr.stk.length < 1024) (t : ByteArray) : Calls Tryz.prog 194 #[fp g s, .string t] W (MP E X g (onStk s (s.fr.stk ++ [cv (words t)])) tag W unit) := by
 have HN : Hid _ := fun (_ : Unit) => textV_any t W
 have HP : Hid _ := fun (W1 : World) (t1 : Nat → Nat) (h1 : MM E X g s W1 t1) => h1.push hl (words t)
 have HM : Hid (MM E X g s W tag) := h
 clear h
 go_enter Tryz.func194, Tryz.ntmps194
 go_wp2_with fail
 refine (HN.out ()).mono ?_
 rintro e W1 ⟨rfl, F1⟩
 obtain ⟨t1, h1, k1⟩ := MM.fr (HM.out : MM E X g s W tag) F1
 have HK : Hid _ := k1
 clear k1 F1 HM HN
 go_wp2_with fail
 refine (HP.out W1 t1 h1).mono ?_
 rintro e W2 hp
 obtain ⟨rfl, t2, h2, k2⟩ := hp
 go_wp2_with fail
 refine bodyPost_ret (results_none rfl _ _ _) rfl ?_
 exact ⟨rfl, t2, h2, HK.out.trans k2⟩
set_option maxRecDepth 100000 in
theorem MM.pushTruth (h : MM E X g s W tag) (hl : s.fr.stk.length < 1024) (b : Bool) : Calls Tryz.prog 206 #[fp g s, .bool b] W (MP E X g (onStk s (s.fr.stk ++ [cv (whole (truth b))])) tag W unit) := by
 have HN : Hid _ := fun (_ : Unit) => truth_any b W
 have HP : Hid _ := fun (W1 : World) (t1 : Nat → Nat) (h1 : MM E X g s W1 t1) => h1.push hl (whole (truth b))
 have HM : Hid (MM E X g s W tag) := h
 clear h
 go_enter Tryz.func206, Tryz.ntmps206
 go_wp2_with fail
 refine (HN.out ()).mono ?_
 rintro e W1 ⟨rfl, F1⟩
 obtain ⟨t1, h1, k1⟩ := MM.fr (HM.out : MM E X g s W tag) F1
 have HK : Hid _ := k1
 clear k1 F1 HM HN
 go_wp2_with fail
 refine (HP.out W1 t1 h1).mono ?_
 rintro e W2 hp
 obtain ⟨rfl, t2, h2, k2⟩ := hp
 go_wp2_with fail
 refine bodyPost_ret (results_none rfl _ _ _) rfl ?_
 exact ⟨rfl, t2, h2, HK.out.trans k2⟩
set_option maxRecDepth 100000 in
theorem MM.popNumber (h : MM E X g s W tag) {l : List Cell} {v : Val} (hs : s.fr.stk = l ++ [cv v]) (hl : s.fr.stk.length ≤ 1024) (hv : SmV v) : Calls Tryz.prog 197 #[fp g s] W (MP E X g (onStk s l) tag W (.int .i64 (numV v))) := by
 have HP : Hid _ := fun (_ : Unit) => h.pop hs hl
 have HN : Hid _ := fun (W1 : World) => num_v hv W1
 clear h
 go_enter Tryz.func197, Tryz.ntmps197
 go_wp2_with fail
 refine (HP.out ()).mono ?_
 rintro e W1 hp
 obtain ⟨rfl, t1, h1, k1⟩ := hp
 have HM : Hid _ := And.intro h1 k1
 clear h1 k1 HP
 go_wp2_with fail
 refine (HN.out W1).mono ?_
 rintro e W2 ⟨rfl, F2⟩
 obtain ⟨t2, h2, k2⟩ := MM.fr HM.out.1 F2
 have HK : Hid _ := And.intro h2 (HM.out.2.trans k2)
 clear h2 k2 F2 HN
 go_wp2_with fail
 go_ret
 exact ⟨rfl, t2, HK.out.1, HK.out.2⟩
set_option maxRecDepth 100000 in
theorem MM.popText (hE : EnvOk E) (h : MM E X g s W tag) {l : List Cell} {v : Val} (hs : s.fr.stk = l ++ [cv v]) (hl : s.fr.stk.length ≤ 1024) (hv : SmV v) : Calls Tryz.prog 199 #[fp g s] W (MP E X g (onStk s l) tag W (.string (textV E v))) := by
 have HP : Hid _ := fun (_ : Unit) => h.pop hs hl
 have HN : Hid _ := fun (W1 : World) (hp : PowTab W1) => text_v hE.itoa hv W1 hp
 clear h
 go_enter Tryz.func199, Tryz.ntmps199
 go_wp2_with fail
 refine (HP.out ()).mono ?_
 rintro e W1 hp
 obtain ⟨rfl, t1, h1, k1⟩ := hp
 have HM : Hid _ := And.intro h1 k1
 clear h1 k1 HP
 go_wp2_with fail
 refine (HN.out W1 HM.out.1.pow).mono ?_
 rintro e W2 ⟨rfl, F2⟩
 obtain ⟨t2, h2, k2⟩ := MM.fr HM.out.1 F2
 have HK : Hid _ := And.intro h2 (HM.out.2.trans k2)
 clear h2 k2 F2 HN
 go_wp2_with fail
 go_ret
 exact ⟨rfl, t2, HK.out.1, HK.out.2⟩
end
end Go.Proofs.YtmolfmgchbjnbaaGreatDoor
