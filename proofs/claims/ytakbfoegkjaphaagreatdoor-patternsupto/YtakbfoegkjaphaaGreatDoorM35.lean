/-
  settle: all that waits is as it was; it is marked then. owner: a step on what the caller has: the plain ones.
-/
import Derived.Test.YtakbfoegkjaphaaGreatDoorM34
import Derived.Test.YtakbfoegkjaphaaGreatDoorM32
set_option linter.unusedSimpArgs false
set_option linter.unusedVariables false
namespace Go.Proofs.YtakbfoegkjaphaaGreatDoor
open Go.RowKit

theorem WaitOk.step {B : Nat} {W W' : World} {tag tag' : Nat → Nat} {t : Nat} {v u : Value} {L : List ByteArray} {S : List Nat} (h : WaitOk B W tag t v u L) (hc : Chg tag S W W') (ht : t ∉ S) (h8 : 8 ∉ S) (hr : ∀ k, k < W.heap.size → tag k = t ∨ tag k = 8 → tag' k = tag k) : WaitOk B W' tag' t v u L := by
  have h' := h.chg hc ht h8
  exact ⟨⟨h'.own.own, fun g hg => by rw [hr g (h.own.own.lt g hg).2 (.inl (h.own.tg g hg))]; exact h.own.tg g hg⟩, h'.were, h.were.retag h.tu (fun k hk e => by rw [hr k hk (.inr e)]; exact e), h.len⟩

theorem Waits.step {B : Nat} {W W' : World} {tag tag' : Nat → Nat} {wl el : List Value} {d : Nat} (h : Waits B W tag wl el d) (hc : Chg tag [0, 3, 6, 9 + d] W W') (hr : ∀ k, k < W.heap.size → tag k ≠ 9 + d → tag' k = tag k) : Waits B W' tag' wl el (d + 1) :=
  ⟨h.len, fun i v u hi h1 h2 => by
    obtain ⟨L, hL⟩ := h.at_ i v u (by omega) h1 h2
    exact ⟨L, hL.step hc (by simp; omega) (by simp; omega) (fun k hk e => hr k hk (by omega))⟩⟩

theorem ScrI.clear {w0 W : World} {b : Nat} {tag : Nat → Nat} {c : Nat → Value} {T : Nat} {bk : List Book} {wl el : List Value} (I : ScrI w0 W b tag c T bk wl el) :
    ScrI w0 ((((W.setCell ⟨b, 11, none⟩ (.slice none 0 0)).setCell ⟨b, 12, none⟩ (.slice none 0 0)).setCell ⟨b, 13, none⟩ (.slice none 0 0)).setCell ⟨b, 14, none⟩ (.slice none 0 0)) b tag
      (upd (upd (upd (upd c 11 (.slice none 0 0)) 12 (.slice none 0 0)) 13 (.slice none 0 0)) 14 (.slice none 0 0)) T bk [] [] := by
  have core := (((I.core.set 11 (by decide) (.slice none 0 0)).set 12 (by decide) (.slice none 0 0)).set 13 (by decide) (.slice none 0 0)).set 14 (by decide) (.slice none 0 0)
  have hc : Chg tag [0] W ((((W.setCell ⟨b, 11, none⟩ (.slice none 0 0)).setCell ⟨b, 12, none⟩ (.slice none 0 0)).setCell ⟨b, 13, none⟩ (.slice none 0 0)).setCell ⟨b, 14, none⟩ (.slice none 0 0)) :=
    (((Chg.setCell W (by rw [I.core.tb]; simp) _).trans (Chg.setCell _ (by rw [I.core.tb]; simp) _) (fun _ _ h => h)).trans (Chg.setCell _ (by rw [I.core.tb]; simp) _) (fun _ _ h => h)).trans (Chg.setCell _ (by rw [I.core.tb]; simp) _) (fun _ _ h => h)
  obtain ⟨n3, x3, h3, t3⟩ := I.r3
  obtain ⟨n4, x4, h4, t4⟩ := I.r4
  exact ⟨core, I.n0, I.n1, I.n2, ⟨n3, x3, h3.chg hc (by simp), t3⟩, ⟨n4, x4, h4.chg hc (by simp), t4⟩, I.n6, I.r7.chg hc (by simp), I.n8, RowT.nil _ _ _ _ _ _, RowT.nil _ _ _ _ _ _, rfl, rfl, fun x hx => (I.books x hx).chg hc (by simp)⟩

set_option maxRecDepth 100000 in
set_option maxHeartbeats 4000000 in
theorem settle_any (w0 W : World) (b : Nat) (tag : Nat → Nat) (c : Nat → Value) (T : Nat) (bk : List Book) (wl el : List Value) (I : ScrI w0 W b tag c T bk wl el) (Wt : Waits w0.heap.size W tag wl el 0) (hp : PowTab w0) (hbk : bk.length + wl.length ≤ 1000000000) :
    Calls Tryz.prog 7 #[.pointer (some ⟨b, 0, none⟩)] W fun e W' => e = .returned (.bool true) ∧ ∃ tag' c' bk', ScrI w0 W' b tag' c' T bk' [] [] ∧ bk'.length = bk.length + wl.length := by
  have hm : Tryz.prog.follows .mixedOrders = true := by kernel_rfl
  have d11 := I.core.cell 11 (by decide)
  have d12 := I.core.cell 12 (by decide)
  have d13 := I.core.cell 13 (by decide)
  rw [I.n13] at d13
  obtain ⟨o11, cap11, e11⟩ := own_form I.r11.own
  obtain ⟨o12, cap12, e12⟩ := own_form I.r12.own
  have r11 := I.r11
  have r12 := I.r12
  rw [e11] at d11 r11
  rw [e12] at d12 r12
  have hlen := Wt.len
  rw [← hlen] at d12
  have hlt := I.core.lt
  have HI : Hid _ := I
  have HW : Hid _ := Wt
  have H11 : Hid _ := r11
  have H12 : Hid _ := r12
  clear I Wt r11 r12 e11 e12
  go_enter Tryz.func7, Tryz.ntmps7
  go_wp2
  go_loopw [3, 4] (fun ok i wr => ∃ k : Nat, k ≤ wl.length ∧ ok = .bool true ∧ i = .int .i64 k ∧ Fr [] W wr) (fun _ i _ => wl.length - (intOf i).toNat)
  case atStart => exact ⟨0, by omega, rfl, rfl, Fr.refl _ _⟩
  case round =>
    obtain ⟨k, hk, rfl, rfl, fr⟩ := hrel
    have a11 := (fr.cell (p := ⟨b, 11, none⟩) hlt (by simp)).trans d11
    have a12 := (fr.cell (p := ⟨b, 12, none⟩) hlt (by simp)).trans d12
    have a13 := (fr.cell (p := ⟨b, 13, none⟩) hlt (by simp)).trans d13
    by_cases hkl : k < wl.length
    · have g1 : (k : Int) < wl.length := by omega
      obtain ⟨v, hv⟩ : ∃ x, wl[k]? = some x := ⟨_, List.getElem?_eq_getElem hkl⟩
      obtain ⟨u, hu⟩ : ∃ x, el[k]? = some x := ⟨_, List.getElem?_eq_getElem (by omega)⟩
      obtain ⟨L, wo⟩ := HW.out.at_ k v u (by omega) hv hu
      have r11 := H11.out
      have r12 := H12.out
      obtain ⟨g, rfl⟩ : ∃ g, o11 = some ⟨g, 0, none⟩ := by
        rcases r11.own.2 with ⟨_, h'⟩ | ⟨g, cap', cur, h', _⟩
        · omega
        · exact ⟨g, by injection h'⟩
      obtain ⟨h, rfl⟩ : ∃ g, o12 = some ⟨g, 0, none⟩ := by
        rcases r12.own.2 with ⟨_, h'⟩ | ⟨g, cap', cur, h', _⟩
        · omega
        · exact ⟨g, by injection h'⟩
      have hgl := (r11.own.lt g rfl).2
      have hhl := (r12.own.lt h rfl).2
      have x1 : wr.cell? ⟨g, k, none⟩ = some v := (fr.cell (p := ⟨g, k, none⟩) hgl (by simp)).trans ((r11.own.cellAt k (by omega)).trans hv)
      have x2 : wr.cell? ⟨h, k, none⟩ = some u := (fr.cell (p := ⟨h, k, none⟩) hhl (by simp)).trans ((r12.own.cellAt k (by omega)).trans hu)
      have hsame := fun w (hf : Fr [] W w) => sameT_any L v u w wo.len (wo.strs.fr hf) (wo.were.fr hf)
      have Hs : Hid _ := hsame
      clear hv hu wo r11 r12 hsame
      go_wp2
      refine wp_region_tail 14 hm (by kernel_rfl) ?_
      repeat still_step
      refine wpStill_nil ?_
      go_wp2_with fail
      refine (Hs.out _ fr.drew).mono ?_
      rintro e w2 ⟨rfl, f2⟩
      have f3 : Fr [] W w2 := fr.drew.trans f2
      go_wp2
      exact ⟨⟨k + 1, by omega, rfl, by go_num, f3⟩, by simp [intOf]; omega⟩
    · have g1 : ¬ ((k : Int) < wl.length) := by omega
      have I2 := HI.out.frm fr
      have Wt2 := HW.out.chg (S := []) (Chg.of_fr fr) (by simp)
      have HI2 : Hid _ := I2
      have HW2 : Hid _ := Wt2
      clear I2 Wt2 HW H11 H12 HI d11 d12 d13
      go_wp2
      go_loop [3, 6] (fun ok i => ok = .bool true ∧ i = .int .i64 0) (fun _ _ => 0)
      case atStart => exact ⟨rfl, rfl⟩
      case round =>
        obtain ⟨rfl, rfl⟩ := hrel
        clear a11 a12
        go_wp2
        go_loopw [8] (fun i w3 => ∃ (k : Nat) (tag' : Nat → Nat) (c' : Nat → Value) (bk' : List Book), k ≤ wl.length ∧ i = .int .i64 k ∧ ScrI w0 w3 b tag' c' T bk' wl el ∧ Waits w0.heap.size w3 tag' wl el k ∧ bk'.length = bk.length + k) (fun i _ => wl.length - (intOf i).toNat)
        case atStart => exact ⟨0, tag, c, bk, by omega, rfl, HI2.out, HW2.out, rfl⟩
        case round =>
          obtain ⟨k, tag', c', bk', hk', rfl, I, Wt, hb'⟩ := hrel
          clear a13 HI2 HW2
          have d11 := I.core.cell 11 (by decide)
          have d13 := I.core.cell 13 (by decide)
          rw [I.n13] at d13
          obtain ⟨p11, cp11, e11⟩ := own_form I.r11.own
          have r11 := I.r11
          rw [e11] at d11 r11
          clear e11
          by_cases hkl : k < wl.length
          · have g1 : (k : Int) < wl.length := by omega
            obtain ⟨v, hv⟩ : ∃ x, wl[k]? = some x := ⟨_, List.getElem?_eq_getElem hkl⟩
            obtain ⟨u, hu⟩ : ∃ x, el[k]? = some x := ⟨_, List.getElem?_eq_getElem (by omega)⟩
            obtain ⟨L, wo⟩ := Wt.at_ k v u (by omega) hv hu
            obtain ⟨g, rfl⟩ : ∃ g, p11 = some ⟨g, 0, none⟩ := by
              rcases r11.own.2 with ⟨_, h'⟩ | ⟨g, cap', cur, h', _⟩
              · omega
              · exact ⟨g, by injection h'⟩
            have x1 : wr.cell? ⟨g, k, none⟩ = some v := (r11.own.cellAt k (by omega)).trans hv
            obtain ⟨pv, cv, rfl⟩ := own_form wo.own.own
            have hmk := mark_any w0 wr b tag' c' T bk' wl el pv cv (9 + k) L I (by omega) wo.own wo.len hp (by omega)
            have HWt : Hid _ := Wt
            clear hv hu wo r11 I Wt
            go_wp2_with fail
            refine hmk.mono ?_
            rintro e w4 ⟨rfl, tag2, c2, x, I4, ch4, rt4⟩
            have Wt4 := HWt.out.step ch4 rt4
            clear hmk HWt
            go_wp2
            exact ⟨⟨k + 1, tag2, c2, bk' ++ [x], by omega, by go_num, I4, Wt4, by simp; omega⟩, by simp [intOf]; omega⟩
          · have g1 : ¬ ((k : Int) < wl.length) := by omega
            have k1 := I.core.cell 12 (by decide)
            have k2 := I.core.cell 14 (by decide)
            have z11 := I.core.fz 11 (by decide)
            have z12 := I.core.fz 12 (by decide)
            have z13 := I.core.fz 13 (by decide)
            have z14 := I.core.fz 14 (by decide)
            have Hf : Hid _ := I.clear
            clear I Wt r11
            go_wp2
            go_loop [9] (fun i => i = .int .i64 0) (fun _ => 0)
            case atStart => exact rfl
            case round =>
              subst hrel
              go_wp2
              go_ret
              exact ⟨rfl, _, _, _, Hf.out, by omega⟩

end Go.Proofs.YtakbfoegkjaphaaGreatDoor

namespace Go.Proofs.YtakbfoegkjaphaaGreatDoor
open Go.RowKit

theorem ScrI.more {w0 W : World} {b : Nat} {tag : Nat → Nat} {c : Nat → Value} {T T' : Nat} {bk : List Book} {wl el : List Value} (I : ScrI w0 W b tag c T bk wl el) (h : T ≤ T') : ScrI w0 W b tag c T' bk wl el := by
  obtain ⟨n3, x3, h3, t3⟩ := I.r3
  obtain ⟨n4, x4, h4, t4⟩ := I.r4
  exact ⟨I.core, I.n0, I.n1, I.n2, ⟨n3, x3, h3, by omega⟩, ⟨n4, x4, h4, by omega⟩, I.n6, I.r7, I.n8, I.r11, I.r12, I.n13, I.n14, I.books⟩

/-- The caller's bytes are set. -/
theorem ScrI.bytes {w0 W : World} {b : Nat} {tag : Nat → Nat} {c : Nat → Value} {T : Nat} {bk : List Book} {wl el : List Value} (I : ScrI w0 W b tag c T bk wl el) (s : ByteArray) (hs : s.size ≤ 2000000) :
    ScrI w0 (W.setCell ⟨b, 1, none⟩ (.string s)) b tag (upd c 1 (.string s)) T bk wl el := by
  have hc : Chg tag [0] W (W.setCell ⟨b, 1, none⟩ (.string s)) := Chg.setCell W (by rw [I.core.tb]; simp) _
  obtain ⟨n3, x3, h3, t3⟩ := I.r3
  obtain ⟨n4, x4, h4, t4⟩ := I.r4
  exact ⟨I.core.set 1 (by decide) _, I.n0, ⟨s, rfl, hs⟩, I.n2, ⟨n3, x3, h3.chg hc (by simp), t3⟩, ⟨n4, x4, h4.chg hc (by simp), t4⟩, I.n6, I.r7.chg hc (by simp), I.n8, I.r11.chg hc (by simp), I.r12.chg hc (by simp), I.n13, I.n14, fun x hx => (I.books x hx).chg hc (by simp)⟩
theorem Waits.cell {B : Nat} {W : World} {b i : Nat} {tag : Nat → Nat} {wl el : List Value} {d : Nat} (h : Waits B W tag wl el d) (tb : tag b = 0) (v : Value) : Waits B (W.setCell ⟨b, i, none⟩ v) tag wl el d :=
  h.chg (S := [0]) (Chg.setCell W (by rw [tb]; simp) v) (by simp)

/-- No records, no draws. -/
theorem ScrI.bare {w0 W : World} {b : Nat} {tag : Nat → Nat} {c : Nat → Value} {T : Nat} {bk : List Book} {wl el : List Value} (I : ScrI w0 W b tag c T bk wl el) :
    ScrI w0 ((W.setCell ⟨b, 3, none⟩ (.slice none 0 0)).setCell ⟨b, 4, none⟩ (.slice none 0 0)) b tag (upd (upd c 3 (.slice none 0 0)) 4 (.slice none 0 0)) T bk wl el := by
  have hc : Chg tag [0] W ((W.setCell ⟨b, 3, none⟩ (.slice none 0 0)).setCell ⟨b, 4, none⟩ (.slice none 0 0)) := (Chg.setCell W (by rw [I.core.tb]; simp) _).trans (Chg.setCell _ (by rw [I.core.tb]; simp) _) (fun _ _ h => h)
  exact ⟨(I.core.set 3 (by decide) _).set 4 (by decide) _, I.n0, I.n1, I.n2, ⟨0, [], RowT.nil _ _ _ _ _ _, by omega⟩, ⟨0, [], RowT.nil _ _ _ _ _ _, by omega⟩, I.n6, I.r7.chg hc (by simp), I.n8, I.r11.chg hc (by simp), I.r12.chg hc (by simp), I.n13, I.n14, fun x hx => (I.books x hx).chg hc (by simp)⟩

set_option maxRecDepth 100000 in
set_option maxHeartbeats 2000000 in
theorem owner_bytes (w0 W : World) (b : Nat) (tag : Nat → Nat) (c : Nat → Value) (T : Nat) (bk : List Book) (wl el : List Value) (a b' : Int) (s t u : ByteArray) (I : ScrI w0 W b tag c T bk wl el) (Wt : Waits w0.heap.size W tag wl el 0) (hs : s.size ≤ 2000000) :
    Calls Tryz.prog 10 #[.pointer (some ⟨b, 0, none⟩), .agg #[.int .i64 1, .int .i64 a, .int .i64 b', .string s, .string t, .string u]] W fun e W' => e = .returned (.tuple #[]) ∧ ∃ tag' c', ScrI w0 W' b tag' c' T bk wl el ∧ Waits w0.heap.size W' tag' wl el 0 := by
  have Ha : ∀ o, ScrI w0 (W.alloc o) b tag c T bk wl el ∧ Waits w0.heap.size (W.alloc o) tag wl el 0 := fun o => ⟨I.frm ((Fr.refl [] W).alloc o), Wt.chg (S := []) (Chg.of_fr ((Fr.refl [] W).alloc o)) (by simp)⟩
  have d1 := fun o => (Ha o).1.core.cell 1 (by decide)
  have z1 := fun o => (Ha o).1.core.fz 1 (by decide)
  have Hf : Hid _ := fun o => And.intro ((Ha o).1.bytes s hs) ((Ha o).2.cell (b := b) (i := 1) I.core.tb (.string s))
  have D1 : Hid _ := d1
  clear I Wt Ha d1
  obtain ⟨W1, hW1⟩ : ∃ W1, W.alloc (Obj.cells #[.int .i64 1, .int .i64 a, .int .i64 b', .string s, .string t, .string u] 38) = W1 := ⟨_, rfl⟩
  have d1 := D1.out (Obj.cells #[.int .i64 1, .int .i64 a, .int .i64 b', .string s, .string t, .string u] 38)
  have z1' := z1 (Obj.cells #[.int .i64 1, .int .i64 a, .int .i64 b', .string s, .string t, .string u] 38)
  clear z1 D1 hW1
  go_enter Tryz.func10, Tryz.ntmps10
  go_wp2
  go_end0
  exact ⟨rfl, _, _, (Hf.out _).1, (Hf.out _).2⟩

set_option maxRecDepth 100000 in
set_option maxHeartbeats 2000000 in
theorem owner_made (w0 W : World) (b : Nat) (tag : Nat → Nat) (c : Nat → Value) (T : Nat) (bk : List Book) (wl el : List Value) (a b' : Int) (s t u : ByteArray) (I : ScrI w0 W b tag c T bk wl el) (Wt : Waits w0.heap.size W tag wl el 0) :
    Calls Tryz.prog 10 #[.pointer (some ⟨b, 0, none⟩), .agg #[.int .i64 4, .int .i64 a, .int .i64 b', .string s, .string t, .string u]] W fun e W' => e = .returned (.tuple #[]) ∧ ∃ tag' c', ScrI w0 W' b tag' c' T bk wl el ∧ Waits w0.heap.size W' tag' wl el 0 := by
  have Ha := And.intro (I.frm ((Fr.refl [] W).alloc (Obj.cells #[.int .i64 4, .int .i64 a, .int .i64 b', .string s, .string t, .string u] 38))) (Wt.chg (S := []) (Chg.of_fr ((Fr.refl [] W).alloc (Obj.cells #[.int .i64 4, .int .i64 a, .int .i64 b', .string s, .string t, .string u] 38))) (by simp))
  have d1 := Ha.1.core.cell 1 (by decide)
  have d2 := Ha.1.core.cell 2 (by decide)
  rw [Ha.1.n2] at d2
  have z1 := Ha.1.core.fz 1 (by decide)
  have Hf : Hid _ := And.intro (Ha.1.bytes ⟨#[]⟩ (by decide)) (Ha.2.cell (b := b) (i := 1) I.core.tb (.string ⟨#[]⟩))
  clear I Wt Ha
  go_enter Tryz.func10, Tryz.ntmps10
  go_wp2
  go_end0
  exact ⟨rfl, _, _, Hf.out.1, Hf.out.2⟩

set_option maxRecDepth 100000 in
set_option maxHeartbeats 2000000 in
theorem owner_take (w0 W : World) (b : Nat) (tag : Nat → Nat) (c : Nat → Value) (T : Nat) (bk : List Book) (wl el : List Value) (a b' : Int) (s t u : ByteArray) (I : ScrI w0 W b tag c T bk wl el) (Wt : Waits w0.heap.size W tag wl el 0) :
    Calls Tryz.prog 10 #[.pointer (some ⟨b, 0, none⟩), .agg #[.int .i64 2, .int .i64 a, .int .i64 b', .string s, .string t, .string u]] W fun e W' => e = .returned (.tuple #[]) ∧ ∃ tag' c', ScrI w0 W' b tag' c' T bk wl el ∧ Waits w0.heap.size W' tag' wl el 0 := by
  have Ha := And.intro (I.frm ((Fr.refl [] W).alloc (Obj.cells #[.int .i64 2, .int .i64 a, .int .i64 b', .string s, .string t, .string u] 38))) (Wt.chg (S := []) (Chg.of_fr ((Fr.refl [] W).alloc (Obj.cells #[.int .i64 2, .int .i64 a, .int .i64 b', .string s, .string t, .string u] 38))) (by simp))
  have d0 := Ha.1.core.cell 0 (by decide)
  rw [Ha.1.n0] at d0
  have Hf : Hid _ := Ha
  clear I Wt Ha
  go_enter Tryz.func10, Tryz.ntmps10
  go_wp2
  go_end0
  exact ⟨rfl, _, _, Hf.out.1, Hf.out.2⟩

set_option maxRecDepth 100000 in
set_option maxHeartbeats 2000000 in
theorem owner_none (w0 W : World) (b : Nat) (tag : Nat → Nat) (c : Nat → Value) (T : Nat) (bk : List Book) (wl el : List Value) (a b' : Int) (s t u : ByteArray) (I : ScrI w0 W b tag c T bk wl el) (Wt : Waits w0.heap.size W tag wl el 0) :
    Calls Tryz.prog 10 #[.pointer (some ⟨b, 0, none⟩), .agg #[.int .i64 7, .int .i64 a, .int .i64 b', .string s, .string t, .string u]] W fun e W' => e = .returned (.tuple #[]) ∧ ∃ tag' c', ScrI w0 W' b tag' c' T bk wl el ∧ Waits w0.heap.size W' tag' wl el 0 := by
  have Ha := And.intro (I.frm ((Fr.refl [] W).alloc (Obj.cells #[.int .i64 7, .int .i64 a, .int .i64 b', .string s, .string t, .string u] 38))) (Wt.chg (S := []) (Chg.of_fr ((Fr.refl [] W).alloc (Obj.cells #[.int .i64 7, .int .i64 a, .int .i64 b', .string s, .string t, .string u] 38))) (by simp))
  have d3 := Ha.1.core.cell 3 (by decide)
  have d4 := Ha.1.core.cell 4 (by decide)
  have z3 := Ha.1.core.fz 3 (by decide)
  have z4 := Ha.1.core.fz 4 (by decide)
  have Hf : Hid _ := And.intro Ha.1.bare ((Ha.2.cell (b := b) (i := 3) I.core.tb (.slice none 0 0)).cell (b := b) (i := 4) I.core.tb (.slice none 0 0))
  clear I Wt Ha
  go_enter Tryz.func10, Tryz.ntmps10
  go_wp2
  go_end0
  exact ⟨rfl, _, _, Hf.out.1, Hf.out.2⟩

set_option maxRecDepth 100000 in
set_option maxHeartbeats 2000000 in
theorem owner_else (w0 W : World) (b : Nat) (tag : Nat → Nat) (c : Nat → Value) (T : Nat) (bk : List Book) (wl el : List Value) (k a b' : Int) (s t u : ByteArray) (I : ScrI w0 W b tag c T bk wl el) (Wt : Waits w0.heap.size W tag wl el 0) (hk : k < 1) :
    Calls Tryz.prog 10 #[.pointer (some ⟨b, 0, none⟩), .agg #[.int .i64 k, .int .i64 a, .int .i64 b', .string s, .string t, .string u]] W fun e W' => e = .returned (.tuple #[]) ∧ ∃ tag' c', ScrI w0 W' b tag' c' T bk wl el ∧ Waits w0.heap.size W' tag' wl el 0 := by
  have Ha := And.intro (I.frm ((Fr.refl [] W).alloc (Obj.cells #[.int .i64 k, .int .i64 a, .int .i64 b', .string s, .string t, .string u] 38))) (Wt.chg (S := []) (Chg.of_fr ((Fr.refl [] W).alloc (Obj.cells #[.int .i64 k, .int .i64 a, .int .i64 b', .string s, .string t, .string u] 38))) (by simp))
  have n1 : (k == 1) = false := by simp; omega
  have n2 : (k == 2) = false := by simp; omega
  have n3 : (k == 3) = false := by simp; omega
  have n4 : (k == 4) = false := by simp; omega
  have n5 : (k == 5) = false := by simp; omega
  have n6 : (k == 6) = false := by simp; omega
  have n7 : (k == 7) = false := by simp; omega
  have Hf : Hid _ := Ha
  clear I Wt Ha hk
  go_enter Tryz.func10, Tryz.ntmps10
  go_wp2
  go_end0
  exact ⟨rfl, _, _, Hf.out.1, Hf.out.2⟩

end Go.Proofs.YtakbfoegkjaphaaGreatDoor

