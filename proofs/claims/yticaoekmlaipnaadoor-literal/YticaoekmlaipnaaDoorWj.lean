/-
  The reader's small functions.
-/
import Derived.Test.YticaoekmlaipnaaDoorWe
import Derived.Test.YticaoekmlaipnaaDoorPb
set_option linter.unusedSimpArgs false
set_option linter.unusedVariables false
namespace Go.Proofs.YticaoekmlaipnaaDoor
open Go.RowKit

/-- The reader at work: its own cells, the pattern's. -/
structure M (w : World) (r pb : Nat) (t : ByteArray) (wh : Nat → Value) (s : St) : Prop where
  rd : RdAt w r t s.pos s.fault s.atoms pb
  pat : PatAt w pb wh s.tk s.fo
  tab : Tab w
  n1 : r ≠ pb
  n2 : r ≠ 0
  n3 : pb ≠ 0

theorem RdAt.of_block {w w' : World} {r : Nat} {t : ByteArray} {p : Int} {f : Bool} {a : Int} {pb : Nat} (h : RdAt w r t p f a pb) (hb : w'.heap[r]? = w.heap[r]?) : RdAt w' r t p f a pb :=
  ⟨(World.cell?_of_block (w := w) (a := ⟨r, 0, none⟩) hb).trans h.c0, (World.cell?_of_block (w := w) (a := ⟨r, 1, none⟩) hb).trans h.c1, (World.cell?_of_block (w := w) (a := ⟨r, 2, none⟩) hb).trans h.c2,
   (World.cell?_of_block (w := w) (a := ⟨r, 3, none⟩) hb).trans h.c3, (World.cell?_of_block (w := w) (a := ⟨r, 4, none⟩) hb).trans h.c4, (World.frozen?_of_block (w := w) (a := ⟨r, 1, none⟩) hb).trans h.f1,
   (World.frozen?_of_block (w := w) (a := ⟨r, 2, none⟩) hb).trans h.f2, (World.frozen?_of_block (w := w) (a := ⟨r, 3, none⟩) hb).trans h.f3⟩

theorem M.rlt {w : World} {r pb : Nat} {t : ByteArray} {wh : Nat → Value} {s : St} (h : M w r pb t wh s) : r < w.heap.size := lt_of_cell (a := ⟨r, 0, none⟩) h.rd.c0
theorem M.fr {S : List Nat} {w w' : World} {r pb : Nat} {t : ByteArray} {wh : Nat → Value} {s : St} (h : M w r pb t wh s) (hf : Fr S w w') (h1 : r ∉ S) (h2 : pb ∉ S) (h3 : 0 ∉ S) : M w' r pb t wh s :=
  ⟨h.rd.of_block (hf.block r h.rlt h1), h.pat.fr hf h2, h.tab.fr hf h3, h.n1, h.n2, h.n3⟩
theorem M.heap {w w' : World} {r pb : Nat} {t : ByteArray} {wh : Nat → Value} {s : St} (h : M w r pb t wh s) (hh : w'.heap = w.heap) : M w' r pb t wh s :=
  ⟨h.rd.of_block (by rw [hh]), h.pat.of_block (by rw [hh]), h.tab.of_block (by rw [hh]), h.n1, h.n2, h.n3⟩

/-- The place moves on. -/
theorem M.adv {w : World} {r pb : Nat} {t : ByteArray} {wh : Nat → Value} {s : St} (h : M w r pb t wh s) : M (w.setCell ⟨r, 1, none⟩ (.int .i64 ((s.pos : Int) + 1))) r pb t wh (advF s) := by
  have hb : ∀ c, c ≠ r → (w.setCell ⟨r, 1, none⟩ (.int .i64 ((s.pos : Int) + 1))).heap[c]? = w.heap[c]? := fun c hc => Below.heap_setCell w ⟨r, 1, none⟩ _ c hc
  exact ⟨⟨(setCell_off (by decide)).trans h.rd.c0, World.cell?_setCell_same' _ _ _ (by rw [h.rd.c1]; rfl), (setCell_off (by decide)).trans h.rd.c2, (setCell_off (by decide)).trans h.rd.c3, (setCell_off (by decide)).trans h.rd.c4,
    (World.frozen?_setCell _ _ _ _).trans h.rd.f1, (World.frozen?_setCell _ _ _ _).trans h.rd.f2, (World.frozen?_setCell _ _ _ _).trans h.rd.f3⟩, h.pat.of_block (hb _ (fun e => h.n1 e.symm)), h.tab.of_block (hb _ (fun e => h.n2 e.symm)), h.n1, h.n2, h.n3⟩
theorem M.fail {w : World} {r pb : Nat} {t : ByteArray} {wh : Nat → Value} {s : St} (h : M w r pb t wh s) : M (w.setCell ⟨r, 2, none⟩ (.bool true)) r pb t wh (failF s) := by
  have hb : ∀ c, c ≠ r → (w.setCell ⟨r, 2, none⟩ (.bool true)).heap[c]? = w.heap[c]? := fun c hc => Below.heap_setCell w ⟨r, 2, none⟩ _ c hc
  exact ⟨⟨(setCell_off (by decide)).trans h.rd.c0, (setCell_off (by decide)).trans h.rd.c1, World.cell?_setCell_same' _ _ _ (by rw [h.rd.c2]; rfl), (setCell_off (by decide)).trans h.rd.c3, (setCell_off (by decide)).trans h.rd.c4,
    (World.frozen?_setCell _ _ _ _).trans h.rd.f1, (World.frozen?_setCell _ _ _ _).trans h.rd.f2, (World.frozen?_setCell _ _ _ _).trans h.rd.f3⟩, h.pat.of_block (hb _ (fun e => h.n1 e.symm)), h.tab.of_block (hb _ (fun e => h.n2 e.symm)), h.n1, h.n2, h.n3⟩

variable {w : World} {r pb : Nat} {t : ByteArray} {wh : Nat → Value} {s : St}

theorem peek_any (h : M w r pb t wh s) (hs : t.size ≤ 50) : Calls Tryd.prog 82 #[.pointer (some ⟨r, 0, none⟩)] w fun e w' => e = .returned (.int .i64 (peekF t s)) ∧ ∃ n, w' = w.drewN n := by
  have h1 := h.rd
  unfold peekF byteAt
  cases hf : s.fault
  · rw [hf] at h1
    by_cases hk : s.pos < t.size
    · rw [if_neg (by decide), dif_pos hk]
      exact peek_byte r t s.pos s.atoms pb w h1 (by omega) hk
    · rw [if_neg (by decide), dif_neg hk]
      exact peek_end r t s.pos s.atoms pb w h1 (by omega) (by omega)
  · rw [hf] at h1
    rw [if_pos rfl]
    exact peek_fault r t s.pos s.atoms pb w h1

set_option maxHeartbeats 400000 in
theorem skip_any (b : Int) (h : M w r pb t wh s) (hs : t.size ≤ 50) (hp : s.pos ≤ 1000) : Calls Tryd.prog 53 #[.pointer (some ⟨r, 0, none⟩), .int .i64 b] w fun e w' =>
    e = .returned (.bool (skipF t s b).1) ∧ M w' r pb t wh (skipF t s b).2 ∧ Fr [r] w w' := by
  have c1 := h.rd.c1
  have f1 := h.rd.f1
  unfold skipF
  by_cases hb : peekF t s = b
  · have hne : (peekF t s != b) = false := by simp [hb]
    rw [if_pos hb]
    go_enter Tryd.func53, Tryd.ntmps53
    go_wp2_with (go_at_call 82; refine (peek_any h hs).mono ?_; rintro e w' ⟨rfl, n, rfl⟩)
    go_ret
    exact ⟨rfl, h.adv.heap rfl, ((Fr.refl [r] w).setCell (p := ⟨r, 1, none⟩) (.inl (by simp)) _).drewN n⟩
  · have hne : (peekF t s != b) = true := by simp [hb]
    rw [if_neg hb]
    go_enter Tryd.func53, Tryd.ntmps53
    go_wp2_with (go_at_call 82; refine (peek_any h hs).mono ?_; rintro e w' ⟨rfl, n, rfl⟩)
    go_ret
    exact ⟨rfl, h.heap rfl, (Fr.refl [r] w).drewN n⟩

end Go.Proofs.YticaoekmlaipnaaDoor
