/-
  The ends of the matches at all places.
-/
import Derived.Test.YticaoekmlaipnaaDoorWv
import Derived.Test.YticaoekmlaipnaaDoorPe
import Derived.Deep.OwnRows
set_option linter.unusedSimpArgs false
set_option linter.unusedVariables false
namespace Go.Proofs.YticaoekmlaipnaaDoor
open Go.RowKit

theorem Tryd.info3 : (Tryd.prog.info? 3).map (fun i => (i.zero, i.size, i.bytes)) = some (some (.int .i64 0), 1, 8) := by kernel_rfl

theorem spotF_eq (p l : Nat) : spotF p l = (spotN p l : Nat) := by
  unfold spotF spotN
  by_cases h1 : p = 0
  · by_cases h2 : p = l
    · rw [if_pos (by omega), if_pos (by omega), if_pos h1, if_pos h2]; rfl
    · rw [if_pos (by omega), if_neg (by omega), if_pos h1, if_neg h2]; rfl
  · by_cases h2 : p = l
    · rw [if_neg (by omega), if_pos (by omega), if_neg h1, if_pos h2]; rfl
    · rw [if_neg (by omega), if_neg (by omega), if_neg h1, if_neg h2]; rfl

/-- A pattern in memory, with sets that fit. -/
structure PatOk (w : World) (pb : Nat) (q : Piece) (tk : Nat → Nat) (fo : Nat → Nat → Nat) : Prop where
  pat : PatAt w pb (whF q) tk fo
  lq : PB 50 q
  ltk : ∀ b, tk b < 1125899906842624
  lfo : ∀ s a, fo s a < 18446744073709551616

/-- A row that holds what the d-th row holds, for the atoms that count. -/
def RowD (q : Piece) (tk : Nat → Nat) (fo : Nat → Nat → Nat) (x : ByteArray) (d : Nat) (W : World) (b : Nat) : Prop :=
  ∃ r, RowAt W b (rowsF q tk fo x d).1 r ∧ ∀ a, (rowsF q tk fo x d).1.testBit a = true → r a = (rowsF q tk fo x d).2 a

/-- A block that is a row of things of this type. -/
def Tagged (W : World) (b : Nat) (T : TypeId) : Prop := ∃ c fz, W.heap[b]? = some (.cells c T fz)
theorem Tagged.of_block {W W' : World} {b : Nat} {T : TypeId} (h : Tagged W b T) (e : W'.heap[b]? = W.heap[b]?) : Tagged W' b T := let ⟨c, fz, hb⟩ := h; ⟨c, fz, e.trans hb⟩
theorem Tagged.lt {W : World} {b : Nat} {T : TypeId} (h : Tagged W b T) : b < W.heap.size := let ⟨_, _, hb⟩ := h; (Array.getElem?_eq_some_iff.1 hb).1
theorem Tagged.fr {S : List Nat} {W W' : World} {b : Nat} {T : TypeId} (h : Tagged W b T) (hf : Fr S W W') (hb : b ∉ S) : Tagged W' b T := h.of_block (hf.block b h.lt hb)
theorem Tagged.set {W : World} {b : Nat} {T : TypeId} (h : Tagged W b T) (a : Addr) (v : Value) : Tagged (W.setCell a v) b T := by
  obtain ⟨c, fz, hb⟩ := h
  unfold Tagged World.setCell
  simp only [Array.getElem?_modify]
  by_cases e : a.block = b
  · rw [if_pos e, hb]; exact ⟨_, _, rfl⟩
  · rw [if_neg e, hb]; exact ⟨_, _, rfl⟩

/-- What the rounds keep: d places are done. -/
structure EndsI (w : World) (pb : Nat) (q : Piece) (tk : Nat → Nat) (fo : Nat → Nat → Nat) (x : ByteArray) (d hb bb : Nat) (W : World) : Prop where
  pat : PatAt W pb (whF q) tk fo
  here : ∃ l r, RowAt W hb l r
  back0 : ∃ l r, RowAt W bb l r
  back : ∀ e, d = e + 1 → RowD q tk fo x e W bb
  ec : ∀ j, j ≤ x.size → W.cell? ⟨w.heap.size, j, none⟩ = some (.int .i64 (if x.size < j + d then endF q tk fo x j else 0))
  ez : ∀ j, j ≤ x.size → W.frozen? ⟨w.heap.size, j, none⟩ = false
  tab : Tab W
  fr : Fr [] w W
  nb : hb ≠ bb
  h1 : hb = w.heap.size + 1 ∨ hb = w.heap.size + 1 + 1
  h2 : bb = w.heap.size + 1 ∨ bb = w.heap.size + 1 + 1
  pl : pb < w.heap.size
  tg : Tagged W w.heap.size 3

/-- In the round, behind the fill: the row of this place is there. -/
structure EndsM (w : World) (pb : Nat) (q : Piece) (tk : Nat → Nat) (fo : Nat → Nat → Nat) (x : ByteArray) (d hb bb : Nat) (W : World) : Prop where
  pat : PatAt W pb (whF q) tk fo
  here : RowD q tk fo x d W hb
  back : ∃ l r, RowAt W bb l r
  ec : ∀ j, j ≤ x.size → W.cell? ⟨w.heap.size, j, none⟩ = some (.int .i64 (if x.size < j + d then endF q tk fo x j else 0))
  ez : ∀ j, j ≤ x.size → W.frozen? ⟨w.heap.size, j, none⟩ = false
  tab : Tab W
  fr : Fr [] w W
  nb : hb ≠ bb
  h1 : hb = w.heap.size + 1 ∨ hb = w.heap.size + 1 + 1
  h2 : bb = w.heap.size + 1 ∨ bb = w.heap.size + 1 + 1
  pl : pb < w.heap.size
  tg : Tagged W w.heap.size 3

section
variable {w : World} {pb : Nat} {q : Piece} {tk : Nat → Nat} {fo : Nat → Nat → Nat} {x : ByteArray} {d hb bb : Nat} {W W' : World}

theorem RowD.fr {S : List Nat} {b : Nat} (h : RowD q tk fo x d W b) (hf : Fr S W W') (hb : b ∉ S) : RowD q tk fo x d W' b := let ⟨r, h1, h2⟩ := h; ⟨r, h1.fr hf hb, h2⟩

theorem EndsI.filled (h : EndsI w pb q tk fo x d hb bb W) (hr : RowD q tk fo x d W' hb) (hf : Fr [hb] W W') (hez : w.heap.size < W.heap.size) : EndsM w pb q tk fo x d hb bb W' := by
  have e1 := h.h1
  have e2 := h.h2
  have e3 := h.pl
  have e4 := h.nb
  obtain ⟨l, r, hb0⟩ := h.back0
  exact ⟨h.pat.fr hf (by simp; omega), hr, ⟨l, r, hb0.fr hf (by simpa using fun e => e4 e.symm)⟩, fun j hj => (hf.cell (p := ⟨w.heap.size, j, none⟩) hez (by simp; omega)).trans (h.ec j hj),
    fun j hj => (hf.frozen (p := ⟨w.heap.size, j, none⟩) hez (by simp; omega)).trans (h.ez j hj), h.tab.fr hf (by simp; omega), h.fr.trans' hf (by simp; omega), h.nb, h.h1, h.h2, h.pl, h.tg.fr hf (by simp; omega)⟩

theorem EndsM.kept (h : EndsM w pb q tk fo x d hb bb W) (hf : Fr [] W W') (hez : w.heap.size < W.heap.size) : EndsM w pb q tk fo x d hb bb W' := by
  obtain ⟨l, r, hb0⟩ := h.back
  exact ⟨h.pat.fr hf (by simp), h.here.fr hf (by simp), ⟨l, r, hb0.fr hf (by simp)⟩, fun j hj => (hf.cell (p := ⟨w.heap.size, j, none⟩) hez (by simp)).trans (h.ec j hj),
    fun j hj => (hf.frozen (p := ⟨w.heap.size, j, none⟩) hez (by simp)).trans (h.ez j hj), h.tab.fr hf (by simp), h.fr.trans (hf.mono (by simp)), h.nb, h.h1, h.h2, h.pl, h.tg.fr hf (by simp)⟩

theorem EndsM.elt (h : EndsM w pb q tk fo x d hb bb W) : w.heap.size < W.heap.size := lt_of_cell (a := ⟨w.heap.size, 0, none⟩) (h.ec 0 (Nat.zero_le _))
theorem EndsI.elt (h : EndsI w pb q tk fo x d hb bb W) : w.heap.size < W.heap.size := lt_of_cell (a := ⟨w.heap.size, 0, none⟩) (h.ec 0 (Nat.zero_le _))

/-- The place's end is laid down; the rows change places. -/
theorem EndsM.next (h : EndsM w pb q tk fo x d hb bb W) (k : Nat) (hk : k + d = x.size) : EndsI w pb q tk fo x (d + 1) bb hb (W.setCell ⟨w.heap.size, k, none⟩ (.int .i64 (endD q tk fo x d))) := by
  have e1 := h.h1
  have e2 := h.h2
  have e3 := h.pl
  obtain ⟨l, r, hb0⟩ := h.back
  have hf : Fr [w.heap.size] W (W.setCell ⟨w.heap.size, k, none⟩ (.int .i64 (endD q tk fo x d))) := (Fr.refl _ W).setCell (p := ⟨w.heap.size, k, none⟩) (.inl (by simp)) _
  have h0 := h.tab.lt
  refine ⟨h.pat.fr hf (by simp; omega), ⟨l, r, hb0.fr hf (by simp; omega)⟩, ?_, fun e he => ?_, fun j hj => ?_, fun j hj => (World.frozen?_setCell _ _ _ _).trans (h.ez j hj), h.tab.fr hf (by simp; omega), h.fr.trans' hf (by simp), fun e => h.nb e.symm, h.h2, h.h1, h.pl, h.tg.set _ _⟩
  · obtain ⟨r', hr', _⟩ := h.here; exact ⟨_, r', hr'.fr hf (by simp; omega)⟩
  · obtain rfl : e = d := by omega
    exact h.here.fr hf (by simp; omega)
  · by_cases e : j = k
    · subst e
      rw [if_pos (by omega)]
      have : endF q tk fo x j = endD q tk fo x d := by unfold endF; rw [show x.size - j = d by omega]
      rw [this]
      exact World.cell?_setCell_same' _ _ _ (by rw [h.ec j hj]; rfl)
    · rw [setCell_off (fun e' => e e'.symm), h.ec j hj]
      by_cases c : x.size < j + d
      · rw [if_pos c, if_pos (by omega)]
      · rw [if_neg c, if_neg (by omega)]

end

theorem whF_l (q : Piece) (s : Nat) (hs : s < 4) : whF q (3 * s + 2) = .int .u64 (q s).l := by
  obtain rfl | rfl | rfl | rfl : s = 0 ∨ s = 1 ∨ s = 2 ∨ s = 3 := by omega
  all_goals rfl
theorem whF_e (q : Piece) (s : Nat) (hs : s < 4) : whF q (s * 3) = .bool (q s).e := by
  obtain rfl | rfl | rfl | rfl : s = 0 ∨ s = 1 ∨ s = 2 ∨ s = 3 := by omega
  all_goals rfl
theorem whF_f (q : Piece) (s : Nat) (hs : s < 4) : whF q (s * 3 + 1) = .int .u64 (q s).f := by
  obtain rfl | rfl | rfl | rfl : s = 0 ∨ s = 1 ∨ s = 2 ∨ s = 3 := by omega
  all_goals rfl
theorem whF_l' (q : Piece) (s : Nat) (hs : s < 4) : whF q (s * 3 + 2) = .int .u64 (q s).l := by
  obtain rfl | rfl | rfl | rfl : s = 0 ∨ s = 1 ∨ s = 2 ∨ s = 3 := by omega
  all_goals rfl

/-- The fill at the text's end. -/
theorem fillD_end {w : World} {pb : Nat} {q : Piece} {tk : Nat → Nat} {fo : Nat → Nat → Nat} {x : ByteArray} {hb bb : Nat} {W : World} (h : EndsI w pb q tk fo x 0 hb bb W) :
    Calls Tryd.prog 55 #[.pointer (some ⟨pb, 0, none⟩), .pointer (some ⟨hb, 0, none⟩), .string x, .int .i64 x.size, .pointer (some ⟨bb, 0, none⟩)] W fun e W' => e = .returned (.tuple #[]) ∧ EndsM w pb q tk fo x 0 hb bb W' := by
  obtain ⟨l, r, hr⟩ := h.here
  refine (fill_end pb hb bb x W l r hr).mono ?_
  rintro e W' ⟨rfl, hr', hf⟩
  exact ⟨rfl, h.filled ⟨r, hr', fun a ha => by simp [rowsF] at ha⟩ hf h.elt⟩

/-- The fill at another place. -/
theorem fillD_go {w : World} {pb : Nat} {q : Piece} {tk : Nat → Nat} {fo : Nat → Nat → Nat} {x : ByteArray} {hb bb : Nat} {W : World} (d k : Nat) (h : EndsI w pb q tk fo x (d + 1) hb bb W) (hk : k + (d + 1) = x.size) (hx : x.size ≤ 100)
    (lq : PB 50 q) (ltk : ∀ b, tk b < 1125899906842624) (lfo : ∀ s a, fo s a < 18446744073709551616) :
    Calls Tryd.prog 55 #[.pointer (some ⟨pb, 0, none⟩), .pointer (some ⟨hb, 0, none⟩), .string x, .int .i64 k, .pointer (some ⟨bb, 0, none⟩)] W fun e W' => e = .returned (.tuple #[]) ∧ EndsM w pb q tk fo x (d + 1) hb bb W' := by
  have e1 := h.h1
  have e2 := h.h2
  have e3 := h.pl
  obtain ⟨l, r, hr⟩ := h.here
  obtain ⟨rb, hrb, hag⟩ := h.back d rfl
  have hlb : (rowsF q tk fo x d).1 < 1125899906842624 := by
    cases d with
    | zero => simp [rowsF]
    | succ d => exact ltk _
  have H : FillPre W pb hb bb (whF q) (fun s => (q s).l) tk fo l r (rowsF q tk fo x d).1 rb :=
    ⟨h.pat, fun s hs => whF_l q s hs, fun s => Nat.lt_of_lt_of_le (lq s).2 (by decide), ltk, lfo, hr, hrb, hlb, h.tab, h.nb, by omega, by omega, by omega⟩
  refine (fill_go pb hb bb k x W (whF q) (fun s => (q s).l) tk fo l r (rowsF q tk fo x d).1 rb H (by omega) (by omega)).mono ?_
  rintro e W' ⟨rfl, hr', hf⟩
  refine ⟨rfl, h.filled ?_ hf h.elt⟩
  have hkl : k < x.size := by omega
  have hbk : (rowsF q tk fo x (d + 1)).1 = tk x[k].toNat := by
    simp only [rowsF]; unfold byteN; rw [show x.size - (d + 1) = k by omega, dif_pos hkl]
  have hsp : (spotF ((k : Int) + 1) x.size).toNat = spotN (x.size - d) x.size := by
    have : ((k : Int) + 1) = ((x.size - d : Nat) : Int) := by omega
    rw [this, spotF_eq]; rfl
  refine ⟨_, by rw [hbk]; exact hr', fun a ha => ?_⟩
  rw [hbk] at ha
  simp only [fillF, ha, if_true, rowsF]
  rw [hsp, show ((k : Int) + 1) = ((x.size - d : Nat) : Int) by omega]
  refine farF_congr (fun b hb' => ?_) _
  refine hag b ?_
  have := (mem_bitsOf.1 hb').2
  rw [Nat.testBit_and, Bool.and_eq_true] at this
  exact this.2

/-- The farthest end from a row. -/
theorem farD {w : World} {pb : Nat} {q : Piece} {tk : Nat → Nat} {fo : Nat → Nat → Nat} {x : ByteArray} {d hb bb : Nat} {W : World} (h : EndsM w pb q tk fo x d hb bb W) (least : Int) (lq : PB 50 q) (ltk : ∀ b, tk b < 1125899906842624)
    (hl : least = if (q (spotN (x.size - d) x.size)).e = true then ((x.size - d : Nat) : Int) else -1) :
    Calls Tryd.prog 57 #[.pointer (some ⟨hb, 0, none⟩), .int .u64 (q (spotN (x.size - d) x.size)).f, .int .i64 least] W fun e W' => e = .returned (.int .i64 (endD q tk fo x d)) ∧ EndsM w pb q tk fo x d hb bb W' := by
  obtain ⟨r, hr, hag⟩ := h.here
  have hlb : (rowsF q tk fo x d).1 < 1125899906842624 := by
    cases d with
    | zero => simp [rowsF]
    | succ d => exact ltk _
  refine (farthest_any hb (rowsF q tk fo x d).1 (q (spotN (x.size - d) x.size)).f r least hlb (Nat.lt_of_lt_of_le (lq _).1 (by decide)) W hr h.tab).mono ?_
  rintro e W' ⟨rfl, hf⟩
  refine ⟨?_, h.kept hf h.elt⟩
  unfold endD
  rw [hl]
  congr 2
  refine farF_congr (fun b hb' => hag b ?_) _
  have := (mem_bitsOf.1 hb').2
  rw [Nat.testBit_and, Bool.and_eq_true] at this
  exact this.2

end Go.Proofs.YticaoekmlaipnaaDoor
