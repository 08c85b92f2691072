/-
  A piece that lies in a variable of its own.
-/
import Derived.Test.YticaoekmlaipnaaDoorWq
set_option linter.unusedSimpArgs false
set_option linter.unusedVariables false
namespace Go.Proofs.YticaoekmlaipnaaDoor
open Go.RowKit

theorem row_sets (W : World) (b : Nat) (a0 a1 a2 a3 a4 a5 a6 a7 a8 a9 a10 a11 v0 v1 v2 v3 v4 v5 v6 v7 v8 v9 v10 v11 : Value) (h : RowIs W b [a0, a1, a2, a3, a4, a5, a6, a7, a8, a9, a10, a11]) : RowIs ((((((((((((W.setCell { block := b, off := 0 } (v0)).setCell { block := b, off := 1 } (v1)).setCell { block := b, off := 2 } (v2)).setCell { block := b, off := 3 } (v3)).setCell { block := b, off := 4 } (v4)).setCell { block := b, off := 5 } (v5)).setCell { block := b, off := 6 } (v6)).setCell { block := b, off := 7 } (v7)).setCell { block := b, off := 8 } (v8)).setCell { block := b, off := 9 } (v9)).setCell { block := b, off := 10 } (v10)).setCell { block := b, off := 11 } (v11)) b [v0, v1, v2, v3, v4, v5, v6, v7, v8, v9, v10, v11] :=
  ((((((((((((h.set 0 (by simp) v0).set 1 (by simp) v1).set 2 (by simp) v2).set 3 (by simp) v3).set 4 (by simp) v4).set 5 (by simp) v5).set 6 (by simp) v6).set 7 (by simp) v7).set 8 (by simp) v8).set 9 (by simp) v9).set 10 (by simp) v10).set 11 (by simp) v11)
theorem frozen_sets (W : World) (b : Nat) (v0 v1 v2 v3 v4 v5 v6 v7 v8 v9 v10 v11 : Value) (a : Addr) : ((((((((((((W.setCell { block := b, off := 0 } (v0)).setCell { block := b, off := 1 } (v1)).setCell { block := b, off := 2 } (v2)).setCell { block := b, off := 3 } (v3)).setCell { block := b, off := 4 } (v4)).setCell { block := b, off := 5 } (v5)).setCell { block := b, off := 6 } (v6)).setCell { block := b, off := 7 } (v7)).setCell { block := b, off := 8 } (v8)).setCell { block := b, off := 9 } (v9)).setCell { block := b, off := 10 } (v10)).setCell { block := b, off := 11 } (v11)).frozen? a = W.frozen? a := by
  simp only [World.frozen?_setCell]

/-- A variable that holds a piece. -/
structure Out (b : Nat) (q : Piece) (W : World) : Prop where
  rr : RowIs W b [.bool (q 0).e, .int .u64 (q 0).f, .int .u64 (q 0).l, .bool (q 1).e, .int .u64 (q 1).f, .int .u64 (q 1).l, .bool (q 2).e, .int .u64 (q 2).f, .int .u64 (q 2).l, .bool (q 3).e, .int .u64 (q 3).f, .int .u64 (q 3).l]
  zr : ∀ i, W.frozen? ⟨b, i, none⟩ = false
theorem Out.lt {b : Nat} {q : Piece} {W : World} (h : Out b q W) : b < W.heap.size := lt_of_cell (a := ⟨b, 0, none⟩) (h.rr 0)
theorem Out.fr {S : List Nat} {b : Nat} {q : Piece} {W W' : World} (h : Out b q W) (hf : Fr S W W') (hb : b ∉ S) : Out b q W' := ⟨h.rr.fr hf hb h.lt, fun i => (hf.frozen (p := ⟨b, i, none⟩) h.lt hb).trans (h.zr i)⟩
theorem Out.heap {b : Nat} {q : Piece} {W W' : World} (h : Out b q W) (hh : W'.heap = W.heap) : Out b q W' :=
  ⟨fun i => (World.cell?_of_block (w := W) (a := ⟨b, i, none⟩) (by rw [hh])).trans (h.rr i), fun i => (World.frozen?_of_block (w := W) (a := ⟨b, i, none⟩) (by rw [hh])).trans (h.zr i)⟩
theorem Out.new (W : World) (q : Piece) : Out W.heap.size q (W.alloc (Obj.cells #[.bool (q 0).e, .int .u64 (q 0).f, .int .u64 (q 0).l, .bool (q 1).e, .int .u64 (q 1).f, .int .u64 (q 1).l, .bool (q 2).e, .int .u64 (q 2).f, .int .u64 (q 2).l, .bool (q 3).e, .int .u64 (q 3).f, .int .u64 (q 3).l] 73)) := ⟨rowIs_new W _ 73, frozen_all_new W _ 73⟩
theorem Out.set {b : Nat} {q : Piece} {W : World} (h : Out b q W) (p : Piece) : Out b p ((((((((((((W.setCell { block := b, off := 0 } (.bool (p 0).e)).setCell { block := b, off := 1 } (.int .u64 (p 0).f)).setCell { block := b, off := 2 } (.int .u64 (p 0).l)).setCell { block := b, off := 3 } (.bool (p 1).e)).setCell { block := b, off := 4 } (.int .u64 (p 1).f)).setCell { block := b, off := 5 } (.int .u64 (p 1).l)).setCell { block := b, off := 6 } (.bool (p 2).e)).setCell { block := b, off := 7 } (.int .u64 (p 2).f)).setCell { block := b, off := 8 } (.int .u64 (p 2).l)).setCell { block := b, off := 9 } (.bool (p 3).e)).setCell { block := b, off := 10 } (.int .u64 (p 3).f)).setCell { block := b, off := 11 } (.int .u64 (p 3).l)) :=
  ⟨row_sets W b _ _ _ _ _ _ _ _ _ _ _ _ (.bool (p 0).e) (.int .u64 (p 0).f) (.int .u64 (p 0).l) (.bool (p 1).e) (.int .u64 (p 1).f) (.int .u64 (p 1).l) (.bool (p 2).e) (.int .u64 (p 2).f) (.int .u64 (p 2).l) (.bool (p 3).e) (.int .u64 (p 3).f) (.int .u64 (p 3).l) h.rr, fun i => (frozen_sets W b (.bool (p 0).e) (.int .u64 (p 0).f) (.int .u64 (p 0).l) (.bool (p 1).e) (.int .u64 (p 1).f) (.int .u64 (p 1).l) (.bool (p 2).e) (.int .u64 (p 2).f) (.int .u64 (p 2).l) (.bool (p 3).e) (.int .u64 (p 3).f) (.int .u64 (p 3).l) _).trans (h.zr i)⟩
theorem Res.heap {b : Nat} {W W' : World} (h : Res b W) (hh : W'.heap = W.heap) : Res b W' :=
  ⟨fun i => (World.cell?_of_block (w := W) (a := ⟨b, i, none⟩) (by rw [hh])).trans (h.rr i), fun i => (World.frozen?_of_block (w := W) (a := ⟨b, i, none⟩) (by rw [hh])).trans (h.zr i)⟩
theorem Fr.heap {S : List Nat} {a w w' : World} (h : Fr S a w) (hh : w'.heap = w.heap) (ho : w'.os = w.os) (ht : w'.tape = w.tape) (hu : w'.output = w.output) : Fr S a w' :=
  ⟨ho.trans h.os, ht.trans h.tape, hu.trans h.output, by rw [hh]; exact h.size, by rw [hh]; exact h.block⟩

/-- The reader, its result's place and a piece in a variable. -/
structure Work (w : World) (r pb : Nat) (t : ByteArray) (wh : Nat → Value) (ob : Nat) (q : Piece) (s : St) (W : World) : Prop where
  m : M W r pb t wh s
  out : Out ob q W
  res : Res w.heap.size W
  fr : Fr [r, pb] w W
  lo : w.heap.size < ob
  rl : r < w.heap.size
  pl : pb < w.heap.size

theorem Work.heap {w : World} {r pb : Nat} {t : ByteArray} {wh : Nat → Value} {ob : Nat} {q : Piece} {s : St} {W W' : World} (h : Work w r pb t wh ob q s W) (hh : W'.heap = W.heap) (ho : W'.os = W.os) (ht : W'.tape = W.tape) (hu : W'.output = W.output) : Work w r pb t wh ob q s W' :=
  ⟨h.m.heap hh, h.out.heap hh, h.res.heap hh, h.fr.heap hh ho ht hu, h.lo, h.rl, h.pl⟩
theorem Work.kept {w : World} {r pb : Nat} {t : ByteArray} {wh : Nat → Value} {ob : Nat} {q : Piece} {s : St} {W W' : World} (h : Work w r pb t wh ob q s W) (hf : Fr [] W W') : Work w r pb t wh ob q s W' :=
  ⟨h.m.fr hf (by simp) (by simp) (by simp), h.out.fr hf (by simp), h.res.fr hf (by simp), h.fr.trans (hf.mono (by simp)), h.lo, h.rl, h.pl⟩
theorem Work.call {w : World} {r pb : Nat} {t : ByteArray} {wh : Nat → Value} {ob : Nat} {q : Piece} {s s' : St} {W W' : World} (h : Work w r pb t wh ob q s W) (hm : M W' r pb t wh s') (hf : Fr [r, pb] W W') : Work w r pb t wh ob q s' W' :=
  have h1 := h.lo
  have h2 := h.rl
  have h3 := h.pl
  ⟨hm, h.out.fr hf (by simp; omega), h.res.fr hf (by simp; omega), h.fr.trans hf, h.lo, h.rl, h.pl⟩
theorem Work.set {w : World} {r pb : Nat} {t : ByteArray} {wh : Nat → Value} {ob : Nat} {q : Piece} {s : St} {W : World} (h : Work w r pb t wh ob q s W) (p : Piece) : Work w r pb t wh ob p s ((((((((((((W.setCell { block := ob, off := 0 } (.bool (p 0).e)).setCell { block := ob, off := 1 } (.int .u64 (p 0).f)).setCell { block := ob, off := 2 } (.int .u64 (p 0).l)).setCell { block := ob, off := 3 } (.bool (p 1).e)).setCell { block := ob, off := 4 } (.int .u64 (p 1).f)).setCell { block := ob, off := 5 } (.int .u64 (p 1).l)).setCell { block := ob, off := 6 } (.bool (p 2).e)).setCell { block := ob, off := 7 } (.int .u64 (p 2).f)).setCell { block := ob, off := 8 } (.int .u64 (p 2).l)).setCell { block := ob, off := 9 } (.bool (p 3).e)).setCell { block := ob, off := 10 } (.int .u64 (p 3).f)).setCell { block := ob, off := 11 } (.int .u64 (p 3).l)) := by
  have h1 := h.lo
  have h2 := h.rl
  have h3 := h.pl
  have hf := far_sets W ob (.bool (p 0).e) (.int .u64 (p 0).f) (.int .u64 (p 0).l) (.bool (p 1).e) (.int .u64 (p 1).f) (.int .u64 (p 1).l) (.bool (p 2).e) (.int .u64 (p 2).f) (.int .u64 (p 2).l) (.bool (p 3).e) (.int .u64 (p 3).f) (.int .u64 (p 3).l)
  exact ⟨h.m.fr hf (by simp; omega) (by simp; omega) (by simp; omega), h.out.set p, h.res.fr hf (by simp; omega), h.fr.trans' hf (by simp; omega), h.lo, h.rl, h.pl⟩
theorem Work.adv {w : World} {r pb : Nat} {t : ByteArray} {wh : Nat → Value} {ob : Nat} {q : Piece} {s : St} {W : World} (h : Work w r pb t wh ob q s W) : Work w r pb t wh ob q (advF s) (W.setCell ⟨r, 1, none⟩ (.int .i64 ((s.pos : Int) + 1))) :=
  h.call h.m.adv ((Fr.refl [r, pb] W).setCell (p := ⟨r, 1, none⟩) (.inl (by simp)) _)
theorem Work.tie {w : World} {r pb : Nat} {t : ByteArray} {wh : Nat → Value} {ob : Nat} {q : Piece} {s : St} {W W' : World} {fo : Nat → Nat → Nat} (h : Work w r pb t wh ob q s W) (hP : PatAt W' pb wh s.tk fo) (hf : Fr [pb] W W') : Work w r pb t wh ob q { s with fo := fo } W' :=
  h.call ⟨h.m.rd.of_block (hf.block r h.m.rlt (by simpa using h.m.n1)), hP, h.m.tab.fr hf (by simpa using fun e => h.m.n3 e.symm), h.m.n1, h.m.n2, h.m.n3⟩ (hf.mono (by simp))

end Go.Proofs.YticaoekmlaipnaaDoor
