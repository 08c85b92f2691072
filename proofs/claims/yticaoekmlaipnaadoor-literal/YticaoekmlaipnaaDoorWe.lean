/-
  Is an atom in a set; the fill of a row.
-/
import Derived.Test.YticaoekmlaipnaaDoorWd
import Derived.Test.YticaoekmlaipnaaDoorWa
import Derived.Deep.RegionHeld
set_option linter.unusedSimpArgs false
set_option linter.unusedVariables false
namespace Go.Proofs.YticaoekmlaipnaaDoor
open Go.RowKit Go.Shelf

theorem has_eq (s a : Nat) (hs : s < 18446744073709551616) : (bits BinOp.and IntKind.u64 ((s : Int) / 2 ^ a) 1 != 0) = s.testBit a := by
  have e : ((s : Int) / 2 ^ a) = ((s / 2 ^ a : Nat) : Int) := by simp
  have h := bits_and_u64_nat (s / 2 ^ a) 1 (Nat.lt_of_le_of_lt (Nat.div_le_self _ _) hs) (by decide)
  rw [e]
  have h' : bits BinOp.and IntKind.u64 ((s / 2 ^ a : Nat) : Int) 1 = ((s / 2 ^ a &&& 1 : Nat) : Int) := h
  rw [h']
  rw [Nat.testBit, Nat.shiftRight_eq_div_pow, Nat.and_comm]
  generalize 1 &&& s / 2 ^ a = x
  rw [Bool.eq_iff_iff]; simp

set_option maxHeartbeats 400000 in
theorem has_any (s a : Nat) (hs : s < 18446744073709551616) (ha : a < 64) (w : World) :
    Calls Tryd.prog 86 #[.int .u64 s, .int .i64 a] w fun e w' => e = .returned (.bool (s.testBit a)) ∧ w' = w := by
  have g1 : (a : Int) < 64 := by omega
  go_enter Tryd.func86, Tryd.ntmps86
  go_wp2
  go_ret
  exact ⟨congrArg (fun x => Ending.returned (Value.bool x)) (has_eq s a hs), rfl⟩

theorem RowAt.setLive {w : World} {rb live : Nat} {reach : Nat → Int} (h : RowAt w rb live reach) (v : Nat) : RowAt (w.setCell ⟨rb, 0, none⟩ (.int .u64 v)) rb v reach :=
  ⟨World.cell?_setCell_same' _ _ _ (by rw [h.h0]; rfl), fun a ha => (setCell_off (by omega)).trans (h.hr a ha), fun i hi => (World.frozen?_setCell _ _ _ _).trans (h.fz i hi)⟩
theorem RowAt.setReach {w : World} {rb live : Nat} {reach : Nat → Int} (h : RowAt w rb live reach) (x : Nat) (hx : x < 50) (v : Int) :
    RowAt (w.setCell ⟨rb, 1 + x, none⟩ (.int .i64 v)) rb live (fun a => if a = x then v else reach a) := by
  refine ⟨(setCell_off (by omega)).trans h.h0, fun a ha => ?_, fun i hi => (World.frozen?_setCell _ _ _ _).trans (h.fz i hi)⟩
  by_cases e : a = x
  · subst e; rw [if_pos rfl]; exact World.cell?_setCell_same' _ _ _ (by rw [h.hr a hx]; rfl)
  · rw [if_neg e]; exact (setCell_off (by omega)).trans (h.hr a ha)

attribute [local go_sem] Oper.semAt_some

set_option maxRecDepth 100000 in
set_option maxHeartbeats 1000000 in
theorem fill_end (pb hb bb : Nat) (text : ByteArray) (w : World) (live : Nat) (reach : Nat → Int) (hH : RowAt w hb live reach) :
    Calls Tryd.prog 55 #[.pointer (some ⟨pb, 0, none⟩), .pointer (some ⟨hb, 0, none⟩), .string text, .int .i64 text.size, .pointer (some ⟨bb, 0, none⟩)] w fun e w' =>
      e = .returned (.tuple #[]) ∧ RowAt w' hb 0 reach ∧ Fr [hb] w w' := by
  have hlt := hH.lt
  have h0 := hH.h0
  have hz := hH.fz 0 (by decide)
  have l1 : hb < w.heap.size + 1 := by omega
  have l2 : hb < w.heap.size + 1 + 1 := by omega
  have l3 : hb < w.heap.size + 1 + 1 + 1 := by omega
  have l4 : hb < w.heap.size + 1 + 1 + 1 + 1 := by omega
  go_enter Tryd.func55, Tryd.ntmps55
  go_wp2
  refine bodyPost_ret (results_none rfl _ _ _) rfl ⟨rfl, ?_, ?_⟩
  · exact (hH.setLive 0).fr (((((Fr.refl [] _).alloc _).alloc _).alloc _).alloc _) (by simp)
  · exact (((((Fr.refl [hb] w).setCell (p := ⟨hb, 0, none⟩) (.inl (by simp)) _).alloc _).alloc _).alloc _).alloc _

/-- What a row holds behind the fill. -/
def fillF (wl : Nat → Nat) (tkb : Nat) (fo : Nat → Nat → Nat) (liveB : Nat) (reachB reach : Nat → Int) (sp : Nat) (next : Int) : Nat → Int := fun a =>
  if tkb.testBit a = true then farF reachB (if (wl sp).testBit a = true then next else -1) (bitsOf (fo sp a &&& liveB)) else reach a

structure FillPre (w : World) (pb hb bb : Nat) (wh : Nat → Value) (wl tk : Nat → Nat) (fo : Nat → Nat → Nat) (live : Nat) (reach : Nat → Int) (liveB : Nat) (reachB : Nat → Int) : Prop where
  pat : PatAt w pb wh tk fo
  hwl : ∀ s, s < 4 → wh (3 * s + 2) = .int .u64 (wl s)
  lwl : ∀ s, wl s < 18446744073709551616
  ltk : ∀ b, tk b < 1125899906842624
  lfo : ∀ s a, fo s a < 18446744073709551616
  here : RowAt w hb live reach
  back : RowAt w bb liveB reachB
  llb : liveB < 1125899906842624
  tab : Tab w
  n1 : hb ≠ bb
  n2 : pb ≠ hb
  n3 : pb ≠ bb
  n4 : hb ≠ 0

/-- What the rounds keep. -/
structure FillI (w : World) (pb hb bb k sp : Nat) (wh : Nat → Value) (wl tk : Nat → Nat) (fo : Nat → Nat → Nat) (tkb : Nat) (reach : Nat → Int) (liveB : Nat) (reachB : Nat → Int) (pre : List Nat) (W : World) : Prop where
  pat : PatAt W pb wh tk fo
  here : RowAt W hb tkb (fun a => if a ∈ pre then farF reachB (if (wl sp).testBit a = true then (k : Int) + 1 else -1) (bitsOf (fo sp a &&& liveB)) else reach a)
  back : RowAt W bb liveB reachB
  fr : Fr [hb] w W
  tab : Tab W
  b0 : W.cell? ⟨w.heap.size, 0, none⟩ = some (.pointer (some ⟨pb, 0, none⟩))
  b1 : W.cell? ⟨w.heap.size + 1, 0, none⟩ = some (.pointer (some ⟨hb, 0, none⟩))
  b2 : W.cell? ⟨w.heap.size + 1 + 1, 0, none⟩ = some (.int .i64 k)
  b3 : W.cell? ⟨w.heap.size + 1 + 1 + 1, 0, none⟩ = some (.pointer (some ⟨bb, 0, none⟩))
  b4 : W.cell? ⟨w.heap.size + 1 + 1 + 1 + 1, 0, none⟩ = some (.int .i64 sp)

theorem FillI.own {w : World} {pb hb bb k sp : Nat} {wh : Nat → Value} {wl tk : Nat → Nat} {fo : Nat → Nat → Nat} {tkb : Nat} {reach : Nat → Int} {liveB : Nat} {reachB : Nat → Int} {B : Nat} (hB : w.heap.size ≤ B) :
    OwnFrom B (FillI w pb hb bb k sp wh wl tk fo tkb reach liveB reachB) := by
  rintro pre W W' row ⟨h1, h2, h3, h4, h5, c0, c1, c2, c3, c4⟩ hg hr
  have hr' := fun r e => (hr r e).2
  exact ⟨h1.of_block (block_kept (a := ⟨pb, 12, none⟩) (h1.ht 0 (by decide)) hg hr'), h2.of_block (block_kept (a := ⟨hb, 0, none⟩) h2.h0 hg hr'), h3.of_block (block_kept (a := ⟨bb, 0, none⟩) h3.h0 hg hr'),
    h4.grown hg (fun r e => Nat.le_trans hB (hr r e).1), h5.of_block (block_kept (a := ⟨0, 0, none⟩) (h5 0 (by decide)) hg hr'),
    cell_kept c0 hg hr', cell_kept c1 hg hr', cell_kept c2 hg hr', cell_kept c3 hg hr', cell_kept c4 hg hr'⟩

theorem Fr.keeps {w w' : World} (h : Fr [] w w') (B : Nat) : KeepsFrom B w w' := ⟨h.size, fun k o _ hk _ => (h.block k (Array.getElem?_eq_some_iff.1 hk).1 (by simp)).trans hk⟩

theorem FillI.kept {w : World} {pb hb bb k sp : Nat} {wh : Nat → Value} {wl tk : Nat → Nat} {fo : Nat → Nat → Nat} {tkb : Nat} {reach : Nat → Int} {liveB : Nat} {reachB : Nat → Int} {pre : List Nat} {W W' : World}
    (h : FillI w pb hb bb k sp wh wl tk fo tkb reach liveB reachB pre W) (hf : Fr [] W W') : FillI w pb hb bb k sp wh wl tk fo tkb reach liveB reachB pre W' :=
  ⟨h.pat.fr hf (by simp), h.here.fr hf (by simp), h.back.fr hf (by simp), h.fr.trans (hf.mono (by simp)), h.tab.fr hf (by simp), (hf.cell (lt_of_cell h.b0) (by simp)).trans h.b0, (hf.cell (lt_of_cell h.b1) (by simp)).trans h.b1,
    (hf.cell (lt_of_cell h.b2) (by simp)).trans h.b2, (hf.cell (lt_of_cell h.b3) (by simp)).trans h.b3, (hf.cell (lt_of_cell h.b4) (by simp)).trans h.b4⟩

theorem FillI.step {w : World} {pb hb bb k sp : Nat} {wh : Nat → Value} {wl tk : Nat → Nat} {fo : Nat → Nat → Nat} {tkb : Nat} {reach : Nat → Int} {liveB : Nat} {reachB : Nat → Int} {pre : List Nat} {W : World}
    (h : FillI w pb hb bb k sp wh wl tk fo tkb reach liveB reachB pre W) {x : Nat} (hx : x < 50) {least : Int} (hl : least = if (wl sp).testBit x = true then (k : Int) + 1 else -1) (n1 : hb ≠ bb) (n2 : pb ≠ hb) (n4 : hb ≠ 0) (hlt : hb < w.heap.size) :
    FillI w pb hb bb k sp wh wl tk fo tkb reach liveB reachB (pre ++ [x]) (W.setCell ⟨hb, 1 + x, none⟩ (.int .i64 (farF reachB least (bitsOf (fo sp x &&& liveB))))) := by
  have hs : ∀ c, c ≠ hb → (W.setCell ⟨hb, 1 + x, none⟩ (.int .i64 (farF reachB least (bitsOf (fo sp x &&& liveB))))).heap[c]? = W.heap[c]? := fun c hc => Below.heap_setCell W ⟨hb, 1 + x, none⟩ _ c hc
  refine ⟨h.pat.of_block (hs _ n2), ?_, h.back.of_block (hs _ (fun e => n1 e.symm)), h.fr.setCell (p := ⟨hb, 1 + x, none⟩) (.inl (by simp)) _, h.tab.of_block (hs _ (fun e => n4 e.symm)),
    (setCell_far (by omega)).trans h.b0, (setCell_far (by omega)).trans h.b1, (setCell_far (by omega)).trans h.b2, (setCell_far (by omega)).trans h.b3, (setCell_far (by omega)).trans h.b4⟩
  refine (h.here.setReach x hx _).congr (fun a _ => ?_)
  by_cases e : a = x
  · subst e; simp [hl]
  · simp [e]

theorem cell_past1 {W : World} {o : Obj} {b i : Nat} {v : Value} (h : W.cell? ⟨b, i, none⟩ = some v) : (W.alloc o).cell? ⟨b, i, none⟩ = some v := (World.cell?_alloc_past _ _ _ (lt_of_cell h)).trans h

theorem FillI.start {w : World} {pb hb bb k sp : Nat} {wh : Nat → Value} {wl tk : Nat → Nat} {fo : Nat → Nat → Nat} {tkb live : Nat} {reach : Nat → Int} {liveB : Nat} {reachB : Nat → Int}
    (hP : PatAt w pb wh tk fo) (hH : RowAt w hb live reach) (hBk : RowAt w bb liveB reachB) (hT : Tab w) (n1 : hb ≠ bb) (n2 : pb ≠ hb) (n4 : hb ≠ 0) :
    FillI w pb hb bb k sp wh wl tk fo tkb reach liveB reachB [] (((((((w.setCell { block := hb, off := 0 } (Value.int IntKind.u64 0)).setCell { block := hb, off := 0 }
                            (Value.int IntKind.u64 tkb)).alloc
                        (Obj.cells #[Value.pointer (some { block := pb, off := 0 })] 55)).alloc
                    (Obj.cells #[Value.pointer (some { block := hb, off := 0 })] 102)).alloc
                (Obj.cells #[Value.int IntKind.i64 k] 3)).alloc
            (Obj.cells #[Value.pointer (some { block := bb, off := 0 })] 102)).alloc
        (Obj.cells #[Value.int IntKind.i64 sp] 3)).drew := by
  obtain ⟨w2, hw2⟩ : ∃ w2, (w.setCell { block := hb, off := 0 } (Value.int IntKind.u64 0)).setCell { block := hb, off := 0 } (Value.int IntKind.u64 tkb) = w2 := ⟨_, rfl⟩
  have f2 : Fr [hb] w w2 := by rw [← hw2]; exact ((Fr.refl [hb] w).setCell (p := ⟨hb, 0, none⟩) (.inl (by simp)) _).setCell (p := ⟨hb, 0, none⟩) (.inl (by simp)) _
  have sz : w2.heap.size = w.heap.size := by rw [← hw2]; simp [World.setCell]
  have hH2 : RowAt w2 hb tkb reach := by rw [← hw2]; exact (hH.setLive 0).setLive tkb
  rw [hw2]
  clear hw2
  have hf : ∀ S, Fr S w2 ((((((w2.alloc (Obj.cells #[Value.pointer (some { block := pb, off := 0 })] 55)).alloc (Obj.cells #[Value.pointer (some { block := hb, off := 0 })] 102)).alloc
      (Obj.cells #[Value.int IntKind.i64 k] 3)).alloc (Obj.cells #[Value.pointer (some { block := bb, off := 0 })] 102)).alloc (Obj.cells #[Value.int IntKind.i64 sp] 3)).drew) := fun S => ((((((Fr.refl S w2).alloc _).alloc _).alloc _).alloc _).alloc _).drew
  have d0 := cell_new w2 (Value.pointer (some { block := pb, off := 0 })) 55
  have d1 := cell_new (w2.alloc (Obj.cells #[Value.pointer (some { block := pb, off := 0 })] 55)) (Value.pointer (some { block := hb, off := 0 })) 102
  have d2 := cell_new ((w2.alloc (Obj.cells #[Value.pointer (some { block := pb, off := 0 })] 55)).alloc (Obj.cells #[Value.pointer (some { block := hb, off := 0 })] 102)) (Value.int IntKind.i64 k) 3
  have d3 := cell_new (((w2.alloc (Obj.cells #[Value.pointer (some { block := pb, off := 0 })] 55)).alloc (Obj.cells #[Value.pointer (some { block := hb, off := 0 })] 102)).alloc (Obj.cells #[Value.int IntKind.i64 k] 3)) (Value.pointer (some { block := bb, off := 0 })) 102
  have d4 := cell_new ((((w2.alloc (Obj.cells #[Value.pointer (some { block := pb, off := 0 })] 55)).alloc (Obj.cells #[Value.pointer (some { block := hb, off := 0 })] 102)).alloc (Obj.cells #[Value.int IntKind.i64 k] 3)).alloc (Obj.cells #[Value.pointer (some { block := bb, off := 0 })] 102)) (Value.int IntKind.i64 sp) 3
  simp only [World.size_alloc, sz] at d0 d1 d2 d3 d4
  exact ⟨(hP.fr f2 (by simpa using n2)).fr (hf []) (by simp), (hH2.fr (hf []) (by simp)).congr (fun _ _ => by simp), (hBk.fr f2 (by simpa using fun e => n1 e.symm)).fr (hf []) (by simp), f2.trans (hf _),
    (hT.fr f2 (by simpa using fun e => n4 e.symm)).fr (hf []) (by simp), cell_past1 (cell_past1 (cell_past1 (cell_past1 d0))), cell_past1 (cell_past1 (cell_past1 d1)), cell_past1 (cell_past1 d2), cell_past1 d3, d4⟩

set_option maxRecDepth 100000 in
set_option maxHeartbeats 1000000 in
theorem fill_go (pb hb bb k : Nat) (text : ByteArray) (w : World) (wh : Nat → Value) (wl tk : Nat → Nat) (fo : Nat → Nat → Nat) (live : Nat) (reach : Nat → Int) (liveB : Nat) (reachB : Nat → Int)
    (H : FillPre w pb hb bb wh wl tk fo live reach liveB reachB) (hk : k < text.size) (hsz : text.size ≤ 1000) :
    Calls Tryd.prog 55 #[.pointer (some ⟨pb, 0, none⟩), .pointer (some ⟨hb, 0, none⟩), .string text, .int .i64 k, .pointer (some ⟨bb, 0, none⟩)] w fun e w' =>
      e = .returned (.tuple #[]) ∧ RowAt w' hb (tk text[k].toNat) (fillF wl (tk text[k].toNat) fo liveB reachB reach (spotF (k + 1) text.size).toNat (k + 1)) ∧ Fr [hb] w w' := by
  obtain ⟨hP, hwl, lwl, ltk, lfo, hH, hBk, llb, hT, n1, n2, n3, n4⟩ := H
  have hlt := hH.lt
  have h0 := hH.h0
  have hz := hH.fz 0 (by decide)
  have l1 : hb < w.heap.size + 1 := by omega
  have l2 : hb < w.heap.size + 1 + 1 := by omega
  have l3 : hb < w.heap.size + 1 + 1 + 1 := by omega
  have l4 : hb < w.heap.size + 1 + 1 + 1 + 1 := by omega
  have plt := hP.lt
  have p1 : pb < w.heap.size + 1 := by omega
  have p2 : pb < w.heap.size + 1 + 1 := by omega
  have p3 : pb < w.heap.size + 1 + 1 + 1 := by omega
  have p4 : pb < w.heap.size + 1 + 1 + 1 + 1 := by omega
  have hbyte := text[k].toNat_lt
  have hcp := hP.ht text[k].toNat hbyte
  have hne : ((k : Int) == (text.size : Int)) = false := by simp; omega
  have g1 : (k : Int) < text.size := by omega
  have g2 : (text[k].toNat : Int) < 256 := by omega
  have n2' : hb ≠ pb := fun e => n2 e.symm
  have hm : Tryd.prog.follows Departure.mixedOrders = true := by kernel_rfl
  refine (callsIn_wide (n := 6)).1 ?_
  refine callsIn_of_wp_marks Tryd.func55 rfl trivial ?_ rfl
  simp only [Tryd.ntmps55, List.size_toArray, List.length_cons, List.length_nil, Nat.reduceAdd, Nat.reduceSub, Array.replicate_succ, Array.replicate_zero, List.push_toArray, List.append_toArray, List.nil_append, List.cons_append]
  gi_wp2
  refine wpIn_wide.2 ?_
  refine wp_region_tail 11 hm (by kernel_rfl) ?_
  simp only [List.take_succ_cons, List.take_zero, List.drop_succ_cons, List.drop_zero]
  repeat still_step
  refine wpStill_nil ?_
  go_wp2
  have l5 : hb < w.heap.size + 1 + 1 + 1 + 1 + 1 := by omega
  gi_wp2_with (refine ⟨trivial, ?_⟩; refine (callsIn_wide.2 (spotOf_any _ _ _)).mono ?_; rintro e w' ⟨rfl, rfl⟩)
  obtain ⟨sp, hsp, sp4⟩ : ∃ sp : Nat, spotF ((k : Int) + 1) text.size = sp ∧ sp < 4 := by
    unfold spotF; exact ⟨((if (k : Int) + 1 = 0 then 1 else 0) + (if (k : Int) + 1 = text.size then 2 else 0) : Int).toNat, by split <;> split <;> rfl, by split <;> split <;> decide⟩
  rw [hsp]
  obtain ⟨W0, hW0⟩ : ∃ W0, (((((((w.setCell { block := hb, off := 0 } (Value.int IntKind.u64 0)).setCell { block := hb, off := 0 }
                            (Value.int IntKind.u64 (tk text[k].toNat))).alloc
                        (Obj.cells #[Value.pointer (some { block := pb, off := 0 })] 55)).alloc
                    (Obj.cells #[Value.pointer (some { block := hb, off := 0 })] 102)).alloc
                (Obj.cells #[Value.int IntKind.i64 k] 3)).alloc
            (Obj.cells #[Value.pointer (some { block := bb, off := 0 })] 102)).alloc
        (Obj.cells #[Value.int IntKind.i64 sp] 3)).drew = W0 := ⟨_, rfl⟩
  have hI0 : FillI w pb hb bb k sp wh wl tk fo (tk text[k].toNat) reach liveB reachB [] W0 := by
    rw [← hW0]; exact FillI.start hP hH hBk hT n1 n2 n4
  have hs0 : W0.heap.size = w.heap.size + 5 := by rw [← hW0]; simp
  rw [hW0]
  clear hW0
  refine wp_range_set (tk text[k].toNat) (by have := ltk text[k].toNat; omega) rfl (FillI w pb hb bb k sp wh wl tk fo (tk text[k].toNat) reach liveB reachB) (FillI.own (by omega)) (fun pre W h => h.tab) hI0
    (fun x => { tmps := #[Value.pointer (some { block := pb, off := 0 }), Value.pointer (some { block := hb, off := 0 }),
          Value.string text, Value.int IntKind.i64 k, Value.pointer (some { block := bb, off := 0 }),
          Value.pointer (some { block := w.heap.size, off := 0 }),
          Value.pointer (some { block := w.heap.size + 1, off := 0 }), undef,
          Value.pointer (some { block := w.heap.size + 1 + 1, off := 0 }),
          Value.pointer (some { block := w.heap.size + 1 + 1 + 1, off := 0 }),
          Value.pointer (some { block := w.heap.size + 1 + 1 + 1 + 1, off := 0 }), Value.int .i64 x, undef,
          Value.pointer (some { block := hb, off := 0 }), Value.pointer (some { block := hb, off := 0 }),
          Value.pointer (some { block := hb, off := 0 }), Value.int IntKind.i64 k, Value.string text,
          Value.int IntKind.i64 text.size, Value.bool false, Value.pointer (some { block := hb, off := 0 }),
          Value.pointer (some { block := pb, off := 0 }), Value.string text, Value.int IntKind.i64 k,
          Value.int IntKind.u8 text[k].toNat, Value.pointer (some { block := pb, off := 0 }),
          Value.pointer (some { block := pb, off := 12 }),
          Value.pointer (some { block := pb, off := 12 + text[k].toNat }), Value.int IntKind.u64 (tk text[k].toNat),
          Value.pointer (some { block := hb, off := 0 }), Value.pointer (some { block := hb, off := 0 }),
          Value.int IntKind.i64 k, Value.int IntKind.i64 (k + 1), Value.string text, Value.int IntKind.i64 text.size,
          Value.int IntKind.i64 sp, Value.pointer (some { block := hb, off := 0 }),
          Value.pointer (some { block := hb, off := 0 }), Value.pointer (some { block := hb, off := 0 }),
          Value.int IntKind.u64 (tk text[k].toNat),
          Value.func (Fn.func 85) #[Value.int IntKind.u64 (tk text[k].toNat)] #[], Value.int .i64 x, undef, undef, undef, undef, undef, undef, undef, undef, undef, undef, undef, undef, undef, undef, undef, undef, undef, undef, undef, undef, undef, undef, undef, undef, undef, undef, undef], defers := [] }) ?assign ?body ?done
  case assign =>
    intro l x W K hK
    gi_wp2
    exact hK
  case body =>
    rintro l pre x rest W hi hbits
    have hx : x < 50 := bit_lt (k := 50) (by simpa using ltk text[k].toNat) (mem_bitsOf.1 (by rw [hbits]; simp)).2
    obtain ⟨i1, i2, i3, i4, i5, c0, c1, c2, c3, c4⟩ := hi
    have hlastc := i1.hw (3 * sp + 2) (by omega)
    rw [hwl sp sp4] at hlastc
    have e3 : 3 * sp + 2 = sp * 3 + 2 := by omega
    rw [e3] at hlastc
    have hfc := i1.hf sp x sp4 hx
    have g3 : (sp : Int) < 4 := by omega
    have g4 : (x : Int) < 50 := by omega
    gi_wp2
    refine wpIn_region_tail_round 8 hm (by kernel_rfl) (by kernel_rfl) (by rintro ⟨a, w, h⟩; exact h) ?_
    simp only [List.take_succ_cons, List.take_zero, List.drop_succ_cons, List.drop_zero]
    repeat still_step
    refine wpStill_nil ?_
    go_wp2_with fail
    refine (has_any (wl sp) x (lwl sp) (by omega) _).mono ?_
    rintro e w' ⟨rfl, rfl⟩
    cases hl : (wl sp).testBit x
    all_goals
      go_wp2
      gi_wp2
      refine wpIn_region_held_round (fun w1 => w1.cell? ⟨w.heap.size + 1, 0, none⟩ = some (.pointer (some ⟨hb, 0, none⟩)) ∧ w1.cell? ⟨w.heap.size + 1 + 1 + 1, 0, none⟩ = some (.pointer (some ⟨bb, 0, none⟩)) ∧
        w1.cell? ⟨w.heap.size, 0, none⟩ = some (.pointer (some ⟨pb, 0, none⟩)) ∧ w1.cell? ⟨w.heap.size + 1 + 1 + 1 + 1, 0, none⟩ = some (.int .i64 sp) ∧ w1.cell? ⟨pb, 268 + sp * 50 + x, none⟩ = some (.int .u64 (fo sp x))) hm (by kernel_rfl) ?hQ ?_
      case hQ => rintro ⟨a, w, h⟩; exact h
      have hS := And.intro c1 (And.intro c3 (And.intro c0 (And.intro c4 hfc)))
      refine wpAnyH_take (i := 0) (v := ?_) rfl (by kernel_rfl) (by kernel_rfl) (by kernel_rfl) (fun _ _ _ h => h) (.inl ⟨rfl, fun w1 hS1 => ?_⟩) hS ?_
      rotate_left
      · obtain ⟨s1, s2, s3, s4, s5⟩ := hS1
        go_simp
        rfl
      simp only [Act.put, List.setIfInBounds_toArray, List.set_cons_zero, List.set_cons_succ]
      refine wpAnyH_take (i := 1) (v := ?_) rfl (by kernel_rfl) (by kernel_rfl) (by kernel_rfl) (fun _ _ _ h => h) (.inl ⟨rfl, fun w1 hS1 => ?_⟩) hS ?_
      rotate_left
      · obtain ⟨s1, s2, s3, s4, s5⟩ := hS1
        go_simp
        rfl
      simp only [Act.put, List.setIfInBounds_toArray, List.set_cons_zero, List.set_cons_succ]
      refine wpAnyH_take (i := 2) (v := ?_) rfl (by kernel_rfl) (by kernel_rfl) (by kernel_rfl) (fun _ _ _ h => h) (.inl ⟨rfl, fun w1 hS1 => ?_⟩) hS ?_
      rotate_left
      · obtain ⟨s1, s2, s3, s4, s5⟩ := hS1
        go_simp
        rfl
      simp only [Act.put, List.setIfInBounds_toArray, List.set_cons_zero, List.set_cons_succ]
      refine wpAnyH_take (i := 3) (v := ?_) rfl (by kernel_rfl) (by kernel_rfl) (by kernel_rfl) (fun _ _ _ h => h) (.inl ⟨rfl, fun w1 hS1 => ?_⟩) hS ?_
      rotate_left
      · obtain ⟨s1, s2, s3, s4, s5⟩ := hS1
        go_simp
        rfl
      simp only [Act.put, List.setIfInBounds_toArray, List.set_cons_zero, List.set_cons_succ]
      refine wpAnyH_take (i := 4) (v := ?_) rfl (by kernel_rfl) (by kernel_rfl) (by kernel_rfl) (fun _ _ _ h => h) (.inl ⟨rfl, fun w1 hS1 => ?_⟩) hS ?_
      rotate_left
      · obtain ⟨s1, s2, s3, s4, s5⟩ := hS1
        go_simp
        rfl
      simp only [Act.put, List.setIfInBounds_toArray, List.set_cons_zero, List.set_cons_succ]
      refine wpAnyH_take (i := 5) (v := ?_) rfl (by kernel_rfl) (by kernel_rfl) (by kernel_rfl) (fun _ _ _ h => h) (.inl ⟨rfl, fun w1 hS1 => ?_⟩) hS ?_
      rotate_left
      · obtain ⟨s1, s2, s3, s4, s5⟩ := hS1
        go_simp
        rfl
      simp only [Act.put, List.setIfInBounds_toArray, List.set_cons_zero, List.set_cons_succ]
      refine wpAnyH_take (i := 6) (v := ?_) rfl (by kernel_rfl) (by kernel_rfl) (by kernel_rfl) (fun _ _ _ h => h) (.inl ⟨rfl, fun w1 hS1 => ?_⟩) hS ?_
      rotate_left
      · obtain ⟨s1, s2, s3, s4, s5⟩ := hS1
        go_simp
        rfl
      simp only [Act.put, List.setIfInBounds_toArray, List.set_cons_zero, List.set_cons_succ]
      refine wpAnyH_take (i := 7) (v := ?_) rfl (by kernel_rfl) (by kernel_rfl) (by kernel_rfl) (fun _ _ _ h => h) (.inl ⟨rfl, fun w1 hS1 => ?_⟩) hS ?_
      rotate_left
      · obtain ⟨s1, s2, s3, s4, s5⟩ := hS1
        go_simp
        rfl
      simp only [Act.put, List.setIfInBounds_toArray, List.set_cons_zero, List.set_cons_succ]
      refine wpAnyH_take (i := 8) (v := ?_) rfl (by kernel_rfl) (by kernel_rfl) (by kernel_rfl) (fun _ _ _ h => h) (.inl ⟨rfl, fun w1 hS1 => ?_⟩) hS ?_
      rotate_left
      · obtain ⟨s1, s2, s3, s4, s5⟩ := hS1
        go_simp
        rfl
      simp only [Act.put, List.setIfInBounds_toArray, List.set_cons_zero, List.set_cons_succ]
      refine wpAnyH_take (i := 9) (v := ?_) rfl (by kernel_rfl) (by kernel_rfl) (by kernel_rfl) (fun _ _ _ h => h) (.inl ⟨rfl, fun w1 hS1 => ?_⟩) hS ?_
      rotate_left
      · obtain ⟨s1, s2, s3, s4, s5⟩ := hS1
        go_simp
        rfl
      simp only [Act.put, List.setIfInBounds_toArray, List.set_cons_zero, List.set_cons_succ]
      refine wpAnyH_take (i := 10) (v := ?_) rfl (by kernel_rfl) (by kernel_rfl) (by kernel_rfl) (fun _ _ _ h => h) (.inl ⟨rfl, fun w1 hS1 => ?_⟩) hS ?_
      rotate_left
      · obtain ⟨s1, s2, s3, s4, s5⟩ := hS1
        go_simp
        rfl
      simp only [Act.put, List.setIfInBounds_toArray, List.set_cons_zero, List.set_cons_succ]
      refine wpAnyH_take (i := 11) (v := ?_) rfl (by kernel_rfl) (by kernel_rfl) (by kernel_rfl) (fun _ _ _ h => h) (.inl ⟨rfl, fun w1 hS1 => ?_⟩) hS ?_
      rotate_left
      · obtain ⟨s1, s2, s3, s4, s5⟩ := hS1
        go_simp
        rfl
      simp only [Act.put, List.setIfInBounds_toArray, List.set_cons_zero, List.set_cons_succ]
      refine wpAnyH_take (i := 13) (v := ?_) rfl (by kernel_rfl) (by kernel_rfl) (by kernel_rfl) (fun _ _ _ h => h) (.inl ⟨rfl, fun w1 hS1 => ?_⟩) hS ?_
      rotate_left
      · obtain ⟨s1, s2, s3, s4, s5⟩ := hS1
        go_simp
        rfl
      simp only [Act.put, List.setIfInBounds_toArray, List.set_cons_zero, List.set_cons_succ]
      refine wpAnyH_take (i := 14) (v := ?_) rfl (by kernel_rfl) (by kernel_rfl) (by kernel_rfl) (fun _ _ _ h => h) (.inl ⟨rfl, fun w1 hS1 => ?_⟩) hS ?_
      rotate_left
      · obtain ⟨s1, s2, s3, s4, s5⟩ := hS1
        go_simp
        rfl
      simp only [Act.put, List.setIfInBounds_toArray, List.set_cons_zero, List.set_cons_succ]
      refine wpAnyH_ready (rs := [12]) (by kernel_rfl) (by simp) ?_
      refine AllReadyH.cons rfl (fun K hK => ?_) ?_
      · go_simp
        refine (farthest_any bb liveB (fo sp x) reachB _ llb (lfo sp x) W.drew.drew (i3.of_block rfl) (i5.of_block rfl)).mono ?_
        rintro e w' ⟨rfl, hfr⟩
        have hfr : Fr [] W w' := ⟨hfr.os, hfr.tape, hfr.output, hfr.size, hfr.block⟩
        have j := FillI.kept ⟨i1, i2, i3, i4, i5, c0, c1, c2, c3, c4⟩ hfr
        have hS := And.intro j.b1 (And.intro j.b3 (And.intro j.b0 (And.intro j.b4 (j.pat.hf sp x sp4 hx))))
        have kc := j.here.hr x hx
        have kz := j.here.fz (1 + x) (by omega)
        refine hK _ _ hS ?_
        clear hK K
        intro _
        refine wpAnyH_take (i := 15) (v := ?_) rfl (by kernel_rfl) (by kernel_rfl) (by kernel_rfl) (fun _ _ _ h => h) (.inl ⟨rfl, fun w1 hS1 => ?_⟩) hS ?_
        rotate_left
        · go_simp
          rfl
        simp only [Act.put, List.setIfInBounds_toArray, List.set_cons_zero, List.set_cons_succ]
        refine wpAnyH_ready (rs := [16]) (by kernel_rfl) (by simp) ?_
        refine AllReadyH.cons rfl (fun K hK => ?_) AllReadyH.nil
        go_simp
        have hend := j.step hx (least := _) (by rw [hl]) n1 n2 n4 hlt
        refine hK _ _ ⟨hend.b1, hend.b3, hend.b0, hend.b4, hend.pat.hf sp x sp4 hx⟩ ?_
        clear hK K
        intro _
        refine wpAnyH_done (by kernel_rfl) ?_ _
        refine ⟨KeepsFrom.trans (hfr.keeps _) ((KeepsOthers.setCell _ _ _).from _), trivial, hend⟩
      · exact AllReadyH.nil
  case done =>
    rintro D W hD hi hK
    gi_wp2
    refine ⟨by simp, .inl ⟨_, _, rfl, run_takeDeferred hK, ?_⟩⟩
    have hD1 : hb ≠ D := by rintro rfl; have h7 := hi.here.h0; unfold World.cell? at h7; rw [hK] at h7; simp at h7
    refine ⟨_, results_none rfl _ _ _, rfl, ?_, ?_⟩
    · exact (hi.here.of_block (World.putObj_heap_other hD1)).congr (fun a ha => by simp [fillF, mem_bitsOf, show a < 64 by omega, hsp])
    · exact hi.fr.grown (grownBy_putObj' W D (.deferred none)) (fun r e => by cases e; omega)

end Go.Proofs.YticaoekmlaipnaaDoor
