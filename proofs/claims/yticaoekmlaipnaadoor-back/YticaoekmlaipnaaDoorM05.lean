/-
  The pattern's tie: each of the atoms to come behind each of the atoms from.
-/
import Derived.Test.YticaoekmlaipnaaDoorM04
import Derived.Test.YticaoekmlaipnaaDoorRows
import Derived.WalkKit
import Derived.WalkSpells
import Derived.WalkLawsBesides
import Derived.BigQuiet
import Derived.Deep.QuietTactic
set_option linter.unusedSimpArgs false
set_option linter.unusedVariables false
namespace Go.Proofs.YticaoekmlaipnaaDoor
open Go.RowKit Go.Shelf

attribute [local go_sem] Oper.semAt_some

/-- What follows, behind a tie. -/
def tieF (fo : Nat → Nat → Nat) (sp src dst : Nat) : Nat → Nat → Nat := fun s a => if s = sp ∧ src.testBit a = true then fo s a ||| dst else fo s a
def tieL (fo : Nat → Nat → Nat) (sp dst : Nat) (pre : List Nat) : Nat → Nat → Nat := fun s a => if s = sp ∧ a ∈ pre then fo s a ||| dst else fo s a

theorem bit_lt {src x k : Nat} (h : src < 2 ^ k) (hb : src.testBit x = true) : x < k := by
  apply Nat.lt_of_not_le
  intro hle
  have h1 : 2 ^ x ≤ src := Nat.ge_two_pow_of_testBit hb
  have h2 : 2 ^ k ≤ 2 ^ x := Nat.pow_le_pow_right (by decide) hle
  omega

theorem tieL_lt {fo : Nat → Nat → Nat} {sp dst : Nat} {pre : List Nat} (hfo : ∀ s a, fo s a < 18446744073709551616) (hdst : dst < 18446744073709551616) (s a : Nat) : tieL fo sp dst pre s a < 18446744073709551616 := by
  unfold tieL
  split
  · exact Nat.or_lt_two_pow (n := 64) (hfo s a) hdst
  · exact hfo s a

theorem tieL_step (fo : Nat → Nat → Nat) (sp dst : Nat) (pre : List Nat) (x : Nat) :
    (fun s' a' => if s' = sp ∧ a' = x then tieL fo sp dst pre sp x ||| dst else tieL fo sp dst pre s' a') = tieL fo sp dst (pre ++ [x]) := by
  funext s a
  by_cases h1 : s = sp
  · subst h1
    by_cases h2 : a = x
    · subst h2
      simp only [and_self, if_true, tieL, true_and, List.mem_append, List.mem_singleton, or_true]
      split
      · rw [Nat.or_assoc, Nat.or_self]
      · rfl
    · simp [tieL, h2]
  · simp [tieL, h1]

theorem tieL_end (fo : Nat → Nat → Nat) (sp src dst : Nat) (s a : Nat) (ha : a < 50) : tieL fo sp dst (bitsOf src) s a = tieF fo sp src dst s a := by
  simp [tieL, tieF, mem_bitsOf, show a < 64 by omega]

/-- What the loop's rounds keep. -/
structure TieI (w : World) (pb sp dst : Nat) (wh : Nat → Value) (tk : Nat → Nat) (fo : Nat → Nat → Nat) (pre : List Nat) (W : World) : Prop where
  pat : PatAt W pb wh tk (tieL fo sp dst pre)
  fr : Fr [pb] w W
  tab : Tab W
  b0 : W.cell? ⟨w.heap.size, 0, none⟩ = some (.pointer (some ⟨pb, 0, none⟩))
  b1 : W.cell? ⟨w.heap.size + 1, 0, none⟩ = some (.int .i64 sp)
  b2 : W.cell? ⟨w.heap.size + 1 + 1, 0, none⟩ = some (.int .u64 dst)

theorem Fr.grown {S : List Nat} {a W W' : World} {row : Option Nat} (h : Fr S a W) (hg : W.grownBy W' row) (hr : ∀ r, row = some r → a.heap.size ≤ r) : Fr S a W' :=
  ⟨hg.os.trans h.os, hg.tape.trans h.tape, hg.output.trans h.output, Nat.le_trans h.size hg.size, fun k hk hn =>
    (hg.block k (Nat.lt_of_lt_of_le hk h.size) (fun e => by have := hr k e.symm; omega)).trans (h.block k hk hn)⟩

theorem TieI.own (w : World) (pb sp dst : Nat) (wh : Nat → Value) (tk : Nat → Nat) (fo : Nat → Nat → Nat) (B : Nat) (hB : w.heap.size ≤ B) : OwnFrom B (TieI w pb sp dst wh tk fo) := by
  rintro pre W W' row ⟨h1, h2, h3, h4, h5, h6⟩ hg hr
  have hr' := fun r e => (hr r e).2
  exact ⟨h1.of_block (block_kept (a := ⟨pb, 12, none⟩) (h1.ht 0 (by decide)) hg hr'), h2.grown hg (fun r e => Nat.le_trans hB (hr r e).1), h3.of_block (block_kept (a := ⟨0, 0, none⟩) (h3 0 (by decide)) hg hr'),
    cell_kept h4 hg hr', cell_kept h5 hg hr', cell_kept h6 hg hr'⟩

set_option maxRecDepth 100000 in
set_option maxHeartbeats 1000000 in
theorem tie_any (pb sp src dst : Nat) (hsp : sp < 4) (hsrc : src < 1125899906842624) (hdst : dst < 18446744073709551616) (w : World) (wh : Nat → Value) (tk : Nat → Nat) (fo : Nat → Nat → Nat)
    (hP : PatAt w pb wh tk fo) (hfo : ∀ s a, fo s a < 18446744073709551616) (hT : Tab w) (hpb : pb ≠ 0) :
    Calls Tryd.prog 94 #[.pointer (some ⟨pb, 0, none⟩), .int .i64 sp, .int .u64 src, .int .u64 dst] w fun e w' => e = .returned (.tuple #[]) ∧ PatAt w' pb wh tk (tieF fo sp src dst) ∧ Fr [pb] w w' := by
  refine (callsIn_wide (n := 4)).1 ?_
  refine callsIn_of_wp_marks Tryd.func94 rfl trivial ?_ rfl
  simp only [Tryd.ntmps94, List.size_toArray, List.length_cons, List.length_nil, Nat.reduceAdd, Nat.reduceSub, Array.replicate_succ, Array.replicate_zero, List.push_toArray, List.append_toArray, List.nil_append, List.cons_append]
  gi_wp2
  obtain ⟨W0, hW0⟩ : ∃ W0, (((w.alloc (Obj.cells #[Value.pointer (some { block := pb, off := 0 })] 55)).alloc (Obj.cells #[Value.int IntKind.i64 sp] 3)).alloc (Obj.cells #[Value.int IntKind.u64 dst] 69)) = W0 := ⟨_, rfl⟩
  have hI0 : TieI w pb sp dst wh tk fo [] W0 := by
    have hfr : Fr [pb] w W0 := by rw [← hW0]; exact (((Fr.refl _ _).alloc _).alloc _).alloc _
    have hfr' : Fr [] w W0 := by rw [← hW0]; exact (((Fr.refl _ _).alloc _).alloc _).alloc _
    refine ⟨(hP.fr hfr' (by simp)).congr (fun _ _ => rfl) (fun s a _ _ => by simp [tieL]), hfr, hT.fr hfr' (by simp), ?_, ?_, ?_⟩
    · rw [← hW0, World.cell?_alloc_past _ _ _ (by simp; omega), World.cell?_alloc_past _ _ _ (by simp)]; exact cell_new _ _ _
    · rw [← hW0, World.cell?_alloc_past _ _ _ (by simp)]
      have := cell_new (w.alloc (Obj.cells #[Value.pointer (some { block := pb, off := 0 })] 55)) (Value.int IntKind.i64 sp) 3
      rwa [World.size_alloc] at this
    · rw [← hW0]
      have := cell_new ((w.alloc (Obj.cells #[Value.pointer (some { block := pb, off := 0 })] 55)).alloc (Obj.cells #[Value.int IntKind.i64 sp] 3)) (Value.int IntKind.u64 dst) 69
      rwa [World.size_alloc, World.size_alloc] at this
  have hs0 : W0.heap.size = w.heap.size + 3 := by rw [← hW0]; simp
  rw [hW0]
  clear hW0
  refine wp_range_set src (by omega) rfl (TieI w pb sp dst wh tk fo) (TieI.own _ _ _ _ _ _ _ _ (by omega)) (fun pre W h => h.tab) hI0
    (fun x => { tmps := #[Value.pointer (some { block := pb, off := 0 }), Value.int IntKind.i64 sp, Value.int IntKind.u64 src,
          Value.int IntKind.u64 dst, Value.pointer (some { block := w.heap.size, off := 0 }),
          Value.pointer (some { block := w.heap.size + 1, off := 0 }), undef,
          Value.pointer (some { block := w.heap.size + 1 + 1, off := 0 }), Value.int .i64 x, Value.int IntKind.u64 src,
          Value.func (Fn.func 85) #[Value.int IntKind.u64 src] #[], Value.int .i64 x, undef, undef, undef, undef, undef, undef,
          undef, undef, undef, undef, undef, undef, undef, undef], defers := [] }) ?assign ?body ?done
  case assign =>
    intro l x W K hK
    gi_wp2
    exact hK
  case body =>
    rintro l pre x rest W hi hbits
    have hx : x < 50 := bit_lt (k := 50) (by simpa using hsrc) (mem_bitsOf.1 (by rw [hbits]; simp)).2
    obtain ⟨h1, h2, h3, h4, h5, h6⟩ := hi
    have hc := h1.hf sp x hsp hx
    have hz := h1.fz (268 + sp * 50 + x) (by omega)
    have g1 : (sp : Int) < 4 := by omega
    have g2 : (x : Int) < 50 := by omega
    have hm : Tryd.prog.follows Departure.mixedOrders = true := by kernel_rfl
    gi_wp2
    refine wpIn_region_tail_round 14 hm (by kernel_rfl) (by kernel_rfl) (by rintro ⟨a, w, h⟩; exact h) ?_
    simp only [List.take_succ_cons, List.take_zero, List.drop_succ_cons, List.drop_zero]
    repeat still_step
    refine wpStill_nil ?_
    go_wp2
    have hlt := tieL_lt (sp := sp) (pre := pre) hfo hdst sp x
    rw [bits_or_u64_nat _ _ hlt hdst]
    refine ⟨KeepsFrom.trans ((KeepsOthers.setCell _ _ _).from _) ((KeepsOthers.drew _).from _), trivial, ?_⟩
    have hset := (h1.setFollow sp x hsp hx (tieL fo sp dst pre sp x ||| dst))
    rw [tieL_step] at hset
    have hlt2 := hP.lt
    exact ⟨hset.of_block rfl, (h2.setCell (p := ⟨pb, 268 + sp * 50 + x, none⟩) (.inl (by simp)) _).drew, h3.of_block (Below.heap_setCell W ⟨pb, 268 + sp * 50 + x, none⟩ _ 0 (fun e => hpb e.symm)),
      (setCell_far (by omega)).trans h4, (setCell_far (by omega)).trans h5, (setCell_far (by omega)).trans h6⟩
  case done =>
    rintro D W hD hi hK
    gi_wp2
    refine ⟨by simp, .inl ⟨_, _, rfl, run_takeDeferred hK, ?_⟩⟩
    obtain ⟨h1, h2, h3, h4, h5, h6⟩ := hi
    have hD1 : pb ≠ D := by rintro rfl; have := h1.lt; have h7 := h1.ht 0 (by decide); unfold World.cell? at h7; rw [hK] at h7; simp at h7
    refine ⟨_, results_none rfl _ _ _, rfl, ?_, ?_⟩
    · exact (h1.of_block (World.putObj_heap_other hD1)).congr (fun _ _ => rfl) (fun s a _ ha => tieL_end fo sp src dst s a ha)
    · exact h2.grown (grownBy_putObj' W D (.deferred none)) (fun r e => by cases e; omega)

end Go.Proofs.YticaoekmlaipnaaDoor

namespace Go.Proofs.YticaoekmlaipnaaDoor
open Go.RowKit Go.Shelf

attribute [local go_sem] Oper.semAt_some

/-- The cells of a row. -/
structure RowAt (w : World) (rb live : Nat) (reach : Nat → Int) : Prop where
  h0 : w.cell? ⟨rb, 0, none⟩ = some (.int .u64 live)
  hr : ∀ a, a < 50 → w.cell? ⟨rb, 1 + a, none⟩ = some (.int .i64 (reach a))
  fz : ∀ i, i < 51 → w.frozen? ⟨rb, i, none⟩ = false

theorem RowAt.lt {w : World} {rb live : Nat} {reach : Nat → Int} (h : RowAt w rb live reach) : rb < w.heap.size := lt_of_cell (a := ⟨rb, 0, none⟩) h.h0
theorem RowAt.of_block {w w' : World} {rb live : Nat} {reach : Nat → Int} (h : RowAt w rb live reach) (hb : w'.heap[rb]? = w.heap[rb]?) : RowAt w' rb live reach :=
  ⟨(World.cell?_of_block (w := w) (a := ⟨rb, 0, none⟩) hb).trans h.h0, fun a ha => (World.cell?_of_block (w := w) (a := ⟨rb, 1 + a, none⟩) hb).trans (h.hr a ha), fun i hi => (World.frozen?_of_block (w := w) (a := ⟨rb, i, none⟩) hb).trans (h.fz i hi)⟩
theorem RowAt.fr {S : List Nat} {w w' : World} {rb live : Nat} {reach : Nat → Int} (h : RowAt w rb live reach) (hf : Fr S w w') (h0 : rb ∉ S) : RowAt w' rb live reach := h.of_block (hf.block rb h.lt h0)
theorem RowAt.congr {w : World} {rb live : Nat} {reach reach' : Nat → Int} (h : RowAt w rb live reach) (hr : ∀ a, a < 50 → reach a = reach' a) : RowAt w rb live reach' :=
  ⟨h.h0, fun a ha => by rw [← hr a ha]; exact h.hr a ha, h.fz⟩

/-- The greatest end among those of the atoms, and least. -/
def farF (reach : Nat → Int) (least : Int) (l : List Nat) : Int := l.foldl (fun m a => max m (reach a)) least
theorem farF_snoc (reach : Nat → Int) (least : Int) (l : List Nat) (x : Nat) : farF reach least (l ++ [x]) = max (farF reach least l) (reach x) := by simp [farF]

structure FarI (w : World) (rb live : Nat) (reach : Nat → Int) (least : Int) (pre : List Nat) (W : World) : Prop where
  row : RowAt W rb live reach
  fr : Fr [] w W
  tab : Tab W
  b0 : W.cell? ⟨w.heap.size, 0, none⟩ = some (.pointer (some ⟨rb, 0, none⟩))
  b1 : W.cell? ⟨w.heap.size + 1, 0, none⟩ = some (.int .i64 (farF reach least pre))
  f1 : W.frozen? ⟨w.heap.size + 1, 0, none⟩ = false

theorem FarI.own (w : World) (rb live : Nat) (reach : Nat → Int) (least : Int) (B : Nat) (hB : w.heap.size ≤ B) : OwnFrom B (FarI w rb live reach least) := by
  rintro pre W W' row ⟨h1, h2, h3, h4, h5, h6⟩ hg hr
  have hr' := fun r e => (hr r e).2
  exact ⟨h1.of_block (block_kept (a := ⟨rb, 0, none⟩) h1.h0 hg hr'), h2.grown hg (fun r e => Nat.le_trans hB (hr r e).1), h3.of_block (block_kept (a := ⟨0, 0, none⟩) (h3 0 (by decide)) hg hr'),
    cell_kept h4 hg hr', cell_kept h5 hg hr', (frozen_kept h5 hg hr').trans h6⟩

theorem FarI.step {w : World} {rb live : Nat} {reach : Nat → Int} {least : Int} {pre : List Nat} {W : World} (h : FarI w rb live reach least pre W) (hrb : rb < w.heap.size) {x : Nat} {v : Int} (hv : v = max (farF reach least pre) (reach x)) :
    FarI w rb live reach least (pre ++ [x]) (W.setCell ⟨w.heap.size + 1, 0, none⟩ (.int .i64 v)).drew := by
  obtain ⟨h1, h2, h3, h4, h5, h6⟩ := h
  have h0 := h2.size
  refine ⟨h1.of_block (Below.heap_setCell W ⟨w.heap.size + 1, 0, none⟩ _ rb (by simp; omega)), (h2.setCell (p := ⟨w.heap.size + 1, 0, none⟩) (.inr (by simp)) _).drew,
    h3.of_block (Below.heap_setCell W ⟨w.heap.size + 1, 0, none⟩ _ 0 (by simp)), (setCell_far (by omega)).trans h4, ?_, ?_⟩
  · rw [farF_snoc, ← hv]; exact World.cell?_setCell_same' _ _ _ (by rw [h5]; rfl)
  · exact (World.frozen?_setCell _ _ _ _).trans h6

set_option maxRecDepth 100000 in
set_option maxHeartbeats 1000000 in
theorem farthest_any (rb live atoms : Nat) (reach : Nat → Int) (least : Int) (hlive : live < 1125899906842624) (hatoms : atoms < 18446744073709551616) (w : World)
    (hP : RowAt w rb live reach) (hT : Tab w) :
    Calls Tryd.prog 57 #[.pointer (some ⟨rb, 0, none⟩), .int .u64 atoms, .int .i64 least] w fun e w' => e = .returned (.int .i64 (farF reach least (bitsOf (atoms &&& live)))) ∧ Fr [] w w' := by
  have hand : atoms &&& live < 1125899906842624 := Nat.lt_of_le_of_lt Nat.and_le_right hlive
  have h0 := hP.h0
  have eand := bits_and_u64_nat atoms live hatoms (by omega)
  refine (callsIn_wide (n := 4)).1 ?_
  refine callsIn_of_wp_marks Tryd.func57 rfl trivial ?_ rfl
  simp only [Tryd.ntmps57, List.size_toArray, List.length_cons, List.length_nil, Nat.reduceAdd, Nat.reduceSub, Array.replicate_succ, Array.replicate_zero, List.push_toArray, List.append_toArray, List.nil_append, List.cons_append]
  have hrb := hP.lt
  gi_wp2
  obtain ⟨W0, hW0⟩ : ∃ W0, ((w.alloc (Obj.cells #[Value.pointer (some { block := rb, off := 0 })] 102)).alloc (Obj.cells #[Value.int IntKind.i64 least] 3)) = W0 := ⟨_, rfl⟩
  have hI0 : FarI w rb live reach least [] W0 := by
    have hfr : Fr [] w W0 := by rw [← hW0]; exact ((Fr.refl _ _).alloc _).alloc _
    have hc := cell_new (w.alloc (Obj.cells #[Value.pointer (some { block := rb, off := 0 })] 102)) (Value.int IntKind.i64 least) 3
    have hz := frozen_new (w.alloc (Obj.cells #[Value.pointer (some { block := rb, off := 0 })] 102)) (Value.int IntKind.i64 least) 3
    rw [World.size_alloc] at hc hz
    refine ⟨hP.fr hfr (by simp), hfr, hT.fr hfr (by simp), ?_, ?_, ?_⟩
    · rw [← hW0, World.cell?_alloc_past _ _ _ (by simp)]; exact cell_new _ _ _
    · rw [← hW0]; exact hc
    · rw [← hW0]; exact hz
  have hs0 : W0.heap.size = w.heap.size + 2 := by rw [← hW0]; simp
  rw [hW0]
  clear hW0
  refine wp_range_set (atoms &&& live) (by omega) rfl (FarI w rb live reach least) (FarI.own _ _ _ _ _ _ (by omega)) (fun pre W h => h.tab) hI0
    (fun x => { tmps := #[Value.pointer (some { block := rb, off := 0 }), Value.int IntKind.u64 atoms, Value.int IntKind.i64 least,
          Value.pointer (some { block := w.heap.size, off := 0 }), undef,
          Value.pointer (some { block := w.heap.size + 1, off := 0 }), Value.int IntKind.i64 0, Value.int .i64 x,
          Value.int IntKind.u64 atoms, Value.pointer (some { block := rb, off := 0 }),
          Value.pointer (some { block := rb, off := 0 }), Value.pointer (some { block := rb, off := 0 }), Value.int .u64 live, Value.int .u64 (atoms &&& live : Nat),
          Value.func (Fn.func 85) #[Value.int IntKind.u64 (atoms &&& live : Nat)] #[], Value.int .i64 x, undef, undef, undef, undef, undef, undef, undef, undef, undef], defers := [] }) ?assign ?body ?done
  case assign =>
    intro l x W K hK
    gi_wp2
    exact hK
  case body =>
    rintro l pre x rest W hi hbits
    have hx : x < 50 := bit_lt (k := 50) (by simpa using hand) (mem_bitsOf.1 (by rw [hbits]; simp)).2
    obtain ⟨h1, h2, h3, h4, h5, h6⟩ := hi
    have hc := h1.hr x hx
    have g2 : (x : Int) < 50 := by omega
    have hm : Tryd.prog.follows Departure.mixedOrders = true := by kernel_rfl
    gi_wp2
    refine wpIn_region_tail_round 8 hm (by kernel_rfl) (by kernel_rfl) (by rintro ⟨a, w, h⟩; exact h) ?_
    simp only [List.take_succ_cons, List.take_zero, List.drop_succ_cons, List.drop_zero]
    repeat still_step
    refine wpStill_nil ?_
    go_wp2
    all_goals
      refine ⟨KeepsFrom.trans ((KeepsOthers.setCell _ _ _).from _) ((KeepsOthers.drew _).from _), trivial, FarI.step ⟨h1, h2, h3, h4, h5, h6⟩ hrb ?_⟩
      omega
  case done =>
    rintro D W hD hi hK
    obtain ⟨h1, h2, h3, h4, h5, h6⟩ := hi
    gi_wp2
    refine ⟨by simp, .inl ⟨_, _, rfl, run_takeDeferred hK, ?_⟩⟩
    refine ⟨_, results_tmp rfl _ _ _, rfl, ?_⟩
    exact h2.grown (grownBy_putObj' W D (.deferred none)) (fun r e => by cases e; omega)

end Go.Proofs.YticaoekmlaipnaaDoor

namespace Go.Proofs.YticaoekmlaipnaaDoor
open Go.RowKit

/-- which spot a place is. -/
def spotF (place length : Int) : Int := (if place = 0 then 1 else 0) + (if place = length then 2 else 0)

set_option maxHeartbeats 400000 in
theorem spotOf_any (p l : Int) (w : World) :
    Calls Tryd.prog 56 #[.int .i64 p, .int .i64 l] w fun e w' => e = .returned (.int .i64 (spotF p l)) ∧ w' = w := by
  unfold spotF
  by_cases h1 : p = 0
  · subst h1
    by_cases h2 : 0 = l
    · subst h2
      go_enter Tryd.func56, Tryd.ntmps56
      go_wp2
      go_ret
      exact ⟨rfl, rfl⟩
    · have h3 : ((0:Int) == l) = false := by simpa using h2
      go_enter Tryd.func56, Tryd.ntmps56
      go_wp2
      go_ret
      exact ⟨by simp [h2], rfl⟩
  · have h3 : ((p:Int) == 0) = false := by simpa using h1
    by_cases h2 : p = l
    · subst h2
      go_enter Tryd.func56, Tryd.ntmps56
      go_wp2
      go_ret
      exact ⟨by simp [h1], rfl⟩
    · have h4 : ((p:Int) == l) = false := by simpa using h2
      go_enter Tryd.func56, Tryd.ntmps56
      go_wp2
      go_ret
      exact ⟨by simp [h1, h2], rfl⟩

theorem wrap64_byte (b : UInt8) : wrap64 (b.toNat : Int) = (b.toNat : Int) := by
  have := b.toNat_lt
  unfold wrap64; omega

/-- The reader's cells. -/
structure RdAt (w : World) (r : Nat) (text : ByteArray) (at_ : Int) (fault : Bool) (atoms : Int) (pb : Nat) : Prop where
  c0 : w.cell? ⟨r, 0, none⟩ = some (.string text)
  c1 : w.cell? ⟨r, 1, none⟩ = some (.int .i64 at_)
  c2 : w.cell? ⟨r, 2, none⟩ = some (.bool fault)
  c3 : w.cell? ⟨r, 3, none⟩ = some (.int .i64 atoms)
  c4 : w.cell? ⟨r, 4, none⟩ = some (.pointer (some ⟨pb, 0, none⟩))
  f1 : w.frozen? ⟨r, 1, none⟩ = false
  f2 : w.frozen? ⟨r, 2, none⟩ = false
  f3 : w.frozen? ⟨r, 3, none⟩ = false

set_option maxHeartbeats 400000 in
theorem fail_any (r : Nat) (text : ByteArray) (at_ : Int) (fault : Bool) (atoms : Int) (pb : Nat) (w : World) (h : RdAt w r text at_ fault atoms pb) :
    Calls Tryd.prog 105 #[.pointer (some ⟨r, 0, none⟩)] w fun e w' => e = .returned (.tuple #[]) ∧ w' = w.setCell ⟨r, 2, none⟩ (.bool true) := by
  obtain ⟨c0, c1, c2, c3, c4, f1, f2, f3⟩ := h
  go_enter Tryd.func105, Tryd.ntmps105
  go_wp2
  go_end0
  exact ⟨rfl, rfl⟩

set_option maxHeartbeats 400000 in
theorem peek_fault (r : Nat) (text : ByteArray) (at_ : Int) (atoms : Int) (pb : Nat) (w : World) (h : RdAt w r text at_ true atoms pb) :
    Calls Tryd.prog 82 #[.pointer (some ⟨r, 0, none⟩)] w fun e w' => e = .returned (.int .i64 (-1)) ∧ ∃ n, w' = w.drewN n := by
  obtain ⟨c0, c1, c2, c3, c4, f1, f2, f3⟩ := h
  go_enter Tryd.func82, Tryd.ntmps82
  go_wp2
  go_quiet (fail)
  go_wp2
  go_ret
  exact ⟨rfl, _, rfl⟩

set_option maxHeartbeats 400000 in
theorem peek_end (r : Nat) (text : ByteArray) (at_ : Int) (atoms : Int) (pb : Nat) (w : World) (h : RdAt w r text at_ false atoms pb) (hs : text.size ≤ 1000) (ha : (text.size : Int) ≤ at_) :
    Calls Tryd.prog 82 #[.pointer (some ⟨r, 0, none⟩)] w fun e w' => e = .returned (.int .i64 (-1)) ∧ ∃ n, w' = w.drewN n := by
  obtain ⟨c0, c1, c2, c3, c4, f1, f2, f3⟩ := h
  go_enter Tryd.func82, Tryd.ntmps82
  go_wp2
  go_quiet (fail)
  go_wp2
  go_ret
  exact ⟨rfl, _, rfl⟩

set_option maxHeartbeats 400000 in
theorem peek_byte (r : Nat) (text : ByteArray) (k : Nat) (atoms : Int) (pb : Nat) (w : World) (h : RdAt w r text k false atoms pb) (hs : text.size ≤ 1000) (ha : k < text.size) :
    Calls Tryd.prog 82 #[.pointer (some ⟨r, 0, none⟩)] w fun e w' => e = .returned (.int .i64 (text[k].toNat : Int)) ∧ ∃ n, w' = w.drewN n := by
  obtain ⟨c0, c1, c2, c3, c4, f1, f2, f3⟩ := h
  have hd : decide ((text.size : Int) ≤ (k : Int)) = false := by simp; omega
  have hl : (k : Int) < text.size := by omega
  go_enter Tryd.func82, Tryd.ntmps82
  go_wp2
  go_quiet (fail)
  go_wp2
  go_quiet (fail)
  go_wp2
  go_ret
  exact ⟨congrArg (fun x => Ending.returned (Value.int .i64 x)) (wrap64_byte _), _, World.drewN_drewN _ _ _⟩

end Go.Proofs.YticaoekmlaipnaaDoor

