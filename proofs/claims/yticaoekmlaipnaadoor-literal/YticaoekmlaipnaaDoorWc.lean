/-
  The pattern's tie: each of the atoms to come behind each of the atoms from.
-/
import Derived.Test.YticaoekmlaipnaaDoorWb
import Derived.Test.YticaoekmlaipnaaDoorRr
set_option linter.unusedSimpArgs false
set_option linter.unusedVariables false
namespace Go.Proofs.YticaoekmlaipnaaDoor
open Go.RowKit Go.Shelf

attribute [local go_sem] Oper.semAt_some

/-- What follows, behind a tie. -/
def tieF (fo : Nat → Nat → Nat) (sp src dst : Nat) : Nat → Nat → Nat := fun s a => if s = sp ∧ src.testBit a = true then fo s a ||| dst else fo s a
def tieL (fo : Nat → Nat → Nat) (sp dst : Nat) (pre : List Nat) : Nat → Nat → Nat := fun s a => if s = sp ∧ a ∈ pre then fo s a ||| dst else fo s a

theorem bit_lt {src x k : Nat} (h : src < 2 ^ k) (hb : src.testBit x = true) : x < k := by
  apply Nat.lt_of_not_le
  intro hle
  have h1 : 2 ^ x ≤ src := Nat.ge_two_pow_of_testBit hb
  have h2 : 2 ^ k ≤ 2 ^ x := Nat.pow_le_pow_right (by decide) hle
  omega

theorem tieL_lt {fo : Nat → Nat → Nat} {sp dst : Nat} {pre : List Nat} (hfo : ∀ s a, fo s a < 18446744073709551616) (hdst : dst < 18446744073709551616) (s a : Nat) : tieL fo sp dst pre s a < 18446744073709551616 := by
  unfold tieL
  split
  · exact Nat.or_lt_two_pow (n := 64) (hfo s a) hdst
  · exact hfo s a

theorem tieL_step (fo : Nat → Nat → Nat) (sp dst : Nat) (pre : List Nat) (x : Nat) :
    (fun s' a' => if s' = sp ∧ a' = x then tieL fo sp dst pre sp x ||| dst else tieL fo sp dst pre s' a') = tieL fo sp dst (pre ++ [x]) := by
  funext s a
  by_cases h1 : s = sp
  · subst h1
    by_cases h2 : a = x
    · subst h2
      simp only [and_self, if_true, tieL, true_and, List.mem_append, List.mem_singleton, or_true]
      split
      · rw [Nat.or_assoc, Nat.or_self]
      · rfl
    · simp [tieL, h2]
  · simp [tieL, h1]

theorem tieL_end (fo : Nat → Nat → Nat) (sp src dst : Nat) (s a : Nat) (ha : a < 50) : tieL fo sp dst (bitsOf src) s a = tieF fo sp src dst s a := by
  simp [tieL, tieF, mem_bitsOf, show a < 64 by omega]

/-- What the loop's rounds keep. -/
structure TieI (w : World) (pb sp dst : Nat) (wh : Nat → Value) (tk : Nat → Nat) (fo : Nat → Nat → Nat) (pre : List Nat) (W : World) : Prop where
  pat : PatAt W pb wh tk (tieL fo sp dst pre)
  fr : Fr [pb] w W
  tab : Tab W
  b0 : W.cell? ⟨w.heap.size, 0, none⟩ = some (.pointer (some ⟨pb, 0, none⟩))
  b1 : W.cell? ⟨w.heap.size + 1, 0, none⟩ = some (.int .i64 sp)
  b2 : W.cell? ⟨w.heap.size + 1 + 1, 0, none⟩ = some (.int .u64 dst)

theorem Fr.grown {S : List Nat} {a W W' : World} {row : Option Nat} (h : Fr S a W) (hg : W.grownBy W' row) (hr : ∀ r, row = some r → a.heap.size ≤ r) : Fr S a W' :=
  ⟨hg.os.trans h.os, hg.tape.trans h.tape, hg.output.trans h.output, Nat.le_trans h.size hg.size, fun k hk hn =>
    (hg.block k (Nat.lt_of_lt_of_le hk h.size) (fun e => by have := hr k e.symm; omega)).trans (h.block k hk hn)⟩

theorem TieI.own (w : World) (pb sp dst : Nat) (wh : Nat → Value) (tk : Nat → Nat) (fo : Nat → Nat → Nat) (B : Nat) (hB : w.heap.size ≤ B) : OwnFrom B (TieI w pb sp dst wh tk fo) := by
  rintro pre W W' row ⟨h1, h2, h3, h4, h5, h6⟩ hg hr
  have hr' := fun r e => (hr r e).2
  exact ⟨h1.of_block (block_kept (a := ⟨pb, 12, none⟩) (h1.ht 0 (by decide)) hg hr'), h2.grown hg (fun r e => Nat.le_trans hB (hr r e).1), h3.of_block (block_kept (a := ⟨0, 0, none⟩) (h3 0 (by decide)) hg hr'),
    cell_kept h4 hg hr', cell_kept h5 hg hr', cell_kept h6 hg hr'⟩

set_option maxRecDepth 100000 in
set_option maxHeartbeats 1000000 in
theorem tie_any (pb sp src dst : Nat) (hsp : sp < 4) (hsrc : src < 1125899906842624) (hdst : dst < 18446744073709551616) (w : World) (wh : Nat → Value) (tk : Nat → Nat) (fo : Nat → Nat → Nat)
    (hP : PatAt w pb wh tk fo) (hfo : ∀ s a, fo s a < 18446744073709551616) (hT : Tab w) (hpb : pb ≠ 0) :
    Calls Tryd.prog 94 #[.pointer (some ⟨pb, 0, none⟩), .int .i64 sp, .int .u64 src, .int .u64 dst] w fun e w' => e = .returned (.tuple #[]) ∧ PatAt w' pb wh tk (tieF fo sp src dst) ∧ Fr [pb] w w' := by
  refine (callsIn_wide (n := 4)).1 ?_
  refine callsIn_of_wp_marks Tryd.func94 rfl trivial ?_ rfl
  simp only [Tryd.ntmps94, List.size_toArray, List.length_cons, List.length_nil, Nat.reduceAdd, Nat.reduceSub, Array.replicate_succ, Array.replicate_zero, List.push_toArray, List.append_toArray, List.nil_append, List.cons_append]
  gi_wp2
  obtain ⟨W0, hW0⟩ : ∃ W0, (((w.alloc (Obj.cells #[Value.pointer (some { block := pb, off := 0 })] 55)).alloc (Obj.cells #[Value.int IntKind.i64 sp] 3)).alloc (Obj.cells #[Value.int IntKind.u64 dst] 69)) = W0 := ⟨_, rfl⟩
  have hI0 : TieI w pb sp dst wh tk fo [] W0 := by
    have hfr : Fr [pb] w W0 := by rw [← hW0]; exact (((Fr.refl _ _).alloc _).alloc _).alloc _
    have hfr' : Fr [] w W0 := by rw [← hW0]; exact (((Fr.refl _ _).alloc _).alloc _).alloc _
    refine ⟨(hP.fr hfr' (by simp)).congr (fun _ _ => rfl) (fun s a _ _ => by simp [tieL]), hfr, hT.fr hfr' (by simp), ?_, ?_, ?_⟩
    · rw [← hW0, World.cell?_alloc_past _ _ _ (by simp; omega), World.cell?_alloc_past _ _ _ (by simp)]; exact cell_new _ _ _
    · rw [← hW0, World.cell?_alloc_past _ _ _ (by simp)]
      have := cell_new (w.alloc (Obj.cells #[Value.pointer (some { block := pb, off := 0 })] 55)) (Value.int IntKind.i64 sp) 3
      rwa [World.size_alloc] at this
    · rw [← hW0]
      have := cell_new ((w.alloc (Obj.cells #[Value.pointer (some { block := pb, off := 0 })] 55)).alloc (Obj.cells #[Value.int IntKind.i64 sp] 3)) (Value.int IntKind.u64 dst) 69
      rwa [World.size_alloc, World.size_alloc] at this
  have hs0 : W0.heap.size = w.heap.size + 3 := by rw [← hW0]; simp
  rw [hW0]
  clear hW0
  refine wp_range_set src (by omega) rfl (TieI w pb sp dst wh tk fo) (TieI.own _ _ _ _ _ _ _ _ (by omega)) (fun pre W h => h.tab) hI0
    (fun x => { tmps := #[Value.pointer (some { block := pb, off := 0 }), Value.int IntKind.i64 sp, Value.int IntKind.u64 src,
          Value.int IntKind.u64 dst, Value.pointer (some { block := w.heap.size, off := 0 }),
          Value.pointer (some { block := w.heap.size + 1, off := 0 }), undef,
          Value.pointer (some { block := w.heap.size + 1 + 1, off := 0 }), Value.int .i64 x, Value.int IntKind.u64 src,
          Value.func (Fn.func 85) #[Value.int IntKind.u64 src] #[], Value.int .i64 x, undef, undef, undef, undef, undef, undef,
          undef, undef, undef, undef, undef, undef, undef, undef], defers := [] }) ?assign ?body ?done
  case assign =>
    intro l x W K hK
    gi_wp2
    exact hK
  case body =>
    rintro l pre x rest W hi hbits
    have hx : x < 50 := bit_lt (k := 50) (by simpa using hsrc) (mem_bitsOf.1 (by rw [hbits]; simp)).2
    obtain ⟨h1, h2, h3, h4, h5, h6⟩ := hi
    have hc := h1.hf sp x hsp hx
    have hz := h1.fz (268 + sp * 50 + x) (by omega)
    have g1 : (sp : Int) < 4 := by omega
    have g2 : (x : Int) < 50 := by omega
    have hm : Tryd.prog.follows Departure.mixedOrders = true := by kernel_rfl
    gi_wp2
    refine wpIn_region_tail_round 14 hm (by kernel_rfl) (by kernel_rfl) (by rintro ⟨a, w, h⟩; exact h) ?_
    simp only [List.take_succ_cons, List.take_zero, List.drop_succ_cons, List.drop_zero]
    repeat still_step
    refine wpStill_nil ?_
    go_wp2
    have hlt := tieL_lt (sp := sp) (pre := pre) hfo hdst sp x
    rw [bits_or_u64_nat _ _ hlt hdst]
    refine ⟨KeepsFrom.trans ((KeepsOthers.setCell _ _ _).from _) ((KeepsOthers.drew _).from _), trivial, ?_⟩
    have hset := (h1.setFollow sp x hsp hx (tieL fo sp dst pre sp x ||| dst))
    rw [tieL_step] at hset
    have hlt2 := hP.lt
    exact ⟨hset.of_block rfl, (h2.setCell (p := ⟨pb, 268 + sp * 50 + x, none⟩) (.inl (by simp)) _).drew, h3.of_block (Below.heap_setCell W ⟨pb, 268 + sp * 50 + x, none⟩ _ 0 (fun e => hpb e.symm)),
      (setCell_far (by omega)).trans h4, (setCell_far (by omega)).trans h5, (setCell_far (by omega)).trans h6⟩
  case done =>
    rintro D W hD hi hK
    gi_wp2
    refine ⟨by simp, .inl ⟨_, _, rfl, run_takeDeferred hK, ?_⟩⟩
    obtain ⟨h1, h2, h3, h4, h5, h6⟩ := hi
    have hD1 : pb ≠ D := by rintro rfl; have := h1.lt; have h7 := h1.ht 0 (by decide); unfold World.cell? at h7; rw [hK] at h7; simp at h7
    refine ⟨_, results_none rfl _ _ _, rfl, ?_, ?_⟩
    · exact (h1.of_block (World.putObj_heap_other hD1)).congr (fun _ _ => rfl) (fun s a _ ha => tieL_end fo sp src dst s a ha)
    · exact h2.grown (grownBy_putObj' W D (.deferred none)) (fun r e => by cases e; omega)

end Go.Proofs.YticaoekmlaipnaaDoor
