/-
  Contracts of library functions at this program, laid by the kit's tool.
-/
import Derived.Shelf.Strings.Builder1
import Derived.Shelf.Strings.BuilderF
import Derived.Shelf.Strings.BuilderK
import Derived.Shelf.LaysM
import Derived.Shelf.Strconv.Clone
import Derived.Test.YtakbfoegkjaphaaGreatDoorProg
import Derived.Test.YtakbfoegkjaphaaGreatDoorM14
namespace Go.Proofs
open Go.Shelf
def Tryz.lays169_ren : Go.Shelf.Ren := ⟨fun | 169 => 100 | n => n, fun | 70 => 185 | 9 => 9 | 0 => 0 | 72 => 187 | 37 => 62 | 127 => 240 | 3 => 3 | 5 => 5 | n => n, fun | n => n⟩
theorem Tryz.lays169 : Go.Proofs.Lays.n169 Tryz.prog Tryz.lays169_ren := {
  mixed := by kernel_rfl
  f169 := Tryz.func100.trans (congrArg some (by kernel_rfl))
  t0 := Tryz.underlying0
  a0 := Tryz.isAgg0
  z0 := Tryz.sizeOf0
  v0 := Tryz.zeroValue0
  t3 := Tryz.underlying3
  a3 := Tryz.isAgg3
  z3 := Tryz.sizeOf3
  v3 := Tryz.zeroValue3
  t9 := Tryz.underlying9
  a9 := Tryz.isAgg9
  z9 := Tryz.sizeOf9
  v9 := Tryz.zeroValue9
  t37 := Tryz.underlying62
  a37 := Tryz.isAgg62
  z37 := Tryz.sizeOf62
  v37 := Tryz.zeroValue62
  t70 := Tryz.underlying185
  a70 := Tryz.isAgg185
  z70 := Tryz.sizeOf185
  v70 := Tryz.zeroValue185
  t72 := Tryz.underlying187
  a72 := Tryz.isAgg187
  z72 := Tryz.sizeOf187
  v72 := Tryz.zeroValue187
  t127 := Tryz.underlying240
  a127 := Tryz.isAgg240
  z127 := Tryz.sizeOf240
  v127 := Tryz.zeroValue240 }
theorem Tryz.Builder_Extra_169 : Builder.Extra Tryz.prog Tryz.lays169_ren := {
  sizeBuilder := by kernel_rfl
  liesBuilder := by kernel_rfl
  t5 := Tryz.underlying5
  a5 := Tryz.isAgg5
  z5 := Tryz.sizeOf5
  v5 := Tryz.zeroValue5
  infoByte := by kernel_rfl
  cellsByte := by kernel_rfl
  sizeByte := by kernel_rfl
  neB5 := by decide }
open Go.RowKit in
theorem Tryz.Builder_String (B b : Nat) (l : List UInt8) (w : World) (h : Lib.IsBuilder 187 5 B b (Lib.byteCells l) w) (h0 : l ≠ []) :
    Calls Tryz.prog 100 #[.pointer (some ⟨b, 0, none⟩)] w fun e w' => e = .returned (.string ⟨l.toArray⟩) ∧ Below B w w' := Any.Builder_String Tryz.lays169 Tryz.Builder_Extra_169 B b l w h h0
open Go.RowKit in
theorem Tryz.Builder_String_empty (B b : Nat) (w : World) (h : Lib.IsBuilder 187 5 B b [] w) (hBw : B ≤ w.heap.size) :
    Calls Tryz.prog 100 #[.pointer (some ⟨b, 0, none⟩)] w fun e w' => e = .returned (.string ⟨#[]⟩) ∧ Below B w w' := Any.Builder_String_empty Tryz.lays169 Tryz.Builder_Extra_169 B b w h hBw
open Go.RowKit in
theorem Tryz.Builder_String_any (B b : Nat) (l : List UInt8) (w : World) (h : Lib.IsBuilder 187 5 B b (Lib.byteCells l) w) (hBw : B ≤ w.heap.size) :
    Calls Tryz.prog 100 #[.pointer (some ⟨b, 0, none⟩)] w fun e w' => e = .returned (.string ⟨l.toArray⟩) ∧ Below B w w' := Any.Builder_String_any Tryz.lays169 Tryz.Builder_Extra_169 B b l w h hBw
open Go.RowKit in
theorem Tryz.Builder_String_f (B b : Nat) (l : List UInt8) (w : World) (h : Lib.IsBuilderF 187 5 B b (Lib.byteCells l) w) (h0 : l ≠ []) :
    Calls Tryz.prog 100 #[.pointer (some ⟨b, 0, none⟩)] w fun e w' => e = .returned (.string ⟨l.toArray⟩) ∧ (Lib.IsBuilderF 187 5 B b (Lib.byteCells l) w' ∧ Below B w w') := Any.Builder_String_f Tryz.lays169 Tryz.Builder_Extra_169 B b l w h h0
open Go.RowKit in
theorem Tryz.Builder_String_empty_f (B b : Nat) (w : World) (h : Lib.IsBuilderF 187 5 B b [] w) (hBw : B ≤ w.heap.size) :
    Calls Tryz.prog 100 #[.pointer (some ⟨b, 0, none⟩)] w fun e w' => e = .returned (.string ⟨#[]⟩) ∧ (Lib.IsBuilderF 187 5 B b [] w' ∧ Below B w w') := Any.Builder_String_empty_f Tryz.lays169 Tryz.Builder_Extra_169 B b w h hBw
open Go.RowKit in
theorem Tryz.Builder_String_any_f (B b : Nat) (l : List UInt8) (w : World) (h : Lib.IsBuilderF 187 5 B b (Lib.byteCells l) w) (hBw : B ≤ w.heap.size) :
    Calls Tryz.prog 100 #[.pointer (some ⟨b, 0, none⟩)] w fun e w' => e = .returned (.string ⟨l.toArray⟩) ∧ (Lib.IsBuilderF 187 5 B b (Lib.byteCells l) w' ∧ Below B w w') := Any.Builder_String_any_f Tryz.lays169 Tryz.Builder_Extra_169 B b l w h hBw
open Go.RowKit in
theorem Tryz.Builder_String_k (B b : Nat) (l : List UInt8) (w : World) (h : Lib.IsBuilderF 187 5 B b (Lib.byteCells l) w) (h0 : l ≠ []) :
    Calls Tryz.prog 100 #[.pointer (some ⟨b, 0, none⟩)] w fun e w' => e = .returned (.string ⟨l.toArray⟩) ∧ (Lib.IsBuilderF 187 5 B b (Lib.byteCells l) w' ∧ Below B w w' ∧ Lib.OthersKept 5 (some b) w w') := Any.Builder_String_k Tryz.lays169 Tryz.Builder_Extra_169 B b l w h h0
open Go.RowKit in
theorem Tryz.Builder_String_empty_k (B b : Nat) (w : World) (h : Lib.IsBuilderF 187 5 B b [] w) (hBw : B ≤ w.heap.size) :
    Calls Tryz.prog 100 #[.pointer (some ⟨b, 0, none⟩)] w fun e w' => e = .returned (.string ⟨#[]⟩) ∧ (Lib.IsBuilderF 187 5 B b [] w' ∧ Below B w w' ∧ Lib.OthersKept 5 (some b) w w') := Any.Builder_String_empty_k Tryz.lays169 Tryz.Builder_Extra_169 B b w h hBw
open Go.RowKit in
theorem Tryz.Builder_String_any_k (B b : Nat) (l : List UInt8) (w : World) (h : Lib.IsBuilderF 187 5 B b (Lib.byteCells l) w) (hBw : B ≤ w.heap.size) :
    Calls Tryz.prog 100 #[.pointer (some ⟨b, 0, none⟩)] w fun e w' => e = .returned (.string ⟨l.toArray⟩) ∧ (Lib.IsBuilderF 187 5 B b (Lib.byteCells l) w' ∧ Below B w w' ∧ Lib.OthersKept 5 (some b) w w') := Any.Builder_String_any_k Tryz.lays169 Tryz.Builder_Extra_169 B b l w h hBw
def Tryz.laysM316_ren : Go.Shelf.Ren := ⟨fun | 316 => 132 | n => n, fun | 9 => 9 | 3 => 3 | 4 => 4 | 37 => 62 | 0 => 0 | 127 => 240 | 5 => 5 | n => n, fun | n => n⟩
theorem Tryz.laysM316 : Go.Proofs.LaysM.n316 Tryz.prog Tryz.laysM316_ren := {
  mixed := by kernel_rfl
  f316 := Tryz.func132.trans (congrArg some (by kernel_rfl))
  t0 := Tryz.underlying0
  a0 := Tryz.isAgg0
  z0 := Tryz.sizeOf0
  v0 := Tryz.zeroValue0
  t3 := Tryz.underlying3
  a3 := Tryz.isAgg3
  z3 := Tryz.sizeOf3
  v3 := Tryz.zeroValue3
  t4 := Tryz.underlying4
  a4 := Tryz.isAgg4
  z4 := Tryz.sizeOf4
  v4 := Tryz.zeroValue4
  t9 := Tryz.underlying9
  a9 := Tryz.isAgg9
  z9 := Tryz.sizeOf9
  v9 := Tryz.zeroValue9
  t37 := Tryz.underlying62
  a37 := Tryz.isAgg62
  z37 := Tryz.sizeOf62
  v37 := Tryz.zeroValue62
  t127 := Tryz.underlying240
  a127 := Tryz.isAgg240
  z127 := Tryz.sizeOf240
  v127 := Tryz.zeroValue240
  t5 := Tryz.underlying5
  a5 := Tryz.isAgg5
  z5 := Tryz.sizeOf5
  v5 := Tryz.zeroValue5
  i0 := by kernel_rfl
  i3 := by kernel_rfl
  i4 := by kernel_rfl
  i5 := by kernel_rfl
  i9 := by kernel_rfl
  i37 := by kernel_rfl
  i127 := by kernel_rfl }
open Go.RowKit in
theorem Tryz.stringslite_Clone (s : ByteArray) (w : World) (hlim : s.size ≤ 281474976710656) :
    Calls Tryz.prog 132 #[.string s] w fun e w' => e = .returned (.string s) ∧ Below w.heap.size w w' := Any.stringslite_Clone Tryz.laysM316 s w hlim
end Go.Proofs

set_option linter.unusedSimpArgs false
set_option linter.unusedVariables false
namespace Go.Proofs.YtakbfoegkjaphaaGreatDoor
open Go.RowKit

theorem sizeB : (Tryz.prog.info? 187).map (·.size) = some 2 := by kernel_rfl
theorem infoByte : (Tryz.prog.info? 5).map (fun i => (i.zero, i.size, i.bytes)) = some (some (.int .u8 0), 1, 1) := by kernel_rfl

/-- What a write leaves: the builder with these bytes; what lies below it, and every other block that is no row of bytes, as it was. -/
structure Wrote (b : Nat) (bs : List Value) (w w' : World) : Prop where
  bui : Lib.BuilderAtF 187 5 b b (.pointer (some ⟨b, 0, none⟩)) bs w'
  low : Below b w w'
  oth : Lib.OthersKept 5 (some b) w w'

set_option maxRecDepth 100000 in
set_option maxHeartbeats 1000000 in
theorem copyCheck_any (b : Nat) (bs : List Value) (w : World) (h : Lib.IsBuilderF 187 5 b b bs w) :
    Calls Tryz.prog 131 #[.pointer (some ⟨b, 0, none⟩)] w fun e w' => e = .returned (.tuple #[]) ∧ Wrote b bs w w' := by
  obtain ⟨j, hj, hjs⟩ := Option.map_eq_some_iff.1 sizeB
  rcases h with h | h
  · have c0 := h.cell0
    have fz := h.frozen0
    have hsh := h.shape
    go_enter Tryz.func131, Tryz.ntmps131
    go_wp2
    rw [Lib.run_to_unsafe w ⟨b, 0, none⟩ Tryz.underlying185 Tryz.underlying283 hj (by rw [hjs]; decide) hsh (Nat.zero_lt_succ 1)]
    simp only [Result.andThen]
    rw [Oper.upon_value]
    go_wp2
    rw [run_callFunc_extern Tryz.func193 (by kernel_rfl) (by kernel_rfl) (by kernel_rfl) (e := Extern.AbiNoEscape.same) (by kernel_rfl), Lib.run_noEscape]
    simp only [Result.andThen]
    rw [Oper.upon_value]
    go_wp2
    rw [Lib.run_from_unsafe w ⟨b, 0, none⟩ Tryz.underlying283 Tryz.underlying185 hj hsh (by kernel_rfl)]
    simp only [Result.andThen]
    rw [Oper.upon_value]
    go_wp2
    go_end0
    exact ⟨rfl, h.used _, (Below.refl b w).setCell (p := ⟨b, 0, none⟩) h.1 _, (Lib.OthersKept.refl _ _ w).setCell ⟨b, 0, none⟩ rfl _⟩
  · have c0 := h.cell0
    go_enter Tryz.func131, Tryz.ntmps131
    go_wp2
    rw [Lib.run_neq_ptr_same w _ Tryz.underlying185 hj]
    go_wp2
    go_end0
    exact ⟨rfl, h, Below.refl b _, Lib.OthersKept.refl _ _ _⟩

set_option maxRecDepth 100000 in
set_option maxHeartbeats 1000000 in
theorem writeByte_any (b : Nat) (bs : List Value) (c : Int) (w : World) (h : Lib.IsBuilderF 187 5 b b bs w) (hlen : bs.length ≤ 1000000) (hbw : b ≤ w.heap.size) :
    Calls Tryz.prog 99 #[.pointer (some ⟨b, 0, none⟩), .int .u8 c] w fun e w' => e = .returned .nilIface ∧ Wrote b (bs ++ [.int .u8 c]) w w' := by
  obtain ⟨i0, hi, hz0, hz1, hz2⟩ := info_parts infoByte
  have hcc := copyCheck_any b bs w h
  clear h
  go_enter Tryz.func99, Tryz.ntmps99
  go_wp2_with fail
  refine hcc.mono ?_
  rintro e w1 ⟨rfl, ⟨hB, v, hbk, hown, hne⟩, low, oth⟩
  clear hcc
  have hsz := low.size
  have c0 : w1.cell? ⟨b, 0, none⟩ = some (.pointer (some ⟨b, 0, none⟩)) := by rw [Lib.cell_of_heap hbk]; rfl
  have c1 : w1.cell? ⟨b, 1, none⟩ = some v := by rw [Lib.cell_of_heap hbk]; rfl
  have hlt := lt_of_cell c0
  go_wp2_with (at_builtin; refine wpList_append_ownF _ rfl _ _ 62 rfl b 5 i0 (.int .u8 0) 1 1 Tryz.underlying62 hi hz0 hz1 hz2 rfl (by decide) _ _ _ rfl (hown.alloc _) ⟨w1.heap.size, 0, none⟩ 1 1 [.int .u8 c] rfl rfl ?c1 ?c2 ?c3 ?c4 ?c5 ?_)
  case c1 =>
    intro j u hj
    rcases j with _ | j
    · simp at hj; subst hj; simp [Addr.add]
    · simp at hj
  case c2 => intro u hu; simp at hu; subst hu; rfl
  case c3 => unfold maxLen; omega
  case c4 => omega
  case c5 => simp; omega
  intro v' w2 hown' hgrow _
  have hb2 : w2.heap[b]? = some (.cells #[.pointer (some ⟨b, 0, none⟩), v] 187 (0, 0)) := by
    rw [hgrow.block b (by simp; omega) (fun e => hne e.symm), Lib.alloc_old w1 _ b hlt]
    exact hbk
  have d0 : w2.cell? ⟨b, 0, none⟩ = some (.pointer (some ⟨b, 0, none⟩)) := by rw [Lib.cell_of_heap hb2]; rfl
  have d1 : w2.cell? ⟨b, 1, none⟩ = some v := by rw [Lib.cell_of_heap hb2]; rfl
  have f1 : w2.frozen? ⟨b, 1, none⟩ = false := Lib.frozen_of_heap hb2 1
  obtain ⟨g, cap, rfl⟩ : ∃ g cap, v' = .slice (some ⟨g, 0, none⟩) (bs.length + 1) cap := by
    rcases hown'.2 with ⟨_, h0⟩ | ⟨g, cap, cur, fz, hv, _⟩
    · omega
    · exact ⟨g, cap, hv⟩
  go_wp2
  go_ret
  refine ⟨rfl, ?_, ?_, ((oth.alloc _).grown hgrow (Lib.ownsRowF_kind (hown.alloc _))).setCell ⟨b, 1, none⟩ rfl _⟩
  · exact Lib.BuilderAtF.put hB hb2 (by simpa using hown') (by decide)
  · exact ((low.alloc (by omega) _).grown hgrow (by simp; omega) (fun k hk => (hown.lt k hk).1)).setCell (p := ⟨b, 1, none⟩) hB _

set_option maxRecDepth 100000 in
set_option maxHeartbeats 1000000 in
theorem writeString_any (b : Nat) (bs : List Value) (s : ByteArray) (w : World) (h : Lib.IsBuilderF 187 5 b b bs w) (hlen : bs.length ≤ 1000000) (hs : s.size ≤ 1000) (hbw : b ≤ w.heap.size) :
    Calls Tryz.prog 98 #[.pointer (some ⟨b, 0, none⟩), .string s] w fun e w' => e = .returned (.tuple #[.int .i64 s.size, .nilIface]) ∧ Wrote b (bs ++ Lib.strCells s) w w' := by
  obtain ⟨i0, hi, hz0, hz1, hz2⟩ := info_parts infoByte
  have hcc := copyCheck_any b bs w h
  clear h
  go_enter Tryz.func98, Tryz.ntmps98
  go_wp2_with fail
  refine hcc.mono ?_
  rintro e w1 ⟨rfl, ⟨hB, v, hbk, hown, hne⟩, low, oth⟩
  clear hcc
  have hsz := low.size
  have c0 : w1.cell? ⟨b, 0, none⟩ = some (.pointer (some ⟨b, 0, none⟩)) := by rw [Lib.cell_of_heap hbk]; rfl
  have c1 : w1.cell? ⟨b, 1, none⟩ = some v := by rw [Lib.cell_of_heap hbk]; rfl
  have hlt := lt_of_cell c0
  go_wp2_with (at_builtin; refine Lib.wpList_append_own_stringF _ rfl _ _ 62 9 rfl b 5 i0 Tryz.underlying62 Tryz.underlying9 hi hz0 hz1 hz2 _ _ _ rfl hown s rfl ?c3 ?c4 ?c5 ?_)
  case c3 => unfold maxLen; omega
  case c4 => omega
  case c5 => omega
  intro v' w2 hown' hgrow _
  have hb2 : w2.heap[b]? = some (.cells #[.pointer (some ⟨b, 0, none⟩), v] 187 (0, 0)) := by
    rw [hgrow.block b hlt (fun e => hne e.symm)]
    exact hbk
  have d0 : w2.cell? ⟨b, 0, none⟩ = some (.pointer (some ⟨b, 0, none⟩)) := by rw [Lib.cell_of_heap hb2]; rfl
  have d1 : w2.cell? ⟨b, 1, none⟩ = some v := by rw [Lib.cell_of_heap hb2]; rfl
  have f1 : w2.frozen? ⟨b, 1, none⟩ = false := Lib.frozen_of_heap hb2 1
  obtain ⟨ao, n', cap, rfl⟩ : ∃ ao n' cap, v' = .slice ao n' cap := by
    rcases hown'.2 with ⟨hv, _⟩ | ⟨g, cap, cur, fz, hv, _⟩
    · exact ⟨_, _, _, hv⟩
    · exact ⟨_, _, _, hv⟩
  go_wp2
  go_ret2
  refine ⟨rfl, ?_, ?_, (oth.grown hgrow (Lib.ownsRowF_kind hown)).setCell ⟨b, 1, none⟩ rfl _⟩
  · exact Lib.BuilderAtF.put hB hb2 (by simpa [Lib.strCells_length] using hown') (by decide)
  · exact (low.grown hgrow (by omega) (fun k hk => (hown.lt k hk).1)).setCell (p := ⟨b, 1, none⟩) hB _

end Go.Proofs.YtakbfoegkjaphaaGreatDoor

namespace Go.Proofs.YtakbfoegkjaphaaGreatDoor
open Go.RowKit

/-- The byte at a place, as a list. -/
def atL (x : ByteArray) (k : Nat) : List UInt8 := if h : k < x.size then [x[k]] else []

/-- What Swap lays down from the place k on, where E tells the ends; sw: where the last match ended that was swapped and not empty. The first number is a bound on the steps. -/
def swapG (E : Nat → Int) (wi : List UInt8) (x : ByteArray) : Nat → Nat → Int → List UInt8
  | 0, _, _ => []
  | f + 1, k, sw =>
    if k ≤ x.size then
      if (k : Int) < E k then wi ++ swapG E wi x f (E k).toNat (E k)
      else (if E k = k ∧ sw ≠ k then wi else []) ++ (atL x k ++ swapG E wi x f (k + 1) sw)
    else []
theorem swapG_s (E : Nat → Int) (wi : List UInt8) (x : ByteArray) (f k : Nat) (sw : Int) : swapG E wi x (f + 1) k sw =
    if k ≤ x.size then
      if (k : Int) < E k then wi ++ swapG E wi x f (E k).toNat (E k)
      else (if E k = k ∧ sw ≠ k then wi else []) ++ (atL x k ++ swapG E wi x f (k + 1) sw)
    else [] := rfl
theorem swapG_more (E : Nat → Int) (wi : List UInt8) (x : ByteArray) : ∀ f k sw, x.size + 1 - k ≤ f → swapG E wi x (f + 1) k sw = swapG E wi x f k sw
  | 0, k, sw, h => by rw [swapG_s E wi x 0 k sw, if_neg (by omega)]; rfl
  | f + 1, k, sw, h => by
    rw [swapG_s E wi x (f + 1) k sw, swapG_s E wi x f k sw]
    by_cases hk : k ≤ x.size
    · rw [if_pos hk, if_pos hk]
      by_cases hE : (k : Int) < E k
      · rw [if_pos hE, if_pos hE, swapG_more E wi x f _ _ (by omega)]
      · rw [if_neg hE, if_neg hE, swapG_more E wi x f _ _ (by omega)]
    · rw [if_neg hk, if_neg hk]
theorem swapG_enough (E : Nat → Int) (wi : List UInt8) (x : ByteArray) (k : Nat) (sw : Int) : ∀ d, swapG E wi x (x.size + 1 - k + d) k sw = swapG E wi x (x.size + 1 - k) k sw
  | 0 => rfl
  | d + 1 => by rw [← Nat.add_assoc, swapG_more _ _ _ _ _ _ (by omega), swapG_enough E wi x k sw d]
def swapL (E : Nat → Int) (wi : List UInt8) (x : ByteArray) (k : Nat) (sw : Int) : List UInt8 := swapG E wi x (x.size + 1 - k) k sw
theorem swapL_eq (E : Nat → Int) (wi : List UInt8) (x : ByteArray) (k : Nat) (sw : Int) : swapL E wi x k sw =
    if k ≤ x.size then
      if (k : Int) < E k then wi ++ swapL E wi x (E k).toNat (E k)
      else (if E k = k ∧ sw ≠ k then wi else []) ++ (atL x k ++ swapL E wi x (k + 1) sw)
    else [] := by
  by_cases hk : k ≤ x.size
  · rw [if_pos hk]
    unfold swapL
    rw [show x.size + 1 - k = (x.size + 1 - (k + 1)) + 1 by omega, swapG_s, if_pos hk]
    by_cases hE : (k : Int) < E k
    · rw [if_pos hE, if_pos hE, show x.size + 1 - (k + 1) = x.size + 1 - (E k).toNat + (x.size + 1 - (k + 1) - (x.size + 1 - (E k).toNat)) by omega, swapG_enough]
    · rw [if_neg hE, if_neg hE]
  · rw [if_neg hk]
    unfold swapL
    rw [show x.size + 1 - k = 0 by omega]
    rfl

structure SwapI (w : World) (b eb : Nat) (E : Nat → Int) (x : ByteArray) (l : List UInt8) (W : World) : Prop where
  bui : Lib.IsBuilderF 187 5 b b (Lib.byteCells l) W
  ec : ∀ j, j ≤ x.size → W.cell? ⟨eb, j, none⟩ = some (.int .i64 (E j))
  tg : Tagged W eb 3
  low : Below b w W
  ne : eb ≠ b
  bl : b ≤ W.heap.size

theorem byteCells_append (l l' : List UInt8) : Lib.byteCells (l ++ l') = Lib.byteCells l ++ Lib.byteCells l' := by simp [Lib.byteCells]
theorem strCells_eq (s : ByteArray) : Lib.strCells s = Lib.byteCells s.data.toList := rfl

theorem SwapI.wrote {w : World} {b eb : Nat} {E : Nat → Int} {x : ByteArray} {l l' : List UInt8} {W W' : World} (h : SwapI w b eb E x l W) (k : Wrote b (Lib.byteCells l ++ Lib.byteCells l') W W') : SwapI w b eb E x (l ++ l') W' := by
  obtain ⟨c, fz, hb⟩ := h.tg
  have e : W'.heap[eb]? = W.heap[eb]? := by
    rw [hb]
    exact k.oth eb _ hb (by simpa using h.ne) (fun c' fz' e => by cases e)
  refine ⟨by rw [byteCells_append]; exact .inr k.bui, fun j hj => ?_, h.tg.of_block e, h.low.trans k.low, h.ne, Nat.le_trans h.bl k.low.size⟩
  rw [← h.ec j hj]
  unfold World.cell?
  rw [e]

theorem below_fr {w W : World} (h : Below w.heap.size w W) : Fr [] w W := ⟨h.os, h.tape, h.output, h.size, fun k hk _ => h.block k hk⟩
theorem byteCells_len (l : List UInt8) : (Lib.byteCells l).length = l.length := by simp [Lib.byteCells]

set_option maxRecDepth 100000 in
set_option maxHeartbeats 2000000 in
theorem pswap_any (pb : Nat) (q : Piece) (tk : Nat → Nat) (fo : Nat → Nat → Nat) (wi x : ByteArray) (w : World) (hP : PatAt w pb (whF q) tk fo) (hT : Tab w) (lq : PB 50 q) (ltk : ∀ b, tk b < 1125899906842624) (lfo : ∀ s a, fo s a < 18446744073709551616) (hx : x.size ≤ 100) (hw : wi.size ≤ 100) :
    Calls Tryz.prog 66 #[.pointer (some ⟨pb, 0, none⟩), .string wi, .string x] w fun e w' => e = .returned (.string ⟨(swapL (endF q tk fo x) wi.data.toList x 0 (-1)).toArray⟩) ∧ Fr [] w w' := by
  have f0 : Fr [] w (w.alloc (.cells #[.pointer none, .slice none 0 0] 187)) := (Fr.refl [] w).alloc _
  have hen := ends_any pb q tk fo x _ (hP.fr f0 (by simp)) (hT.fr f0 (by simp)) lq ltk lfo hx
  have hle := endF_le q tk fo x
  have hbk := World.alloc_heap_new w (.cells #[.pointer none, .slice none 0 0] 187)
  have hbs : (w.alloc (.cells #[.pointer none, .slice none 0 0] 187)).heap.size = w.heap.size + 1 := World.size_alloc _ _
  unfold EndsAt at hen
  generalize endF q tk fo x = E at *
  have hwl : wi.data.toList.length = wi.size := by cases wi; rfl
  obtain ⟨R, hR⟩ : ∃ R, swapL E wi.data.toList x 0 (-1) = R := ⟨_, rfl⟩
  rw [hR]
  have HR : Hid (_ = R) := hR
  have Hle : Hid _ := hle
  clear hR hle hP hT
  go_enter Tryz.func66, Tryz.ntmps66
  go_wp2_with fail
  refine hen.mono ?_
  rintro e w1 ⟨eb, rfl, ⟨heb, htg, hc⟩, f1⟩
  clear hen
  have J0 : SwapI w w.heap.size eb E x [] w1 := by
    have hb1 : w1.heap[w.heap.size]? = some (.cells #[.pointer none, .slice none 0 0] 187 (0, 0)) := by
      rw [f1.block _ (by omega) (by simp)]; exact hbk
    exact ⟨.inl ⟨Nat.le_refl _, _, hb1, World.ownsRowF_nil _ _ _ _, by simp [Value.ownBlock]⟩, hc, htg,
      ⟨f1.os.trans f0.os, f1.tape.trans f0.tape, f1.output.trans f0.output, Nat.le_trans f0.size f1.size, fun k hk => (f1.block k (by omega) (by simp)).trans (f0.block k hk (by simp))⟩, by omega, by have := f1.size; omega⟩
  have Hfin : Hid (∀ W, Below w.heap.size w W → Fr [] w W) := fun W h => below_fr h
  generalize w.heap.size = b at *
  clear hc htg hbk f0 f1
  go_wp2
  go_loopw [9, 10] (fun sw pl wr => ∃ (k : Nat) (sv : Int) (l : List UInt8), k ≤ x.size + 1 ∧ l.length ≤ 101 * k ∧ sw = .int .i64 sv ∧ pl = .int .i64 k ∧ Hid (l ++ swapL E wi.data.toList x k sv = R) ∧ SwapI w b eb E x l wr) (fun _ pl _ => x.size + 1 - (intOf pl).toNat)
  case atStart => exact ⟨0, -1, [], by omega, by simp, rfl, rfl, HR, J0⟩
  case round =>
    clear J0
    obtain ⟨k, sv, l, hk, hl, rfl, rfl, hR, J⟩ := hrel
    have hbl := J.bl
    have hR' := hR.out
    rw [swapL_eq] at hR'
    have hbc := byteCells_len l
    by_cases hlt : k ≤ x.size
    · have g1 : (k : Int) ≤ x.size := by omega
      have g2 : (k : Int) < (x.size : Int) + 1 := by omega
      have c1 := J.ec k hlt
      obtain ⟨hb1, hb2⟩ := Hle.out k
      rw [if_pos hlt] at hR'
      by_cases hE : (k : Int) < E k
      · rw [if_pos hE, ← List.append_assoc] at hR'
        have HR' : Hid _ := hR'
        clear hR'
        have hws := writeString_any b _ wi wr J.bui (by omega) (by omega) hbl
        have hE0 : ((E k).toNat : Int) = E k := by omega
        go_wp2_with fail
        refine hws.mono ?_
        rintro e w2 ⟨rfl, wr2⟩
        have J2 := J.wrote (l' := wi.data.toList) wr2
        have c2 := J2.ec k hlt
        go_wp2
        exact ⟨⟨(E k).toNat, E k, l ++ wi.data.toList, by omega, by rw [List.length_append, hwl]; omega, rfl, by rw [hE0], HR', J2⟩, by simp [intOf]; omega⟩
      · rw [if_neg hE] at hR'
        by_cases hsw : E k = k ∧ sv ≠ k
        · rw [if_pos hsw, ← List.append_assoc] at hR'
          have e1 : (E k == (k : Int)) = true := by simp [hsw.1]
          have e2 : (sv != (k : Int)) = true := by simp [hsw.2]
          have hws := writeString_any b _ wi wr J.bui (by omega) (by omega) hbl
          by_cases hks : k < x.size
          · have g3 : (k : Int) < x.size := by omega
            have ea : atL x k = [x[k]] := by unfold atL; rw [dif_pos hks]
            rw [ea, ← List.append_assoc] at hR'
            have HR' : Hid _ := hR'
            clear hR' hsw ea
            go_wp2_with fail
            refine hws.mono ?_
            rintro e w2 ⟨rfl, wr2⟩
            have J2 := J.wrote (l' := wi.data.toList) wr2
            have hwb := writeByte_any b _ (x[k].toNat : Int) w2 J2.bui (by rw [byteCells_len, List.length_append, hwl]; omega) J2.bl
            clear hws wr2
            go_wp2_with fail
            refine hwb.mono ?_
            rintro e w3 ⟨rfl, wr3⟩
            have J3 := J2.wrote (l' := [x[k]]) wr3
            go_wp2
            exact ⟨⟨k + 1, sv, (l ++ wi.data.toList) ++ [x[k]], by omega, by rw [List.length_append, List.length_append, hwl]; simp; omega, rfl, by go_num, HR', J3⟩, by simp [intOf]; omega⟩
          · have g3 : ¬ ((k : Int) < x.size) := by omega
            have ea : atL x k = [] := by unfold atL; rw [dif_neg hks]
            rw [ea, List.nil_append] at hR'
            have HR' : Hid _ := hR'
            clear hR' hsw ea
            go_wp2_with fail
            refine hws.mono ?_
            rintro e w2 ⟨rfl, wr2⟩
            have J2 := J.wrote (l' := wi.data.toList) wr2
            clear hws wr2
            go_wp2
            exact ⟨⟨k + 1, sv, l ++ wi.data.toList, by omega, by rw [List.length_append, hwl]; omega, rfl, by go_num, HR', J2⟩, by simp [intOf]; omega⟩
        · rw [if_neg hsw, List.nil_append] at hR'
          by_cases hks : k < x.size
          · have g3 : (k : Int) < x.size := by omega
            have ea : atL x k = [x[k]] := by unfold atL; rw [dif_pos hks]
            rw [ea, ← List.append_assoc] at hR'
            have HR' : Hid _ := hR'
            clear hR' ea
            have hwb := writeByte_any b _ (x[k].toNat : Int) wr J.bui (by omega) J.bl
            by_cases hek : E k = k
            · have hsv : sv = k := Classical.byContradiction fun hh => hsw ⟨hek, hh⟩
              have e1 : (E k == (k : Int)) = true := by simp [hek]
              have e2 : (sv != (k : Int)) = false := by simp [hsv]
              clear hsw hek hsv
              go_wp2_with fail
              refine hwb.mono ?_
              rintro e w3 ⟨rfl, wr3⟩
              have J3 := J.wrote (l' := [x[k]]) wr3
              go_wp2
              exact ⟨⟨k + 1, sv, l ++ [x[k]], by omega, by rw [List.length_append]; simp; omega, rfl, by go_num, HR', J3⟩, by simp [intOf]; omega⟩
            · have e1 : (E k == (k : Int)) = false := by simp [hek]
              clear hsw hek
              go_wp2_with fail
              refine hwb.mono ?_
              rintro e w3 ⟨rfl, wr3⟩
              have J3 := J.wrote (l' := [x[k]]) wr3
              go_wp2
              exact ⟨⟨k + 1, sv, l ++ [x[k]], by omega, by rw [List.length_append]; simp; omega, rfl, by go_num, HR', J3⟩, by simp [intOf]; omega⟩
          · have g3 : ¬ ((k : Int) < x.size) := by omega
            have ea : atL x k = [] := by unfold atL; rw [dif_neg hks]
            rw [ea, List.nil_append] at hR'
            have HR' : Hid _ := hR'
            clear hR' ea
            by_cases hek : E k = k
            · have hsv : sv = k := Classical.byContradiction fun hh => hsw ⟨hek, hh⟩
              have e1 : (E k == (k : Int)) = true := by simp [hek]
              have e2 : (sv != (k : Int)) = false := by simp [hsv]
              clear hsw hek hsv
              go_wp2
              exact ⟨⟨k + 1, sv, l, by omega, by omega, rfl, by go_num, HR', J⟩, by simp [intOf]; omega⟩
            · have e1 : (E k == (k : Int)) = false := by simp [hek]
              clear hsw hek
              go_wp2
              exact ⟨⟨k + 1, sv, l, by omega, by omega, rfl, by go_num, HR', J⟩, by simp [intOf]; omega⟩
    · have g1 : ¬ ((k : Int) ≤ x.size) := by omega
      rw [if_neg hlt, List.append_nil] at hR'
      have HR' : Hid _ := hR'
      clear hR'
      have hst := Tryz.Builder_String_any_k b b l wr J.bui hbl
      have hlow := J.low
      go_wp2_with fail
      refine hst.mono ?_
      rintro e w2 ⟨rfl, _, lo2, _⟩
      go_wp2
      go_ret
      rw [← HR'.out]
      exact ⟨rfl, Hfin.out _ (hlow.trans lo2)⟩

end Go.Proofs.YtakbfoegkjaphaaGreatDoor

