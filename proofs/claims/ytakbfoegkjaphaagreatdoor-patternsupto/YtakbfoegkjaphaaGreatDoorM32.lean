/-
  strconv.Itoa: the shelf's contract, laid at this program (the tables by the shelf's own tool, in plain words); a text of 21 bytes at most. The small module's bytes (five), and the steps that are played ahead of every script (opening). The memory of a script's world: whose each block is; what stays as it was.
-/
import Derived.Shelf.Strconv.Itoa0
import Derived.Shelf.Strconv.Itoa1
import Derived.Shelf.LaysM
import Derived.Shelf.Strconv.Itoa2
import Derived.Shelf.Strconv.Itoa3
import Derived.Test.YtakbfoegkjaphaaGreatDoorProg
import Derived.Lib.AppendIntMem
import Derived.Lib.ItoaLen
import Derived.Test.YtakbfoegkjaphaaGreatDoorM30
import Derived.Test.YtakbfoegkjaphaaGreatDoorRows
import Derived.Test.YtakbfoegkjaphaaGreatDoorM31
import Derived.Maps.AppendAt
import Derived.Laws.OwnMore
set_option linter.unusedSimpArgs false
set_option linter.unusedVariables false
namespace Go.Proofs
open Go.Shelf
def Tryz.laysM171_ren : Go.Shelf.Ren := ⟨fun | 171 => 57 | 243 => 88 | 246 => 122 | 283 => 179 | 284 => 180 | 285 => 181 | 286 => 182 | 129 => 214 | 317 => 213 | 318 => 215 | 319 => 216 | 320 => 217 | 337 => 238 | 338 => 222 | n => n, fun | 3 => 3 | 9 => 9 | 2 => 2 | 4 => 4 | 171 => 275 | 0 => 0 | 53 => 169 | 37 => 62 | 5 => 5 | 173 => 278 | 212 => 296 | 51 => 297 | 20 => 20 | 213 => 298 | 46 => 299 | 232 => 317 | 233 => 313 | n => n, fun | 17 => 2 | 18 => 7 | 19 => 6 | n => n⟩
theorem Tryz.laysM171 : Go.Proofs.LaysM.n171 Tryz.prog Tryz.laysM171_ren := {
  mixed := by kernel_rfl
  f129 := Tryz.func214.trans (congrArg some (by kernel_rfl))
  f171 := Tryz.func57.trans (congrArg some (by kernel_rfl))
  f243 := Tryz.func88.trans (congrArg some (by kernel_rfl))
  f246 := Tryz.func122.trans (congrArg some (by kernel_rfl))
  f283 := Tryz.func179.trans (congrArg some (by kernel_rfl))
  f284 := Tryz.func180.trans (congrArg some (by kernel_rfl))
  f285 := Tryz.func181.trans (congrArg some (by kernel_rfl))
  f286 := Tryz.func182.trans (congrArg some (by kernel_rfl))
  f317 := Tryz.func213.trans (congrArg some (by kernel_rfl))
  f318 := Tryz.func215.trans (congrArg some (by kernel_rfl))
  f319 := Tryz.func216.trans (congrArg some (by kernel_rfl))
  f320 := Tryz.func217.trans (congrArg some (by kernel_rfl))
  f337 := Tryz.func238.trans (congrArg some (by kernel_rfl))
  f338 := Tryz.func222.trans (congrArg some (by kernel_rfl))
  t0 := Tryz.underlying0
  a0 := Tryz.isAgg0
  z0 := Tryz.sizeOf0
  v0 := Tryz.zeroValue0
  t2 := Tryz.underlying2
  a2 := Tryz.isAgg2
  z2 := Tryz.sizeOf2
  v2 := Tryz.zeroValue2
  t3 := Tryz.underlying3
  a3 := Tryz.isAgg3
  z3 := Tryz.sizeOf3
  v3 := Tryz.zeroValue3
  t4 := Tryz.underlying4
  a4 := Tryz.isAgg4
  z4 := Tryz.sizeOf4
  v4 := Tryz.zeroValue4
  t5 := Tryz.underlying5
  a5 := Tryz.isAgg5
  z5 := Tryz.sizeOf5
  v5 := Tryz.zeroValue5
  t9 := Tryz.underlying9
  a9 := Tryz.isAgg9
  z9 := Tryz.sizeOf9
  v9 := Tryz.zeroValue9
  t20 := Tryz.underlying20
  a20 := Tryz.isAgg20
  z20 := Tryz.sizeOf20
  v20 := Tryz.zeroValue20
  t37 := Tryz.underlying62
  a37 := Tryz.isAgg62
  z37 := Tryz.sizeOf62
  v37 := Tryz.zeroValue62
  t46 := Tryz.underlying299
  a46 := Tryz.isAgg299
  z46 := Tryz.sizeOf299
  v46 := Tryz.zeroValue299
  t51 := Tryz.underlying297
  a51 := Tryz.isAgg297
  z51 := Tryz.sizeOf297
  v51 := Tryz.zeroValue297
  t53 := Tryz.underlying169
  a53 := Tryz.isAgg169
  z53 := Tryz.sizeOf169
  v53 := Tryz.zeroValue169
  t171 := Tryz.underlying275
  a171 := Tryz.isAgg275
  z171 := Tryz.sizeOf275
  v171 := Tryz.zeroValue275
  t173 := Tryz.underlying278
  a173 := Tryz.isAgg278
  z173 := Tryz.sizeOf278
  v173 := Tryz.zeroValue278
  t212 := Tryz.underlying296
  a212 := Tryz.isAgg296
  z212 := Tryz.sizeOf296
  v212 := Tryz.zeroValue296
  t213 := Tryz.underlying298
  a213 := Tryz.isAgg298
  z213 := Tryz.sizeOf298
  t232 := Tryz.underlying317
  a232 := Tryz.isAgg317
  z232 := Tryz.sizeOf317
  v232 := Tryz.zeroValue317
  t233 := Tryz.underlying313
  a233 := Tryz.isAgg313
  z233 := Tryz.sizeOf313
  v233 := Tryz.zeroValue313
  g17 := by kernel_rfl
  g18 := by kernel_rfl
  g19 := by kernel_rfl
  i0 := by kernel_rfl
  i2 := by kernel_rfl
  i3 := by kernel_rfl
  i4 := by kernel_rfl
  i5 := by kernel_rfl
  i9 := by kernel_rfl
  i20 := by kernel_rfl
  i37 := by kernel_rfl
  i46 := by kernel_rfl
  i51 := by kernel_rfl
  i53 := by kernel_rfl
  i171 := by kernel_rfl
  i173 := by kernel_rfl
  i212 := by kernel_rfl
  i232 := by kernel_rfl
  i233 := by kernel_rfl
  m17 := by kernel_rfl
  m18 := by kernel_rfl
  m19 := by kernel_rfl }
end Go.Proofs

namespace Go.Proofs.YtakbfoegkjaphaaGreatDoor
open Go.RowKit

/-- The table of powers' name. -/
def powName : String := Rows.patternsUptoRow.named.getD 4 ""
/-- The table of powers lies in its variable. -/
def PowTab (w : World) : Prop := Lib.TabIs Tryz.prog w powName .u64 Lib.pow10Tab
theorem PowTab.fr {w w' : World} (h : PowTab w) (hf : Fr [] w w') : PowTab w' := Lib.tabBelow_of_tabIs h w' (hf.below (Nat.le_refl _) (by simp))

theorem fr_grow (w : World) (k : Nat) (os : Array Obj) : Fr [] w (Go.Sort.grow (w.drewN k) os) :=
  ⟨rfl, rfl, rfl, by simp [Go.Sort.grow, World.drewN], fun i hi _ => by simp only [Go.Sort.grow, World.drewN]; exact Array.getElem?_append_left hi⟩

theorem itoa_any (n : Int) (w : World) (h0 : -9223372036854775808 ≤ n) (h1 : n ≤ 9223372036854775807) (ht : PowTab w) :
    Calls Tryz.prog 57 #[.int .i64 n] w fun e w' => ∃ s : ByteArray, s.size ≤ 21 ∧ e = .returned (.string s) ∧ Fr [] w w' :=
  (Any.strconv_Itoa Tryz.laysM171 n h0 h1 w ht).mono fun e w' ⟨he, k, os, hw⟩ => ⟨_, by have := Lib.itoa_length_le n h0 h1; simpa [ByteArray.size] using this, he, by rw [hw]; exact fr_grow w k os⟩

end Go.Proofs.YtakbfoegkjaphaaGreatDoor

namespace Go.Proofs.YtakbfoegkjaphaaGreatDoor
open Go.RowKit

theorem Funcs3.new (W : World) (c0 c1 c2 : ByteArray) (t : TypeId) :
    Funcs3 (W.alloc (.cells #[.int .i64 0, .int .i64 0, .string c0, .int .i64 0, .int .i64 0, .string c1, .int .i64 0, .int .i64 0, .string c2] t)) W.heap.size c0 c1 c2 := by
  constructor <;> simp

set_option maxRecDepth 100000 in
set_option maxHeartbeats 1000000 in
theorem five_any (w : World) : Calls Tryz.prog 9 #[] w fun e w' => ∃ s : ByteArray, s.size ≤ 200 ∧ e = .returned (.string s) ∧ Fr [] w w' := by
  have HP : Hid _ := fun (fb : Nat) (c0 c1 c2 : ByteArray) (W : World) (h : Funcs3 W fb c0 c1 c2) (h0 : c0.size ≤ 10) (h1 : c1.size ≤ 10) (h2 : c2.size ≤ 10) => pack_five fb c0 c1 c2 W h h0 h1 h2
  unfold modV at *
  have Hf : Hid _ := fun a b c => (((Fr.refl [] w).alloc a).alloc b).alloc c
  go_enter Tryz.func9, Tryz.ntmps9
  go_wp2_with fail
  refine (HP.out _ ⟨#[0, 10, 27, 44, 1, 52]⟩ ⟨#[52]⟩ ⟨#[52]⟩ _ ?_ (by decide) (by decide) (by decide)).mono ?_
  · have h := (Funcs3.new (w.alloc (Obj.cells #[Value.int IntKind.i64 0, Value.int IntKind.i64 0, Value.string { data := #[52] }] 55)) ⟨#[0, 10, 27, 44, 1, 52]⟩ ⟨#[52]⟩ ⟨#[52]⟩ 55).fr ((Fr.refl [] _).alloc (Obj.cells #[Value.slice none 0 0, Value.slice none 0 0, Value.int IntKind.i64 0, Value.int IntKind.i64 0, Value.slice (some { block := w.heap.size + 1, off := 0 }) 3 3] 48))
    rw [World.size_alloc] at h
    exact h
  rintro e w1 ⟨s, hs, rfl, f1⟩
  have fw := (Hf.out _ _ _).trans f1
  clear f1
  go_wp2
  go_ret
  exact ⟨s, hs, rfl, fw⟩

/-- One step's cells. -/
structure OpR where
  k : Int
  a : Int
  b : Int
  s : ByteArray
  t : ByteArray
  u : ByteArray
def OpR.val (o : OpR) : Value := .agg #[.int .i64 o.k, .int .i64 o.a, .int .i64 o.b, .string o.s, .string o.t, .string o.u]
structure OpAt (W : World) (g off : Nat) (o : OpR) : Prop where
  k : W.cell? ⟨g, off, none⟩ = some (.int .i64 o.k)
  a : W.cell? ⟨g, off + 1, none⟩ = some (.int .i64 o.a)
  b : W.cell? ⟨g, off + 2, none⟩ = some (.int .i64 o.b)
  s : W.cell? ⟨g, off + 3, none⟩ = some (.string o.s)
  t : W.cell? ⟨g, off + 4, none⟩ = some (.string o.t)
  u : W.cell? ⟨g, off + 5, none⟩ = some (.string o.u)
theorem OpAt.fr {S : List Nat} {W W' : World} {g off : Nat} {o : OpR} (h : OpAt W g off o) (hf : Fr S W W') (hn : g ∉ S) : OpAt W' g off o := by
  have hl : g < W.heap.size := lt_of_cell (a := ⟨g, off, none⟩) h.k
  exact ⟨(hf.cell (p := ⟨g, off, none⟩) hl hn).trans h.k, (hf.cell (p := ⟨g, off + 1, none⟩) hl hn).trans h.a, (hf.cell (p := ⟨g, off + 2, none⟩) hl hn).trans h.b,
    (hf.cell (p := ⟨g, off + 3, none⟩) hl hn).trans h.s, (hf.cell (p := ⟨g, off + 4, none⟩) hl hn).trans h.t, (hf.cell (p := ⟨g, off + 5, none⟩) hl hn).trans h.u⟩
/-- What is asked of a step: its numbers are ints, its texts are not great. -/
structure OpOk (o : OpR) : Prop where
  k0 : -9223372036854775808 ≤ o.k
  k1 : o.k ≤ 9223372036854775807
  a0 : -9223372036854775808 ≤ o.a
  a1 : o.a ≤ 9223372036854775807
  b0 : -9223372036854775808 ≤ o.b
  b1 : o.b ≤ 9223372036854775807
  s : o.s.size ≤ 2000000
  t : o.t.size ≤ 2000000
  u : o.u.size ≤ 2000000
/-- A list of steps. -/
def OpsAt (W : World) (g off n : Nat) : Prop := ∀ i, i < n → ∃ o, OpAt W g (off + i * 6) o ∧ OpOk o
theorem OpsAt.fr {S : List Nat} {W W' : World} {g off n : Nat} (h : OpsAt W g off n) (hf : Fr S W W') (hn : g ∉ S) : OpsAt W' g off n := fun i hi => by
  obtain ⟨o, h1, h2⟩ := h i hi
  exact ⟨o, h1.fr hf hn, h2⟩

theorem opOk_of (k b : Int) (s t : ByteArray) (hk : 0 ≤ k) (hk1 : k ≤ 100) (hb : 0 ≤ b) (hb1 : b ≤ 100) (hs : s.size ≤ 200) (ht : t.size ≤ 200) : OpOk ⟨k, 0, b, s, t, ⟨#[]⟩⟩ :=
  ⟨by simp; omega, by simp; omega, by simp, by simp, by simp; omega, by simp; omega, by simp; omega, by simp; omega, (by decide : (⟨#[]⟩ : ByteArray).size ≤ 2000000)⟩

set_option maxRecDepth 100000 in
set_option maxHeartbeats 2000000 in
theorem opening_any (w : World) : Calls Tryz.prog 5 #[] w fun e w' => ∃ g : Nat, e = .returned (.slice (some ⟨g, 0, none⟩) 11 11) ∧ w.heap.size ≤ g ∧ g < w'.heap.size ∧ OpsAt w' g 0 11 ∧ Fr [] w w' := by
  have H := five_any w
  go_enter Tryz.func5, Tryz.ntmps5
  go_wp2_with fail
  refine H.mono ?_
  rintro e w1 ⟨s, hs, rfl, f1⟩
  have fa := fun o => f1.alloc o
  have Hf : Hid _ := fa
  have hsz := f1.size
  clear H fa
  go_wp2
  go_ret
  refine ⟨w1.heap.size, rfl, hsz, by simp, ?_, Hf.out _⟩
  intro i hi
  obtain rfl | rfl | rfl | rfl | rfl | rfl | rfl | rfl | rfl | rfl | rfl : i = 0 ∨ i = 1 ∨ i = 2 ∨ i = 3 ∨ i = 4 ∨ i = 5 ∨ i = 6 ∨ i = 7 ∨ i = 8 ∨ i = 9 ∨ i = 10 := by omega
  · exact ⟨⟨9, 0, 0, ⟨#[98, 43]⟩, ⟨#[97, 98, 98]⟩, ⟨#[]⟩⟩, by constructor <;> simp, opOk_of _ _ _ _ (by omega) (by omega) (by omega) (by omega) (by decide) (by decide)⟩
  · exact ⟨⟨1, 0, 0, ⟨#[71, 76]⟩, ⟨#[]⟩, ⟨#[]⟩⟩, by constructor <;> simp, opOk_of _ _ _ _ (by omega) (by omega) (by omega) (by omega) (by decide) (by decide)⟩
  · exact ⟨⟨13, 0, 0, ⟨#[]⟩, ⟨#[]⟩, ⟨#[]⟩⟩, by constructor <;> simp, opOk_of _ _ _ _ (by omega) (by omega) (by omega) (by omega) (by decide) (by decide)⟩
  · exact ⟨⟨14, 0, 0, ⟨#[]⟩, ⟨#[]⟩, ⟨#[]⟩⟩, by constructor <;> simp, opOk_of _ _ _ _ (by omega) (by omega) (by omega) (by omega) (by decide) (by decide)⟩
  · exact ⟨⟨1, 0, 0, s, ⟨#[]⟩, ⟨#[]⟩⟩, by constructor <;> simp, opOk_of _ _ _ _ (by omega) (by omega) (by omega) (by omega) hs (by decide)⟩
  · exact ⟨⟨13, 0, 0, ⟨#[]⟩, ⟨#[]⟩, ⟨#[]⟩⟩, by constructor <;> simp, opOk_of _ _ _ _ (by omega) (by omega) (by omega) (by omega) (by decide) (by decide)⟩
  · exact ⟨⟨14, 0, 0, ⟨#[]⟩, ⟨#[]⟩, ⟨#[]⟩⟩, by constructor <;> simp, opOk_of _ _ _ _ (by omega) (by omega) (by omega) (by omega) (by decide) (by decide)⟩
  · exact ⟨⟨15, 0, 0, ⟨#[]⟩, ⟨#[]⟩, ⟨#[]⟩⟩, by constructor <;> simp, opOk_of _ _ _ _ (by omega) (by omega) (by omega) (by omega) (by decide) (by decide)⟩
  · exact ⟨⟨16, 0, 3, ⟨#[]⟩, ⟨#[]⟩, ⟨#[]⟩⟩, by constructor <;> simp, opOk_of _ _ _ _ (by omega) (by omega) (by omega) (by omega) (by decide) (by decide)⟩
  · exact ⟨⟨17, 0, 0, ⟨#[]⟩, ⟨#[]⟩, ⟨#[]⟩⟩, by constructor <;> simp, opOk_of _ _ _ _ (by omega) (by omega) (by omega) (by omega) (by decide) (by decide)⟩
  · exact ⟨⟨19, 0, 0, ⟨#[66, 69, 71, 73, 78, 32, 123, 32, 112, 114, 105, 110, 116, 32, 49, 59, 32, 125]⟩, ⟨#[]⟩, ⟨#[]⟩⟩, by constructor <;> simp, opOk_of _ _ _ _ (by omega) (by omega) (by omega) (by omega) (by decide) (by decide)⟩

end Go.Proofs.YtakbfoegkjaphaaGreatDoor

namespace Go.Proofs.YtakbfoegkjaphaaGreatDoor
open Go.RowKit

/-- The blocks whose mark is not among S are as they were. -/
structure Chg (tag : Nat → Nat) (S : List Nat) (W W' : World) : Prop where
  os : W'.os = W.os
  tape : W'.tape = W.tape
  output : W'.output = W.output
  size : W.heap.size ≤ W'.heap.size
  block : ∀ k, k < W.heap.size → tag k ∉ S → W'.heap[k]? = W.heap[k]?

theorem Chg.of_fr {tag : Nat → Nat} {S : List Nat} {W W' : World} (h : Fr [] W W') : Chg tag S W W' := ⟨h.os, h.tape, h.output, h.size, fun k hk _ => h.block k hk (by simp)⟩
theorem Chg.refl (tag : Nat → Nat) (S : List Nat) (W : World) : Chg tag S W W := Chg.of_fr (Fr.refl [] W)
theorem Chg.trans {tag tag' : Nat → Nat} {S S' : List Nat} {a b c : World} (h : Chg tag S a b) (k : Chg tag' S' b c) (ht : ∀ i, i < a.heap.size → tag i ∉ S → tag' i ∉ S') : Chg tag S a c :=
  ⟨k.os.trans h.os, k.tape.trans h.tape, k.output.trans h.output, Nat.le_trans h.size k.size, fun i hi hn => (k.block i (Nat.lt_of_lt_of_le hi h.size) (ht i hi hn)).trans (h.block i hi hn)⟩
theorem Chg.mono {tag : Nat → Nat} {S S' : List Nat} {a b : World} (h : Chg tag S a b) (hs : ∀ x, x ∈ S → x ∈ S') : Chg tag S' a b :=
  ⟨h.os, h.tape, h.output, h.size, fun i hi hn => h.block i hi (fun hx => hn (hs _ hx))⟩
theorem Chg.setCell {tag : Nat → Nat} {S : List Nat} (W : World) {p : Addr} (hp : tag p.block ∈ S) (u : Value) : Chg tag S W (W.setCell p u) :=
  ⟨rfl, rfl, rfl, by simp [World.setCell], fun k hk hn => Below.heap_setCell _ _ _ _ (by rintro rfl; exact hn hp)⟩
theorem Chg.grown {tag : Nat → Nat} {S : List Nat} {W W' : World} {row : Option Nat} (h : W.grownBy W' row) (hr : ∀ k, row = some k → tag k ∈ S) : Chg tag S W W' :=
  ⟨h.os, h.tape, h.output, h.size, fun k hk hn => h.block k hk (fun e => hn (hr k e.symm))⟩
theorem Chg.cell {tag : Nat → Nat} {S : List Nat} {W W' : World} (h : Chg tag S W W') {p : Addr} (hp : p.block < W.heap.size) (hn : tag p.block ∉ S) : W'.cell? p = W.cell? p := World.cell?_of_block (w := W) (h.block p.block hp hn)
theorem Chg.frozen {tag : Nat → Nat} {S : List Nat} {W W' : World} (h : Chg tag S W W') {p : Addr} (hp : p.block < W.heap.size) (hn : tag p.block ∉ S) : W'.frozen? p = W.frozen? p := World.frozen?_of_block (w := W) (h.block p.block hp hn)

/-- The block of a list bears a mark. -/
def Tg (tag : Nat → Nat) (v : Value) (t : Nat) : Prop := ∀ g, v.ownBlock = some g → tag g = t
theorem Tg.nil (tag : Nat → Nat) (t : Nat) : Tg tag (.slice none 0 0) t := fun g h => by cases h

theorem own_block {W W' : World} {B : Nat} {e : TypeId} {k : Nat} {v : Value} {n : Nat} {xs : List Value} (h : W.ownsRow B e k v n xs) (hb : ∀ g, v.ownBlock = some g → W'.heap[g]? = W.heap[g]?) : W'.ownsRow B e k v n xs := by
  refine ⟨h.1, ?_⟩
  rcases h.2 with h' | ⟨g, cap, cur, hv, hg, hh, r⟩
  · exact .inl h'
  · exact .inr ⟨g, cap, cur, hv, hg, by rw [hb g (by rw [hv]; rfl)]; exact hh, r⟩

/-- A row of its own, its block marked. -/
structure RowT (B : Nat) (W : World) (tag : Nat → Nat) (t : Nat) (e : TypeId) (size : Nat) (v : Value) (n : Nat) (xs : List Value) : Prop where
  own : W.ownsRow B e size v n xs
  tg : Tg tag v t
theorem RowT.nil (B : Nat) (W : World) (tag : Nat → Nat) (t : Nat) (e : TypeId) (size : Nat) : RowT B W tag t e size (.slice none 0 0) 0 [] := ⟨World.ownsRow_nil _ _ _ _, Tg.nil _ _⟩
theorem RowT.chg {B : Nat} {W W' : World} {tag : Nat → Nat} {t : Nat} {e : TypeId} {size : Nat} {v : Value} {n : Nat} {xs : List Value} {S : List Nat} (h : RowT B W tag t e size v n xs) (hc : Chg tag S W W') (ht : t ∉ S) : RowT B W' tag t e size v n xs :=
  ⟨own_block h.own fun g hg => hc.block g (h.own.lt g hg).2 (by rw [h.tg g hg]; exact ht), h.tg⟩
theorem RowT.retag {B : Nat} {W : World} {tag tag' : Nat → Nat} {t : Nat} {e : TypeId} {size : Nat} {v : Value} {n : Nat} {xs : List Value} (h : RowT B W tag t e size v n xs) (ht : ∀ k, k < W.heap.size → tag k = t → tag' k = t) : RowT B W tag' t e size v n xs :=
  ⟨h.own, fun g hg => ht g (h.own.lt g hg).2 (h.tg g hg)⟩

theorem AllAt.chg {W W' : World} {tag : Nat → Nat} {v : Value} {m : ByteArray} {S : List Nat} {t : Nat} (h : AllAt W v m) (hv : Tg tag v t) (hc : Chg tag S W W') (ht : t ∉ S) : AllAt W' v m := by
  rcases h with rfl | ⟨g, n, cap, rfl, hc1, hn, hg, h⟩
  · exact .inl rfl
  · refine .inr ⟨g, n, cap, rfl, hc1, hn, Nat.lt_of_lt_of_le hg hc.size, fun i hi => ?_⟩
    rw [hc.cell (p := ⟨g, i, none⟩) hg (by rw [hv g rfl]; exact ht)]
    exact h i hi
theorem AllAt.retag {W : World} {tag tag' : Nat → Nat} {v : Value} {m : ByteArray} {t : Nat} (h : AllAt W v m) (hv : Tg tag v t) (ht : ∀ k, k < W.heap.size → tag k = t → tag' k = t) : Tg tag' v t := by
  rcases h with rfl | ⟨g, n, cap, rfl, hc1, hn, hg, h⟩
  · exact Tg.nil _ _
  · intro g' hg'
    obtain rfl : g = g' := by simpa [Value.ownBlock] using hg'
    exact ht g hg (hv g rfl)
theorem StrsAt.chg {W W' : World} {tag : Nat → Nat} {v : Value} {L : List ByteArray} {S : List Nat} {t : Nat} (h : StrsAt W v L) (hv : Tg tag v t) (hc : Chg tag S W W') (ht : t ∉ S) : StrsAt W' v L := by
  rcases h with h | ⟨g, cap, rfl, hc1, hg, h⟩
  · exact .inl h
  · refine .inr ⟨g, cap, rfl, hc1, Nat.lt_of_lt_of_le hg hc.size, fun i x hi => ?_⟩
    rw [hc.cell (p := ⟨g, i, none⟩) hg (by rw [hv g rfl]; exact ht)]
    exact h i x hi
theorem StrsAt.retag {W : World} {tag tag' : Nat → Nat} {v : Value} {L : List ByteArray} {t : Nat} (h : StrsAt W v L) (hv : Tg tag v t) (ht : ∀ k, k < W.heap.size → tag k = t → tag' k = t) : Tg tag' v t := by
  rcases h with ⟨_, rfl⟩ | ⟨g, cap, rfl, hc1, hg, h⟩
  · exact Tg.nil _ _
  · intro g' hg'
    obtain rfl : g = g' := by simpa [Value.ownBlock] using hg'
    exact ht g hg (hv g rfl)

/-- A marked list, and what came of appending to it. -/
structure Book where
  m : ByteArray
  l : Value
  g1 : Value
  g2 : Value
  g3 : Value
def Book.cells (x : Book) : List Value := [.string x.m, x.l, x.g1, x.g2, x.g3]
structure BookOk (W : World) (tag : Nat → Nat) (x : Book) : Prop where
  l : AllAt W x.l x.m
  g1 : AllAt W x.g1 x.m
  g2 : AllAt W x.g2 x.m
  g3 : AllAt W x.g3 x.m
  tl : Tg tag x.l 8
  t1 : Tg tag x.g1 8
  t2 : Tg tag x.g2 8
  t3 : Tg tag x.g3 8
theorem BookOk.chg {W W' : World} {tag : Nat → Nat} {x : Book} {S : List Nat} (h : BookOk W tag x) (hc : Chg tag S W W') (ht : 8 ∉ S) : BookOk W' tag x :=
  ⟨h.l.chg h.tl hc ht, h.g1.chg h.t1 hc ht, h.g2.chg h.t2 hc ht, h.g3.chg h.t3 hc ht, h.tl, h.t1, h.t2, h.t3⟩
theorem BookOk.retag {W : World} {tag tag' : Nat → Nat} {x : Book} (h : BookOk W tag x) (ht : ∀ k, k < W.heap.size → tag k = 8 → tag' k = 8) : BookOk W tag' x :=
  ⟨h.l, h.g1, h.g2, h.g3, h.l.retag h.tl ht, h.g1.retag h.t1 ht, h.g2.retag h.t2 ht, h.g3.retag h.t3 ht⟩

/-- The fifteen cells of the script's world, its block of the call's own. -/
structure CorI (w0 W : World) (b : Nat) (tag : Nat → Nat) (c : Nat → Value) : Prop where
  fr : Fr [] w0 W
  low : ∀ k, k < w0.heap.size → tag k = 7
  hb : w0.heap.size ≤ b
  tb : tag b = 0
  cell : ∀ i, i < 15 → W.cell? ⟨b, i, none⟩ = some (c i)
  fz : ∀ i, i < 15 → W.frozen? ⟨b, i, none⟩ = false
theorem CorI.lt {w0 W : World} {b : Nat} {tag : Nat → Nat} {c : Nat → Value} (h : CorI w0 W b tag c) : b < W.heap.size := lt_of_cell (a := ⟨b, 0, none⟩) (h.cell 0 (by decide))
theorem fr_chg {w0 W W' : World} {tag : Nat → Nat} {S : List Nat} (h : Fr [] w0 W) (low : ∀ k, k < w0.heap.size → tag k = 7) (hc : Chg tag S W W') (h7 : 7 ∉ S) : Fr [] w0 W' :=
  ⟨hc.os.trans h.os, hc.tape.trans h.tape, hc.output.trans h.output, Nat.le_trans h.size hc.size, fun k hk hn => (hc.block k (Nat.lt_of_lt_of_le hk h.size) (by rw [low k hk]; exact h7)).trans (h.block k hk hn)⟩
theorem CorI.chg {w0 W W' : World} {b : Nat} {tag : Nat → Nat} {c : Nat → Value} {S : List Nat} (h : CorI w0 W b tag c) (hc : Chg tag S W W') (h0 : 0 ∉ S) (h7 : 7 ∉ S) : CorI w0 W' b tag c :=
  ⟨fr_chg h.fr h.low hc h7, h.low, h.hb, h.tb, fun i hi => (hc.cell (p := ⟨b, i, none⟩) h.lt (by rw [h.tb]; exact h0)).trans (h.cell i hi), fun i hi => (hc.frozen (p := ⟨b, i, none⟩) h.lt (by rw [h.tb]; exact h0)).trans (h.fz i hi)⟩
/-- The cells, one of them turned. -/
def upd (c : Nat → Value) (i : Nat) (v : Value) : Nat → Value := fun j => if j = i then v else c j
theorem CorI.set {w0 W : World} {b : Nat} {tag : Nat → Nat} {c : Nat → Value} (h : CorI w0 W b tag c) (i : Nat) (hi : i < 15) (v : Value) : CorI w0 (W.setCell ⟨b, i, none⟩ v) b tag (upd c i v) := by
  refine ⟨fr_chg (S := [0]) h.fr h.low (Chg.setCell W (by rw [h.tb]; simp) v) (by simp), h.low, h.hb, h.tb, fun j hj => ?_, fun j hj => ?_⟩
  · by_cases e : j = i
    · subst e
      rw [World.cell?_setCell_same' _ _ _ (by rw [h.cell j hj]; rfl)]
      simp [upd]
    · rw [setCell_off (fun e' => e e'.symm), h.cell j hj]
      simp [upd, e]
  · rw [World.frozen?_setCell]; exact h.fz j hj
theorem CorI.retag {w0 W : World} {b : Nat} {tag tag' : Nat → Nat} {c : Nat → Value} (h : CorI w0 W b tag c) (ht : ∀ k, k < W.heap.size → tag k < 8 → tag' k = tag k) : CorI w0 W b tag' c :=
  ⟨h.fr, fun k hk => by rw [ht k (Nat.lt_of_lt_of_le hk h.fr.size) (by rw [h.low k hk]; decide)]; exact h.low k hk, h.hb, by rw [ht b h.lt (by rw [h.tb]; decide)]; exact h.tb, h.cell, h.fz⟩

/-- The script's world: what the caller has, the marked lists, the lists that wait. -/
structure ScrI (w0 W : World) (b : Nat) (tag : Nat → Nat) (c : Nat → Value) (T : Nat) (bk : List Book) (wl el : List Value) : Prop where
  core : CorI w0 W b tag c
  n0 : c 0 = .slice none 0 0
  n1 : ∃ s : ByteArray, c 1 = .string s ∧ s.size ≤ 2000000
  n2 : c 2 = .string ⟨#[]⟩
  r3 : ∃ n xs, RowT w0.heap.size W tag 1 9 1 (c 3) n xs ∧ n ≤ T
  r4 : ∃ n xs, RowT w0.heap.size W tag 2 3 1 (c 4) n xs ∧ n ≤ T
  n6 : c 6 = .int .i64 bk.length
  r7 : RowT w0.heap.size W tag 3 52 5 (c 7) bk.length (bk.flatMap Book.cells)
  n8 : c 8 = .slice none 0 0
  r11 : RowT w0.heap.size W tag 4 27 1 (c 11) wl.length wl
  r12 : RowT w0.heap.size W tag 5 27 1 (c 12) el.length el
  n13 : c 13 = .slice none 0 0
  n14 : c 14 = .slice none 0 0
  books : ∀ x, x ∈ bk → BookOk W tag x

theorem ScrI.chg {w0 W W' : World} {b : Nat} {tag : Nat → Nat} {c : Nat → Value} {T : Nat} {bk : List Book} {wl el : List Value} {S : List Nat} (h : ScrI w0 W b tag c T bk wl el) (hc : Chg tag S W W') (hS : ∀ x, x ∈ S → 8 < x) : ScrI w0 W' b tag c T bk wl el := by
  have hn : ∀ x, x ≤ 8 → x ∉ S := fun x hx hm => by have := hS x hm; omega
  obtain ⟨n3, x3, h3, t3⟩ := h.r3
  obtain ⟨n4, x4, h4, t4⟩ := h.r4
  exact ⟨h.core.chg hc (hn 0 (by omega)) (hn 7 (by omega)), h.n0, h.n1, h.n2, ⟨n3, x3, h3.chg hc (hn 1 (by omega)), t3⟩, ⟨n4, x4, h4.chg hc (hn 2 (by omega)), t4⟩, h.n6, h.r7.chg hc (hn 3 (by omega)), h.n8,
    h.r11.chg hc (hn 4 (by omega)), h.r12.chg hc (hn 5 (by omega)), h.n13, h.n14, fun x hx => (h.books x hx).chg hc (hn 8 (by omega))⟩
theorem ScrI.frm {w0 W W' : World} {b : Nat} {tag : Nat → Nat} {c : Nat → Value} {T : Nat} {bk : List Book} {wl el : List Value} (h : ScrI w0 W b tag c T bk wl el) (hf : Fr [] W W') : ScrI w0 W' b tag c T bk wl el :=
  h.chg (S := []) (Chg.of_fr hf) (by simp)
theorem ScrI.retag {w0 W : World} {b : Nat} {tag tag' : Nat → Nat} {c : Nat → Value} {T : Nat} {bk : List Book} {wl el : List Value} (h : ScrI w0 W b tag c T bk wl el) (ht : ∀ k, k < W.heap.size → tag k < 9 → tag' k = tag k) : ScrI w0 W b tag' c T bk wl el := by
  have hr : ∀ t, t < 9 → ∀ k, k < W.heap.size → tag k = t → tag' k = t := fun t h1 k hk h2 => by rw [ht k hk (by omega)]; exact h2
  obtain ⟨n3, x3, h3, t3⟩ := h.r3
  obtain ⟨n4, x4, h4, t4⟩ := h.r4
  exact ⟨h.core.retag (fun k hk h1 => ht k hk (by omega)), h.n0, h.n1, h.n2, ⟨n3, x3, h3.retag (hr 1 (by omega)), t3⟩, ⟨n4, x4, h4.retag (hr 2 (by omega)), t4⟩, h.n6, h.r7.retag (hr 3 (by omega)), h.n8,
    h.r11.retag (hr 4 (by omega)), h.r12.retag (hr 5 (by omega)), h.n13, h.n14, fun x hx => (h.books x hx).retag (hr 8 (by omega))⟩

/-- New blocks are given a mark. -/
def newTag (tag : Nat → Nat) (n t : Nat) : Nat → Nat := fun k => if k < n then tag k else t
theorem newTag_old {tag : Nat → Nat} {n t k : Nat} (h : k < n) : newTag tag n t k = tag k := by simp [newTag, h]
theorem newTag_new {tag : Nat → Nat} {n t k : Nat} (h : n ≤ k) : newTag tag n t k = t := by simp [newTag]; omega

/-- A list that waits: a row of the program's own; what it was. -/
structure WaitOk (B : Nat) (W : World) (tag : Nat → Nat) (t : Nat) (v u : Value) (L : List ByteArray) : Prop where
  own : RowT B W tag t 9 1 v L.length (L.map Value.string)
  were : StrsAt W u L
  tu : Tg tag u 8
  len : L.length ≤ 1000
theorem WaitOk.chg {B : Nat} {W W' : World} {tag : Nat → Nat} {t : Nat} {v u : Value} {L : List ByteArray} {S : List Nat} (h : WaitOk B W tag t v u L) (hc : Chg tag S W W') (ht : t ∉ S) (h8 : 8 ∉ S) : WaitOk B W' tag t v u L :=
  ⟨h.own.chg hc ht, h.were.chg h.tu hc h8, h.tu, h.len⟩
theorem WaitOk.retag {B : Nat} {W : World} {tag tag' : Nat → Nat} {t : Nat} {v u : Value} {L : List ByteArray} (h : WaitOk B W tag t v u L) (ht : ∀ k, k < W.heap.size → tag k = t → tag' k = t) (h8 : ∀ k, k < W.heap.size → tag k = 8 → tag' k = 8) : WaitOk B W tag' t v u L :=
  ⟨h.own.retag ht, h.were, h.were.retag h.tu h8, h.len⟩
theorem WaitOk.strs {B : Nat} {W : World} {tag : Nat → Nat} {t : Nat} {v u : Value} {L : List ByteArray} (h : WaitOk B W tag t v u L) : StrsAt W v L := by
  rcases h.own.own.2 with ⟨hv, h0⟩ | ⟨g, cap, cur, hv, hb, hg, hn, _⟩
  · exact .inl ⟨List.eq_nil_of_length_eq_zero h0, hv⟩
  · refine .inr ⟨g, cap, hv, hn, (Array.getElem?_eq_some_iff.1 hg).1, fun i x hx => ?_⟩
    have := h.own.own.cells (g := g) (by rw [hv]; rfl) i (.string x) (by rw [List.getElem?_map, hx]; rfl)
    rcases i with _ | i
    · simpa [Addr.add] using this
    · simpa [Addr.add] using this
/-- All lists that wait, from the d-th on. -/
structure Waits (B : Nat) (W : World) (tag : Nat → Nat) (wl el : List Value) (d : Nat) : Prop where
  len : wl.length = el.length
  at_ : ∀ i v u, d ≤ i → wl[i]? = some v → el[i]? = some u → ∃ L, WaitOk B W tag (9 + i) v u L
theorem Waits.chg {B : Nat} {W W' : World} {tag : Nat → Nat} {wl el : List Value} {d : Nat} {S : List Nat} (h : Waits B W tag wl el d) (hc : Chg tag S W W') (hS : ∀ x, x ∈ S → x < 8) : Waits B W' tag wl el d :=
  ⟨h.len, fun i v u hi h1 h2 => by
    obtain ⟨L, hL⟩ := h.at_ i v u hi h1 h2
    exact ⟨L, hL.chg hc (fun hm => by have := hS _ hm; omega) (fun hm => by have := hS _ hm; omega)⟩⟩
theorem Waits.retag {B : Nat} {W : World} {tag tag' : Nat → Nat} {wl el : List Value} {d : Nat} (h : Waits B W tag wl el d) (ht : ∀ k, k < W.heap.size → tag k = 8 ∨ 9 + d ≤ tag k → tag' k = tag k) : Waits B W tag' wl el d :=
  ⟨h.len, fun i v u hi h1 h2 => by
    obtain ⟨L, hL⟩ := h.at_ i v u hi h1 h2
    exact ⟨L, hL.retag (fun k hk e => by rw [ht k hk (by omega)]; exact e) (fun k hk e => by rw [ht k hk (by omega)]; exact e)⟩⟩

end Go.Proofs.YtakbfoegkjaphaaGreatDoor

