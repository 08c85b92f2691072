/-
  Numbers in bytes, as the program reads and writes them.
-/
import Derived.Test.YticaoekmlaipnaaDoorM01
import Derived.Test.YticaoekmlaipnaaDoorM00
import Derived.Test.YticaoekmlaipnaaDoorRows
import Derived.WalkKit
import Derived.WalkSpells
import Derived.WalkLawsBesides
import Derived.BigQuiet
import Derived.Deep.QuietTactic
import Derived.Maps.AppendAt
import Derived.Lib.AppendStr
import Derived.Lib.UnsafeStr
import Derived.Laws.OwnMore
set_option linter.unusedSimpArgs false
set_option linter.unusedVariables false
namespace Go.Proofs.YticaoekmlaipnaaDoor
open Go.RowKit
open Wire

/-- The number at the head of bytes, or 0; how many bytes it has, or 0. -/
def numV (l : List UInt8) : Nat := match num l with
  | none => 0
  | some p => p.1
def numK (l : List UInt8) : Nat := match num l with
  | none => 0
  | some p => l.length - p.2.length

theorem getD_bl (c : ByteArray) (i : Nat) (h : i < c.size) : (bl c).getD i 0 = c[i] := by
  have : i < (bl c).length := by rw [bl_length]; exact h
  rw [List.getD_eq_getElem?_getD, List.getElem?_eq_getElem this]
  simp only [bl, Option.getD_some, Array.getElem_toList]
  rfl

theorem wraps_u64 (n : Int) (h₀ : 0 ≤ n) (h₁ : n < 18446744073709551616) : IntKind.u64.wrap n = n := by rw [IntKind.wrap_u64]; omega

theorem pow7 (k : Nat) (hk : k < 5) : (2 : Nat) ^ (7 * k) ≤ 268435456 := by
  have : (2 : Nat) ^ (7 * k) ≤ 2 ^ 28 := Nat.pow_le_pow_right (by omega) (by omega)
  omega

theorem or_fact (A x k B : Nat) (hx : x < 256) (hk : k < 5) (hA : A < 128 ^ k) (hB : A ||| ((x &&& 127) <<< (7 * k)) = B) :
    bits .or .u64 (A : Int) (IntKind.u64.wrap (IntKind.u64.wrap (bits .and .u8 (x : Int) 127) * 2 ^ (7 * k))) = (B : Int) := by
  have h1 : bits .and .u8 (x : Int) 127 = ((x &&& 127 : Nat) : Int) := (bits_nat .u8 8 (by decide) (fun n a b => wraps_u8 n a b) x 127 (by omega) (by omega)).1
  have h2 : x &&& 127 ≤ 127 := Nat.and_le_right
  have h3 := pow7 k hk
  have h4 : (x &&& 127) * 2 ^ (7 * k) ≤ 127 * 268435456 := Nat.mul_le_mul h2 h3
  have h5 : (((x &&& 127 : Nat) : Int) * 2 ^ (7 * k)) = (((x &&& 127) * 2 ^ (7 * k) : Nat) : Int) := by push_cast; rfl
  have h6 : (128 : Nat) ^ k ≤ 128 ^ 5 := Nat.pow_le_pow_right (by omega) (by omega)
  rw [h1, wraps_u64 (((x &&& 127 : Nat) : Int)) (by omega) (by omega), h5, wraps_u64 _ (by omega) (by omega), bits_or_u64_nat _ _ (by omega) (by omega), ← hB, Nat.shiftLeft_eq]

theorem accN_small (c : List UInt8) (k : Nat) (h : k ≤ 5) : accN c k < 34359738368 := by
  have h6 : (128 : Nat) ^ k ≤ 128 ^ 5 := Nat.pow_le_pow_right (by omega) (by omega)
  have := accN_lt c k
  have := pow5
  omega

set_option maxRecDepth 100000 in
set_option maxHeartbeats 400000 in
theorem numRead_any (c : ByteArray) (hs : c.size ≤ 40000) (w : World) :
    Calls Tryd.prog 99 #[.string c] w fun e w' => e = .returned (.tuple #[.int .i64 (numV (bl c)), .int .i64 (numK (bl c))]) ∧ w' = w := by
  have hL := bl_length c
  obtain ⟨V, hV⟩ : ∃ V, numV (bl c) = V := ⟨_, rfl⟩
  obtain ⟨K, hK⟩ : ∃ K, numK (bl c) = K := ⟨_, rfl⟩
  rw [hV, hK]
  have HV : Hid _ := hV
  have HK : Hid _ := hK
  clear hV hK
  go_enter Tryd.func99, Tryd.ntmps99
  go_wp2
  all_goals
    go_loop [4, 5, 10] (fun a i j => ∃ k : Nat, k ≤ 5 ∧ k ≤ c.size ∧ a = .int .u64 (accN (bl c) k) ∧ j = .int .i64 k ∧ ∀ m, m < k → 128 ≤ ((bl c).getD m 0).toNat) (fun _ _ i => 5 - (intOf i).toNat)
    case atStart => exact ⟨0, by omega, by omega, rfl, rfl, by omega⟩
    case round =>
      obtain ⟨k, hk5, hk, rfl, rfl, hall⟩ := hrel
      have ha := accN_lt (bl c) k
      have ho := accN_or (bl c) k
      by_cases hlt : k < 5 ∧ k < c.size
      · have g1 : (k : Int) < c.size := by omega
        have g2 : (k : Int) < 5 := by omega
        have gk := getD_bl c k hlt.2
        have hsm := accN_small (bl c) (k + 1) (by omega)
        have hst := fun h0 => num_stop (c := bl c) (i := k) hlt.1 (by omega) hall h0
        have hdl : ((bl c).drop (k + 1)).length = c.size - (k + 1) := by rw [List.length_drop, hL]
        have hxl := c[k].toNat_lt
        rw [gk] at ho hst
        obtain ⟨A, hA⟩ : ∃ A, accN (bl c) k = A := ⟨_, rfl⟩
        obtain ⟨B, hB⟩ : ∃ B, accN (bl c) (k + 1) = B := ⟨_, rfl⟩
        obtain ⟨x, hx⟩ : ∃ x, c[k].toNat = x := ⟨_, rfl⟩
        rw [hA] at ha ho
        rw [hB] at ho hsm hst
        rw [hx] at ho hst hxl
        simp only [hA]
        have hor := or_fact A x k B (by omega) hlt.1 ha ho
        have HB : Hid _ := hB
        have Hst : Hid _ := hst
        have Hall : Hid _ := hall
        have Hgk : Hid _ := gk
        clear hA ho hB hst hall ha gk
        by_cases hx1 : 128 ≤ x
        · have g3 : (128 : Int) ≤ x := by omega
          go_wp2
          go_round
          case rel =>
            refine ⟨k + 1, by omega, by omega, by rw [HB.out], by go_num, fun m hm => ?_⟩
            by_cases e : m = k
            · subst e; rw [Hgk.out, hx]; exact hx1
            · exact Hall.out m (by omega)
          case measure => simp [intOf]; omega
        · have g3 : ¬ (128 : Int) ≤ x := by omega
          have hst := Hst.out (by omega)
          clear Hst
          by_cases hz : 0 < k ∧ x = 0
          · rw [if_pos hz] at hst
            have g4 : (0 : Int) < k := by omega
            have g5 : (x : Int) = 0 := by omega
            have g6 : ((x : Int) == 0) = true := by simp; omega
            obtain rfl : V = 0 := by rw [← HV.out]; simp only [numV, hst]
            obtain rfl : K = 0 := by rw [← HK.out]; simp only [numK, hst]
            obtain rfl : x = 0 := hz.2
            clear hst hz
            go_wp2
            go_ret2
            exact ⟨rfl, rfl⟩
          · rw [if_neg hz] at hst
            obtain rfl : V = B := by rw [← HV.out]; simp only [numV, hst]
            obtain rfl : K = k + 1 := by rw [← HK.out]; simp only [numK, hst, hdl, hL]; omega
            clear hst HB
            by_cases hk0 : k = 0
            · have g4 : ¬ ((0 : Int) < k) := by omega
              clear hk0
              go_wp2
              go_ret2
              exact ⟨rfl, rfl⟩
            · have g4 : (0 : Int) < k := by omega
              have g6 : ((x : Int) == 0) = false := by simp; omega
              have g5 : ¬ ((x : Int) = 0) := by omega
              go_wp2
              go_ret2
              exact ⟨rfl, rfl⟩
      · have hst := num_end (c := bl c) (i := k) hk5 (by omega) hall (by omega)
        obtain rfl : V = 0 := by rw [← HV.out]; simp only [numV, hst]
        obtain rfl : K = 0 := by rw [← HK.out]; simp only [numK, hst]
        clear hst ha ho
        by_cases hks : (k : Int) < 5
        · have g1 : ¬ ((k : Int) < c.size) := by omega
          first
          | (exfalso; omega)
          | (go_wp2
             go_ret2
             exact ⟨rfl, rfl⟩)
        · first
          | (exfalso; omega)
          | (have g1 : ¬ ((k : Int) < c.size) := by omega
             go_wp2
             go_ret2
             exact ⟨rfl, rfl⟩)
          | (go_wp2
             go_ret2
             exact ⟨rfl, rfl⟩)
end Go.Proofs.YticaoekmlaipnaaDoor

namespace Go.Proofs.YticaoekmlaipnaaDoor
open Go.RowKit
open Wire

theorem infoB : (Tryd.prog.info? 5).map (fun i => (i.zero, i.size, i.bytes)) = some (some (.int .u8 0), 1, 1) := by kernel_rfl

/-- Bytes that a call has made of its own since w0. -/
structure OwnB (w0 : World) (l : List UInt8) (v : Value) (W : World) : Prop where
  own : W.ownsRow w0.heap.size 5 1 v l.length (Lib.byteCells l)
  fr : Fr [] w0 W

/-- What was there but for v's own block is as it was; v' lies in it, or in a new one. -/
structure Grew (v : Value) (w : World) (v' : Value) (w' : World) : Prop where
  by_ : w.grownBy w' v.ownBlock
  blk : v'.ownBlock = v.ownBlock ∨ ∃ g, v'.ownBlock = some g ∧ w.heap.size ≤ g

theorem grownBy_refl (w : World) (r : Option Nat) : w.grownBy w r := ⟨rfl, rfl, rfl, Nat.le_refl _, fun _ _ _ => rfl⟩
theorem Grew.refl (v : Value) (w : World) : Grew v w v w := ⟨grownBy_refl _ _, .inl rfl⟩
theorem Grew.trans {v v1 v2 : Value} {w w1 w2 : World} (h : Grew v w v1 w1) (k : Grew v1 w1 v2 w2) : Grew v w v2 w2 := by
  refine ⟨⟨k.by_.os.trans h.by_.os, k.by_.tape.trans h.by_.tape, k.by_.output.trans h.by_.output, Nat.le_trans h.by_.size k.by_.size, fun b hb hn => ?_⟩, ?_⟩
  · rw [k.by_.block b (Nat.lt_of_lt_of_le hb h.by_.size) ?_, h.by_.block b hb hn]
    rcases h.blk with e | ⟨g, e, hg⟩
    · rw [e]; exact hn
    · rw [e]; intro e2; cases e2; omega
  · have hs := h.by_.size
    rcases k.blk with e | ⟨g, e, hg⟩
    · rcases h.blk with e2 | ⟨g2, e2, hg2⟩
      · exact .inl (e.trans e2)
      · exact .inr ⟨g2, e.trans e2, hg2⟩
    · exact .inr ⟨g, e, by omega⟩
theorem Grew.alloc {v : Value} {w : World} (o : Obj) : Grew v w v (w.alloc o) := ⟨⟨rfl, rfl, rfl, by simp, fun k hk _ => Below.heap_alloc _ _ _ hk⟩, .inl rfl⟩

theorem OwnB.start (w0 : World) : OwnB w0 [] (.slice none 0 0) w0 := ⟨World.ownsRow_nil _ _ _ _, Fr.refl _ _⟩
theorem Fr.grew {w w' : World} (h : Fr [] w w') (r : Option Nat) : w.grownBy w' r := ⟨h.os, h.tape, h.output, h.size, fun k hk _ => h.block k hk (by simp)⟩
theorem OwnB.kept {w0 : World} {l : List UInt8} {v : Value} {W W' : World} (h : OwnB w0 l v W) (hf : Fr [] W W') : OwnB w0 l v W' :=
  ⟨h.own.kept (hf.grew none) (by cases hv : v.ownBlock <;> simp), h.fr.trans hf⟩
theorem OwnB.grown {w0 : World} {l l' : List UInt8} {v v' : Value} {W W' : World} (h : OwnB w0 l v W) (hown : W'.ownsRow w0.heap.size 5 1 v' (l.length + l'.length) (Lib.byteCells l ++ Lib.byteCells l')) (hg : W.grownBy W' v.ownBlock) : OwnB w0 (l ++ l') v' W' := by
  refine ⟨by rw [List.length_append, Lib.byteCells, List.map_append]; exact hown, ?_⟩
  refine ⟨hg.os.trans h.fr.os, hg.tape.trans h.fr.tape, hg.output.trans h.fr.output, Nat.le_trans h.fr.size hg.size, fun k hk _ => ?_⟩
  have h1 := h.fr.size
  rw [hg.block k (by omega) (fun e => by have := (h.own.lt k e.symm).1; omega), h.fr.block k hk (by simp)]

theorem bits_or_u8 (a b : Nat) (ha : a < 256) (hb : b < 256) : bits .or .u8 (a : Int) (b : Int) = ((a ||| b : Nat) : Int) :=
  (bits_nat .u8 8 (by decide) (fun n a b => wraps_u8 n a b) a b (by omega) (by omega)).2

theorem or128 (n : Nat) : bits .or .u8 ((n : Int) % 256) 128 = (((UInt8.ofNat (128 + n % 128)).toNat : Nat) : Int) := by
  have h1 : (n : Int) % 256 = ((n % 256 : Nat) : Int) := by omega
  rw [h1, show (128 : Int) = ((128 : Nat) : Int) by rfl, bits_or_u8 _ _ (by omega) (by omega)]
  have e : (UInt8.ofNat (128 + n % 128)).toNat = 128 + n % 128 := by simp [UInt8.toNat_ofNat]; omega
  rw [e]
  congr 1
  have h2 : n % 256 = n % 128 ∨ n % 256 = 128 + n % 128 := by omega
  have h3 : ∀ m, m < 128 → m ||| 128 = 128 + m := fun m hm => by
    have := Nat.two_pow_add_eq_or_of_lt (i := 7) (b := m) (by omega) 1
    rw [Nat.or_comm]; exact this.symm
  have h4 : ∀ m, m < 128 → (128 + m) ||| 128 = 128 + m := fun m hm => by
    rw [← h3 m hm, Nat.or_assoc, Nat.or_self]
  rcases h2 with h | h <;> rw [h]
  · exact h3 _ (by omega)
  · exact h4 _ (by omega)

theorem low8 (n : Nat) (h : n < 128) : n = (UInt8.ofNat n).toNat := by
  have e : (UInt8.ofNat n).toNat = n := by simp [UInt8.toNat_ofNat]; omega
  exact e.symm

theorem one_byte (x : Int) : ∀ u ∈ [Value.int .u8 x], u.oneCell' = true := by intro u hu; simp at hu; subst hu; rfl
theorem le_alloc {b : Nat} {w : World} (o : Obj) (h : b ≤ w.heap.size) : b ≤ (w.alloc o).heap.size := by simp; omega
theorem le_maxLen {n m : Nat} (h : n + m ≤ 4000000000) : n + m ≤ maxLen := by unfold maxLen; omega
theorem le_bytes {n m : Nat} (h : n + m ≤ 4000000000) : (n + m) * 1 ≤ 140737488355328 := by omega

theorem digsF_len (f n : Nat) : (digsF f n).length ≤ f := by
  induction f generalizing n with
  | zero => simp [digsF]
  | succ f ih =>
    simp only [digsF]
    split
    · simp
    · have := ih (n / 128); simp; omega
theorem digs_len (n : Nat) : (digs n).length ≤ 10 := digsF_len 10 n

set_option maxRecDepth 100000 in
set_option maxHeartbeats 400000 in
theorem numAppend_any (w0 : World) (l : List UInt8) (v : Value) (n : Nat) (w : World) (hn : n < 9223372036854775808) (hl : l.length ≤ 1000000000) (h : OwnB w0 l v w) :
    Calls Tryd.prog 79 #[v, .int .i64 n] w fun e w' => ∃ v', e = .returned v' ∧ OwnB w0 (l ++ digs n) v' w' ∧ Grew v w v' w' := by
  obtain ⟨i0, hi, hz0, hz1, hz2⟩ := info_parts infoB
  have hDl := digs_len n
  obtain ⟨D, hD⟩ : ∃ D, digs n = D := ⟨_, rfl⟩
  rw [hD] at hDl ⊢
  have HD : Hid (l ++ digs n = l ++ D) := by rw [hD]; exact rfl
  clear hD
  have hDL : (l ++ D).length ≤ 1000000010 := by rw [List.length_append]; omega
  generalize l ++ D = E at *
  clear hDl
  go_enter Tryd.func79, Tryd.ntmps79
  go_wp2
  go_loopw [0, 1] (fun u m wr => ∃ (q : List UInt8) (k : Nat), m = .int .i64 k ∧ k ≤ n ∧ Hid (q ++ digs k = E) ∧ OwnB w0 q u wr ∧ Grew v w u wr) (fun _ m _ => (intOf m).toNat)
  case atStart => exact ⟨l, n, rfl, by omega, HD, h, Grew.refl _ _⟩
  case round =>
    obtain ⟨q, k, rfl, hk, hD, J, G⟩ := hrel
    clear HD h
    have hll : q.length ≤ 1000000010 := by have := congrArg List.length hD.out; rw [List.length_append] at this; omega
    have hown := J.own
    have hsz := J.fr.size
    by_cases h128 : 128 ≤ k
    · have g1 : (127 : Int) < k := by omega
      have hor := or128 k
      have hd := digs_ge h128 (by have := pow9; omega)
      obtain ⟨c, hc⟩ : ∃ c, UInt8.ofNat (128 + k % 128) = c := ⟨_, rfl⟩
      rw [hc] at hor hd
      have Hd : Hid _ := hd
      clear hc hd
      go_wp2_with (at_builtin; refine wpList_append_own_at _ rfl _ _ 50 rfl w0.heap.size 5 i0 (.int .u8 0) 1 1 Tryd.underlying50 hi hz0 hz1 hz2 rfl (by decide) _ _ _ rfl (hown.alloc _) ⟨wr.heap.size, 0, none⟩ 1 1 [.int .u8 c.toNat] rfl rfl (cell_one_new _ _ _) (one_byte _) (le_maxLen (by omega)) (le_bytes (by omega)) (le_alloc _ hsz) ?_)
      intro v' w3 hown' hgrow _ hat
      have J3 := (J.kept ((Fr.refl [] wr).alloc _)).grown (l' := [c]) hown' hgrow
      have G3 : Grew v w v' w3 := (G.trans (Grew.alloc _)).trans ⟨hgrow, hat.elim .inl (fun e => .inr ⟨_, e, by simp⟩)⟩
      clear hown hown' hgrow hat J G
      go_wp2
      refine ⟨⟨q ++ [c], k / 128, ?_, by omega, ?_, J3, G3⟩, ?_⟩
      · congr 1
      · have := hD.out
        rw [Hd.out] at this
        have e : q ++ [c] ++ digs (k / 128) = E := by rw [← this]; simp
        exact e
      · simp [intOf]; omega
    · have g1 : ¬ (127 : Int) < k := by omega
      have hlow := low8 k (by omega)
      have hd := digs_lt (n := k) (by omega)
      obtain ⟨c, hc⟩ : ∃ c, UInt8.ofNat k = c := ⟨_, rfl⟩
      rw [hc] at hlow hd
      have Hd : Hid _ := hd
      clear hc hd
      subst hlow
      go_wp2_with (at_builtin; refine wpList_append_own_at _ rfl _ _ 50 rfl w0.heap.size 5 i0 (.int .u8 0) 1 1 Tryd.underlying50 hi hz0 hz1 hz2 rfl (by decide) _ _ _ rfl (hown.alloc _) ⟨wr.heap.size, 0, none⟩ 1 1 [.int .u8 c.toNat] rfl rfl (cell_one_new _ _ _) (one_byte _) (le_maxLen (by omega)) (le_bytes (by omega)) (le_alloc _ hsz) ?_)
      intro v' w3 hown' hgrow _ hat
      have J3 := (J.kept ((Fr.refl [] wr).alloc _)).grown (l' := [c]) hown' hgrow
      have G3 : Grew v w v' w3 := (G.trans (Grew.alloc _)).trans ⟨hgrow, hat.elim .inl (fun e => .inr ⟨_, e, by simp⟩)⟩
      clear hown hown' hgrow hat J G
      have e : q ++ [c] = E := by rw [← Hd.out]; exact hD.out
      rw [e] at J3
      go_wp2
      go_ret
      exact ⟨v', rfl, J3, G3⟩
end Go.Proofs.YticaoekmlaipnaaDoor

namespace Go.Proofs.YticaoekmlaipnaaDoor
open Go.RowKit
open Wire

/-- A list of texts, as it comes in or goes out: nil, or cells in a row. -/
def StrsIn (W : World) (v : Value) (L : List ByteArray) : Prop :=
  ∃ (a0 : Option Addr) (cap g off : Nat), v = .slice a0 L.length cap ∧ L.length ≤ cap ∧ (0 < L.length → a0 = some ⟨g, off, none⟩ ∧ g < W.heap.size) ∧
    ∀ (i : Nat) (x : ByteArray), L[i]? = some x → W.cell? ⟨g, off + i, none⟩ = some (.string x)
/-- A list of functions. -/
def FnsIn (W : World) (v : Value) (L : List Wire.Fn) : Prop :=
  ∃ (a0 : Option Addr) (cap g off : Nat), v = .slice a0 L.length cap ∧ L.length ≤ cap ∧ (0 < L.length → a0 = some ⟨g, off, none⟩ ∧ g < W.heap.size) ∧
    ∀ (i : Nat) (x : Wire.Fn), L[i]? = some x → W.cell? ⟨g, off + i * 3, none⟩ = some (.int .i64 x.params) ∧ W.cell? ⟨g, off + i * 3 + 1, none⟩ = some (.int .i64 x.locs) ∧ W.cell? ⟨g, off + i * 3 + 2, none⟩ = some (.string x.code)

theorem StrsIn.fr {W W' : World} {v : Value} {L : List ByteArray} (h : StrsIn W v L) (hf : Fr [] W W') : StrsIn W' v L := by
  obtain ⟨a0, cap, g, off, hv, hc, ha, hx⟩ := h
  refine ⟨a0, cap, g, off, hv, hc, fun h0 => ⟨(ha h0).1, Nat.lt_of_lt_of_le (ha h0).2 hf.size⟩, fun i x hi => ?_⟩
  have h0 : 0 < L.length := by have := (List.getElem?_eq_some_iff.1 hi).1; omega
  exact (hf.cell (p := ⟨g, off + i, none⟩) (ha h0).2 (by simp)).trans (hx i x hi)
theorem FnsIn.fr {W W' : World} {v : Value} {L : List Wire.Fn} (h : FnsIn W v L) (hf : Fr [] W W') : FnsIn W' v L := by
  obtain ⟨a0, cap, g, off, hv, hc, ha, hx⟩ := h
  refine ⟨a0, cap, g, off, hv, hc, fun h0 => ⟨(ha h0).1, Nat.lt_of_lt_of_le (ha h0).2 hf.size⟩, fun i x hi => ?_⟩
  have h0 : 0 < L.length := by have := (List.getElem?_eq_some_iff.1 hi).1; omega
  obtain ⟨x0, x1, x2⟩ := hx i x hi
  exact ⟨(hf.cell (p := ⟨g, off + i * 3, none⟩) (ha h0).2 (by simp)).trans x0, (hf.cell (p := ⟨g, off + i * 3 + 1, none⟩) (ha h0).2 (by simp)).trans x1, (hf.cell (p := ⟨g, off + i * 3 + 2, none⟩) (ha h0).2 (by simp)).trans x2⟩

theorem strCells_bl (s : ByteArray) : Lib.strCells s = Lib.byteCells (bl s) := by
  simp [Lib.strCells, Lib.byteCells, bl]

set_option maxRecDepth 100000 in
set_option maxHeartbeats 400000 in
theorem appendText_any (w0 : World) (l : List UInt8) (v : Value) (s : ByteArray) (w : World) (hs : s.size ≤ 100000) (hl : l.length ≤ 900000000) (h : OwnB w0 l v w) :
    Calls Tryd.prog 93 #[v, .string s] w fun e w' => ∃ v', e = .returned v' ∧ OwnB w0 (l ++ textB s) v' w' := by
  obtain ⟨i0, hi, hz0, hz1, hz2⟩ := info_parts infoB
  have hA := numAppend_any w0 l v s.size w (by omega) (by omega) h
  have hdl := digs_len s.size
  have hE : textB s = digs s.size ++ bl s := rfl
  have HE : Hid _ := hE
  have hlen : (l ++ digs s.size).length ≤ 900000010 := by rw [List.length_append]; omega
  clear hE h
  go_enter Tryd.func93, Tryd.ntmps93
  go_wp2_with fail
  refine hA.mono ?_
  rintro e w1 ⟨v1, rfl, J, G⟩
  clear hA G
  obtain ⟨q, hq⟩ : ∃ q, l ++ digs s.size = q := ⟨_, rfl⟩
  rw [hq] at hlen J
  have hown := J.own
  have hsz := J.fr.size
  go_wp2_with (at_builtin; refine Lib.wpList_append_own_string _ rfl _ _ 50 9 rfl w0.heap.size 5 i0 Tryd.underlying50 Tryd.underlying9 hi hz0 hz1 hz2 _ _ _ rfl hown s rfl (by unfold maxLen; omega) (by omega) hsz ?_)
  intro v' w3 hown' hgrow _
  rw [strCells_bl] at hown'
  have J3 := J.grown (l' := bl s) (by rw [bl_length]; exact hown') hgrow
  rw [← hq, List.append_assoc, ← HE.out] at J3
  clear hown hown' hgrow J
  go_wp2
  go_ret
  exact ⟨v', rfl, J3⟩

theorem textsB_take (L : List ByteArray) (k : Nat) (h : k < L.length) : textsB (L.take (k + 1)) = textsB (L.take k) ++ textB L[k] := by
  rw [List.take_succ_eq_append_getElem h]
  unfold textsB
  rw [List.flatMap_append]
  simp
theorem textB_len (s : ByteArray) : (textB s).length ≤ 10 + s.size := by
  have := digs_len s.size
  rw [textB, List.length_append, bl_length]; omega
theorem textsB_len (L : List ByteArray) (n : Nat) (h : ∀ s ∈ L, s.size ≤ n) : (textsB L).length ≤ L.length * (10 + n) := by
  induction L with
  | nil => simp [textsB]
  | cons s L ih =>
    have h1 := ih (fun x hx => h x (by simp [hx]))
    have h2 := textB_len s
    have h3 := h s (by simp)
    have e : textsB (s :: L) = textB s ++ textsB L := by simp [textsB]
    rw [e, List.length_append, List.length_cons, Nat.add_mul]
    omega

set_option maxRecDepth 100000 in
set_option maxHeartbeats 400000 in
theorem appendTexts_any (tv : Value) (L : List ByteArray) (w : World) (hs : ∀ s ∈ L, s.size ≤ 100) (hn : L.length ≤ 1000) (hL : StrsIn w tv L) :
    Calls Tryd.prog 78 #[.slice none 0 0, tv] w fun e w' => ∃ v', e = .returned v' ∧ OwnB w (listing L) v' w' := by
  obtain ⟨a0, cap, g, off, rfl, hcap, ha, hx⟩ := hL
  have hA := numAppend_any w [] (.slice none 0 0) L.length w (by omega) (by simp) (OwnB.start w)
  have hdl := digs_len L.length
  have HE : Hid (listing L = digs L.length ++ textsB L) := rfl
  obtain ⟨d, hd⟩ : ∃ d, digs L.length = d := ⟨_, rfl⟩
  rw [List.nil_append, hd] at hA
  rw [hd] at hdl HE
  clear hd
  have Hs : Hid _ := hs
  have Hx : Hid _ := hx
  have Ha : Hid _ := ha
  clear hs hx ha
  go_enter Tryd.func78, Tryd.ntmps78
  go_wp2_with fail
  refine hA.mono ?_
  rintro e w1 ⟨v1, rfl, J, G⟩
  clear hA G
  go_wp2
  go_loopw [0, 13] (fun u i wr => ∃ k : Nat, k ≤ L.length ∧ i = .int .i64 k ∧ OwnB w (d ++ textsB (L.take k)) u wr) (fun _ i _ => L.length - (intOf i).toNat)
  case atStart => exact ⟨0, by omega, rfl, by simpa [textsB] using J⟩
  case round =>
    clear J
    obtain ⟨k, hk, rfl, J⟩ := hrel
    by_cases hlt : k < L.length
    · obtain ⟨rfl, hg⟩ := Ha.out (by omega)
      have g1 : (k : Int) < L.length := by omega
      have c1 : wr.cell? ⟨g, off + k, none⟩ = some (.string L[k]) := (J.fr.cell (p := ⟨g, off + k, none⟩) hg (by simp)).trans (Hx.out k _ (List.getElem?_eq_getElem hlt))
      have hsz := Hs.out L[k] (List.getElem_mem hlt)
      have htl := textsB_len (L.take k) 100 (fun s hs => Hs.out s (List.mem_of_mem_take hs))
      have htk : (L.take k).length ≤ 1000 := by rw [List.length_take]; omega
      have hT := appendText_any w (d ++ textsB (L.take k)) u0 L[k] wr (by omega) (by rw [List.length_append]; omega) J
      have htake := textsB_take L k hlt
      obtain ⟨s, hsk⟩ : ∃ s, L[k] = s := ⟨_, rfl⟩
      rw [hsk] at c1 hT htake
      rw [List.append_assoc, ← htake] at hT
      clear htake htl htk hsz J
      go_wp2_with fail
      refine hT.mono ?_
      rintro e w3 ⟨v3, rfl, J3⟩
      clear hT
      go_wp2
      exact ⟨⟨k + 1, by omega, by go_num, J3⟩, by simp [intOf]; omega⟩
    · obtain rfl : k = L.length := by omega
      have g1 : ¬ ((L.length : Int) < L.length) := by omega
      rw [List.take_length, ← HE.out] at J
      go_wp2
      go_ret
      exact ⟨u0, rfl, J⟩
end Go.Proofs.YticaoekmlaipnaaDoor

