/-
  Pack: a module within its limits, of at most 40000 bytes, becomes its bytes; any other is refused.
-/
import Derived.Test.YticaoekmlaipnaaDoorM15
import Derived.Laws.Concat
import Derived.Lib.SlBytesConst
set_option linter.unusedSimpArgs false
set_option linter.unusedVariables false
namespace Go.Proofs.YticaoekmlaipnaaDoor
open Go.RowKit
open Wire

/-- A list of bytes as a text. -/
def mkB (l : List UInt8) : ByteArray := ⟨l.toArray⟩
theorem mkB_size (l : List UInt8) : (mkB l).size = l.length := mk_size l
theorem mkB_app (a b : List UInt8) : mkB a ++ mkB b = mkB (a ++ b) := by
  apply ByteArray.ext
  simp [mkB]
theorem bl_mkB (l : List UInt8) : bl (mkB l) = l := bl_mk l

theorem body_eq (m : Mo) : body m = [71, 76, 1] ++ sect 1 (listing m.texts) ++ sect 2 (listing m.pats) ++ sect 3 (digs m.globs.toNat) ++ sect 4 (digs m.arrs.toNat) ++ sect 5 (fnsL m.fns) := by
  simp [body]

theorem body_len_le (m : Mo) (ip : ByteArray → Bool) (h : within ip m = true) : (body m).length ≤ 100000000 := by
  obtain ⟨q1, q2, q3, q4, q5, q6, q7, q8, q9, q10, q11⟩ := Wire.within_iff.1 h
  have f11 := lawfulAll_mem _ _ q11
  obtain ⟨l1, n1⟩ := listing_len m.texts q9 q1
  obtain ⟨l2, n2⟩ := listing_len m.pats (fun s hs => by have := (q10 s hs).1; omega) q2
  have l3 := digs_len m.globs.toNat
  have l4 := digs_len m.arrs.toNat
  obtain ⟨l5, n5⟩ := fnsL_len m.fns (fun s hs => (f11 s hs).1) q4
  have s1 := sect_len 1 (listing m.texts)
  have s2 := sect_len 2 (listing m.pats)
  have s3 := sect_len 3 (digs m.globs.toNat)
  have s4 := sect_len 4 (digs m.arrs.toNat)
  have s5 := sect_len 5 (fnsL m.fns)
  rw [body_length]
  omega

/-- What Pack answers. -/
def packS (m : Mo) : ByteArray := if within ipF m = true ∧ (Wire.written m).length ≤ 40000 then mkB (Wire.written m) else ⟨#[]⟩
def packE (m : Mo) : Int := if within ipF m = true ∧ (Wire.written m).length ≤ 40000 then 0 else 4

theorem full_new (w : World) : Full w [71, 76, 1] (.slice (some ⟨w.heap.size, 0, none⟩) 3 3) (w.alloc (.cells #[Value.int .u8 71, Value.int .u8 76, Value.int .u8 1] 5 (3, 4))) := by
  have hm := World.alloc_heap_new w (.cells #[Value.int .u8 71, Value.int .u8 76, Value.int .u8 1] 5 (3, 4))
  have hc : ∀ j : Nat, (w.alloc (.cells #[Value.int .u8 71, Value.int .u8 76, Value.int .u8 1] 5 (3, 4))).cell? ⟨w.heap.size, j, none⟩ = (#[Value.int .u8 71, Value.int .u8 76, Value.int .u8 1] : Array Value)[j]? := fun j => by
    unfold World.cell?; rw [hm]; simp
  refine ⟨w.heap.size, rfl, Nat.le_refl _, by simp, fun j u hj => ?_, (Fr.refl [] w).alloc _⟩
  rcases j with _ | _ | _ | j
  · simp [Lib.byteCells] at hj; subst hj; exact hc 0
  · simp [Lib.byteCells] at hj; subst hj; exact hc 1
  · simp [Lib.byteCells] at hj; subst hj; exact hc 2
  · simp [Lib.byteCells] at hj

set_option maxRecDepth 100000 in
set_option maxHeartbeats 1000000 in
theorem packM_any (mv : Value) (m : Mo) (w : World) (hM : ModIn w mv m) (hz : ModSz m) (hT : Tab w) :
    Calls Tryd.prog 37 #[mv] w fun e w' => e = .returned (.tuple #[.string (packS m), .int .i64 (packE m)]) ∧ Fr [] w w' := by
  have hW := fun (W : World) (f : Fr [] w W) => isWithin_any mv m W (hM.fr f) hz (hT.fr f (by simp))
  have hA := fun (W W' : World) (f : Fr [] w W) (v : Value) (h : Full W [71, 76, 1] v W') (hw : within ipF m = true) => appendSections_any W [71, 76, 1] v mv m ipF W' (by simp) h (hM.fr f) hw
  simp only [← body_eq] at hA
  have hbl := body_len_le m ipF
  have hwr : Wire.written m = body m ++ sum3 (body m) := rfl
  unfold packS packE
  obtain ⟨tv, pv, fv, rfl, hT1, hP, hF⟩ := hM.is
  obtain ⟨ta, tc, tg, to, rfl, -⟩ := id hT1
  obtain ⟨pa, pc, pg, po, rfl, -⟩ := id hP
  obtain ⟨fa, fc, fg, fo, rfl, -⟩ := id hF
  clear hM hz hT hT1 hP hF
  obtain ⟨texts, pats, globs, arrs, fns⟩ := m
  simp only at *
  generalize (⟨texts, pats, globs, arrs, fns⟩ : Mo) = m at *
  have f0 : Fr [] w (w.alloc (.cells #[Value.slice ta texts.length tc, Value.slice pa pats.length pc, Value.int IntKind.i64 globs, Value.int IntKind.i64 arrs, Value.slice fa fns.length fc] 43)) := (Fr.refl [] w).alloc _
  have hnew := World.alloc_heap_new w (.cells #[Value.slice ta texts.length tc, Value.slice pa pats.length pc, Value.int IntKind.i64 globs, Value.int IntKind.i64 arrs, Value.slice fa fns.length fc] 43)
  have hlt2 : w.heap.size < (w.alloc (.cells #[Value.slice ta texts.length tc, Value.slice pa pats.length pc, Value.int IntKind.i64 globs, Value.int IntKind.i64 arrs, Value.slice fa fns.length fc] 43)).heap.size := by simp
  cases hw : within ipF m with
  | false =>
    simp only [hw] at hW
    rw [if_neg (by simp), if_neg (by simp)]
    have HW : Hid _ := hW
    clear hW hA hbl hwr hw
    go_enter Tryd.func37, Tryd.ntmps37
    go_wp2_with fail
    refine (HW.out _ f0).mono ?_
    rintro e w1 ⟨rfl, f1⟩
    go_wp2
    go_ret2
    exact ⟨rfl, f0.trans f1⟩
  | true =>
    simp only [hw] at hW
    have HW : Hid _ := hW
    have hb := hbl hw
    have HA : Hid (∀ (W W' : World), Fr [] w W → ∀ (v : Value), Full W [71, 76, 1] v W' → Calls Tryd.prog 50 #[v, .agg #[Value.slice ta texts.length tc, Value.slice pa pats.length pc, Value.int IntKind.i64 globs, Value.int IntKind.i64 arrs, Value.slice fa fns.length fc]] W' fun e w' => ∃ v', e = .returned v' ∧ OwnB W (body m) v' w') := fun W W' f v h => hA W W' f v h hw
    have hbne : body m ≠ [] := by simp [body]
    obtain ⟨R, hR⟩ : ∃ R : ByteArray, (if true = true ∧ (Wire.written m).length ≤ 40000 then mkB (Wire.written m) else ⟨#[]⟩ : ByteArray) = R := ⟨_, rfl⟩
    obtain ⟨E, hE⟩ : ∃ E : Int, (if true = true ∧ (Wire.written m).length ≤ 40000 then 0 else 4 : Int) = E := ⟨_, rfl⟩
    rw [hR, hE]
    have HR : Hid _ := hR
    have HE : Hid _ := hE
    clear hR hE
    generalize body m = B at *
    clear hA hbl hW
    go_enter Tryd.func37, Tryd.ntmps37
    go_wp2_with fail
    obtain ⟨W, hWW⟩ : ∃ W, w.alloc (.cells #[Value.slice ta texts.length tc, Value.slice pa pats.length pc, Value.int IntKind.i64 globs, Value.int IntKind.i64 arrs, Value.slice fa fns.length fc] 43) = W := ⟨_, rfl⟩
    rw [hWW] at f0 hnew hlt2 ⊢
    clear hWW
    refine (HW.out W f0).mono ?_
    rintro e w1 ⟨rfl, f1⟩
    have kept : w1.heap[w.heap.size]? = some (.cells #[Value.slice ta texts.length tc, Value.slice pa pats.length pc, Value.int IntKind.i64 globs, Value.int IntKind.i64 arrs, Value.slice fa fns.length fc] 43) := by
      rw [f1.block _ hlt2 (by simp), hnew]
    have hlt3 : w.heap.size < w1.heap.size := (Array.getElem?_eq_some_iff.1 kept).1
    have k0 : w1.cell? ⟨w.heap.size, 0, none⟩ = some (Value.slice ta texts.length tc) := by unfold World.cell?; rw [kept]; rfl
    have k1 : w1.cell? ⟨w.heap.size, 1, none⟩ = some (Value.slice pa pats.length pc) := by unfold World.cell?; rw [kept]; rfl
    have k2 : w1.cell? ⟨w.heap.size, 2, none⟩ = some (Value.int .i64 globs) := by unfold World.cell?; rw [kept]; rfl
    have k3 : w1.cell? ⟨w.heap.size, 3, none⟩ = some (Value.int .i64 arrs) := by unfold World.cell?; rw [kept]; rfl
    have k4 : w1.cell? ⟨w.heap.size, 4, none⟩ = some (Value.slice fa fns.length fc) := by unfold World.cell?; rw [kept]; rfl
    clear HW hnew hlt2 kept
    have kc := fun (W : World) (C : Array Value) (n c : Nat) => Lib.run_convert_bytes_const (P := Tryd.prog) W 50 5 C n c Tryd.underlying50 Tryd.underlying5
    have JF := full_new w1
    go_wp2_with fail
    refine (HA.out w1 _ (f0.trans f1) _ JF).mono ?_
    rintro e w2 ⟨v2, rfl, J2⟩
    obtain ⟨g, cap, rfl, hg0, hg1, hgc⟩ := J2.row hbne
    clear HA JF kc k0 k1 k2 k3 k4
    have hconv := conv_bytes w2 g cap B.length B rfl (fun j hj => by
      have := hgc j (.int .u8 (B[j].toNat : Int)) (by simp [Lib.byteCells, List.getElem?_map, List.getElem?_eq_getElem hj])
      rcases j with _ | j <;> simpa [Addr.add] using this)
    have hS := sum_any (mkB B) w2 (by rw [mkB_size]; omega)
    rw [bl_mkB] at hS
    have hsz1 := mkB_size B
    have hsz2 : (mkB (sum3 B)).size = 3 := by rw [mkB_size]; rfl
    have happ := mkB_app B (sum3 B)
    rw [← hwr] at happ
    have hwl : (Wire.written m).length = B.length + 3 := by rw [hwr, List.length_append]; rfl
    have hsz3 : (mkB (Wire.written m)).size = B.length + 3 := by rw [mkB_size]; exact hwl
    change (convert 50 9 _).run Tryd.prog w2 = .ok (.string (mkB B)) w2 at hconv
    change Calls Tryd.prog 51 _ w2 (fun e w' => e = .returned (.string (mkB (sum3 B))) ∧ Fr [] w2 w') at hS
    have HP : Hid ((mkB B ++ mkB (sum3 B) : ByteArray) = mkB (Wire.written m)) := happ
    have f2 := (f0.trans f1).trans J2.fr
    have e1 : R = if B.length + 3 ≤ 40000 then mkB (Wire.written m) else ⟨#[]⟩ := by
      rw [← HR.out, hwl]; simp
    have e2 : E = if B.length + 3 ≤ 40000 then 0 else 4 := by
      rw [← HE.out, hwl]; simp
    clear HR HE
    generalize mkB (Wire.written m) = P at *
    generalize mkB (sum3 B) = S at *
    generalize mkB B = T at *
    clear hgc J2 hwr happ hwl
    go_wp2_with fail
    refine hS.mono ?_
    rintro e w3 ⟨rfl, f3⟩
    clear hS hconv
    have f3 := f2.trans f3
    have g0 : T.size + S.size ≤ 9223372036854775807 := by omega
    clear hbne hlt3 f0 f1 f2 hg0 hg1
    by_cases hle : B.length + 3 ≤ 40000
    · rw [if_pos hle] at e1 e2
      have g1 : ¬ (40000 : Int) < (T.size : Int) + S.size := by omega
      have HE1 : Hid _ := e1
      subst e2
      clear hsz1 hsz2 hsz3 hle hb e1
      generalize B.length = n at *
      go_wp2
      go_ret2
      refine ⟨?_, f3⟩
      rw [HE1.out, ← HP.out]
      rfl
    · rw [if_neg hle] at e1 e2
      have g1 : (40000 : Int) < (T.size : Int) + S.size := by omega
      subst e1 e2
      clear hsz1 hsz2 hsz3 hle hb
      generalize B.length = n at *
      go_wp2
      go_ret2
      exact ⟨rfl, f3⟩

set_option maxHeartbeats 400000 in
/-- PACK. -/
theorem pack_any (mv : Value) (m : Mo) (w : World) (hM : ModIn w mv m) (hz : ModSz m) (hT : Tab w) :
    Calls Tryd.prog 23 #[mv] w fun e w' => e = .returned (.tuple #[.string (packS m), .int .i64 (packE m)]) ∧ Fr [] w w' := by
  have h := fun (W : World) (f : Fr [] w W) => packM_any mv m W (hM.fr f) hz (hT.fr f (by simp))
  obtain ⟨tv, pv, fv, rfl, hT1, hP, hF⟩ := hM.is
  obtain ⟨ta, tc, tg, to, rfl, -⟩ := id hT1
  obtain ⟨pa, pc, pg, po, rfl, -⟩ := id hP
  obtain ⟨fa, fc, fg, fo, rfl, -⟩ := id hF
  generalize packS m = S at *
  generalize packE m = E at *
  have H : Hid _ := h
  clear hM hz hT hT1 hP hF h
  go_enter Tryd.func23, Tryd.ntmps23
  go_wp2_with fail
  refine (H.out _ ((Fr.refl [] w).alloc _)).mono ?_
  rintro e w1 ⟨rfl, f1⟩
  clear H
  have f2 := ((Fr.refl [] w).alloc _).trans f1
  go_wp2
  go_ret2
  exact ⟨rfl, f2⟩
end Go.Proofs.YticaoekmlaipnaaDoor

namespace Go.Proofs.YticaoekmlaipnaaDoor
open Go.RowKit
open Wire

/-- The reader's cells. -/
structure RdC (w : World) (r : Nat) (b : ByteArray) (a e p er : Nat) : Prop where
  c0 : w.cell? ⟨r, 0, none⟩ = some (.string b)
  c1 : w.cell? ⟨r, 1, none⟩ = some (.int .i64 a)
  c2 : w.cell? ⟨r, 2, none⟩ = some (.int .i64 e)
  c3 : w.cell? ⟨r, 3, none⟩ = some (.int .i64 p)
  c4 : w.cell? ⟨r, 4, none⟩ = some (.int .i64 er)
  f1 : w.frozen? ⟨r, 1, none⟩ = false
  f2 : w.frozen? ⟨r, 2, none⟩ = false
  f3 : w.frozen? ⟨r, 3, none⟩ = false
  f4 : w.frozen? ⟨r, 4, none⟩ = false

theorem RdC.of_block {w w' : World} {r : Nat} {b : ByteArray} {a e p er : Nat} (h : RdC w r b a e p er) (hb : w'.heap[r]? = w.heap[r]?) : RdC w' r b a e p er :=
  ⟨(World.cell?_of_block (w := w) (a := ⟨r, 0, none⟩) hb).trans h.c0, (World.cell?_of_block (w := w) (a := ⟨r, 1, none⟩) hb).trans h.c1, (World.cell?_of_block (w := w) (a := ⟨r, 2, none⟩) hb).trans h.c2,
   (World.cell?_of_block (w := w) (a := ⟨r, 3, none⟩) hb).trans h.c3, (World.cell?_of_block (w := w) (a := ⟨r, 4, none⟩) hb).trans h.c4,
   (World.frozen?_of_block (w := w) (a := ⟨r, 1, none⟩) hb).trans h.f1, (World.frozen?_of_block (w := w) (a := ⟨r, 2, none⟩) hb).trans h.f2,
   (World.frozen?_of_block (w := w) (a := ⟨r, 3, none⟩) hb).trans h.f3, (World.frozen?_of_block (w := w) (a := ⟨r, 4, none⟩) hb).trans h.f4⟩
theorem RdC.lt {w : World} {r : Nat} {b : ByteArray} {a e p er : Nat} (h : RdC w r b a e p er) : r < w.heap.size := lt_of_cell (a := ⟨r, 0, none⟩) h.c0
theorem RdC.fr {S : List Nat} {w w' : World} {r : Nat} {b : ByteArray} {a e p er : Nat} (h : RdC w r b a e p er) (hf : Fr S w w') (hr : r ∉ S) : RdC w' r b a e p er := h.of_block (hf.block r h.lt hr)
theorem cell_set {w : World} {b i : Nat} {u v : Value} (h : w.cell? ⟨b, i, none⟩ = some u) : (w.setCell ⟨b, i, none⟩ v).cell? ⟨b, i, none⟩ = some v := World.cell?_setCell_same' _ _ _ (by rw [h]; rfl)
theorem RdC.set1 {w : World} {r : Nat} {b : ByteArray} {a e p er : Nat} (h : RdC w r b a e p er) (x : Nat) : RdC (w.setCell ⟨r, 1, none⟩ (.int .i64 x)) r b x e p er :=
  ⟨(setCell_off (by decide)).trans h.c0, cell_set h.c1, (setCell_off (by decide)).trans h.c2, (setCell_off (by decide)).trans h.c3, (setCell_off (by decide)).trans h.c4,
   by rw [World.frozen?_setCell]; exact h.f1, by rw [World.frozen?_setCell]; exact h.f2, by rw [World.frozen?_setCell]; exact h.f3, by rw [World.frozen?_setCell]; exact h.f4⟩
theorem RdC.set2 {w : World} {r : Nat} {b : ByteArray} {a e p er : Nat} (h : RdC w r b a e p er) (x : Nat) : RdC (w.setCell ⟨r, 2, none⟩ (.int .i64 x)) r b a x p er :=
  ⟨(setCell_off (by decide)).trans h.c0, (setCell_off (by decide)).trans h.c1, cell_set h.c2, (setCell_off (by decide)).trans h.c3, (setCell_off (by decide)).trans h.c4,
   by rw [World.frozen?_setCell]; exact h.f1, by rw [World.frozen?_setCell]; exact h.f2, by rw [World.frozen?_setCell]; exact h.f3, by rw [World.frozen?_setCell]; exact h.f4⟩
theorem RdC.set34 {w : World} {r : Nat} {b : ByteArray} {a e p er : Nat} (h : RdC w r b a e p er) (x y : Nat) : RdC ((w.setCell ⟨r, 3, none⟩ (.int .i64 x)).setCell ⟨r, 4, none⟩ (.int .i64 y)) r b a e x y :=
  ⟨(setCell_off (by decide)).trans ((setCell_off (by decide)).trans h.c0), (setCell_off (by decide)).trans ((setCell_off (by decide)).trans h.c1), (setCell_off (by decide)).trans ((setCell_off (by decide)).trans h.c2),
   (setCell_off (by decide)).trans (cell_set h.c3), cell_set ((setCell_off (by decide)).trans h.c4),
   by rw [World.frozen?_setCell, World.frozen?_setCell]; exact h.f1, by rw [World.frozen?_setCell, World.frozen?_setCell]; exact h.f2, by rw [World.frozen?_setCell, World.frozen?_setCell]; exact h.f3, by rw [World.frozen?_setCell, World.frozen?_setCell]; exact h.f4⟩

def stA (n : Nat) : Sta → Nat
  | .inl _ => n
  | .inr p => p.1
def stE (n : Nat) : Sta → Nat
  | .inl _ => n
  | .inr p => p.2
def stP : Sta → Nat
  | .inl f => f.2
  | .inr _ => 0
def stR : Sta → Nat
  | .inl f => f.1
  | .inr _ => 0

/-- The reader stands so. -/
structure RdS (w : World) (r : Nat) (b : ByteArray) (s : Sta) : Prop where
  c : RdC w r b (stA b.size s) (stE b.size s) (stP s) (stR s)
  ok : okSta (bl b) s
theorem RdS.fr {S : List Nat} {w w' : World} {r : Nat} {b : ByteArray} {s : Sta} (h : RdS w r b s) (hf : Fr S w w') (hr : r ∉ S) : RdS w' r b s := ⟨h.c.fr hf hr, h.ok⟩
theorem RdS.heap {w w' : World} {r : Nat} {b : ByteArray} {s : Sta} (h : RdS w r b s) (hh : w'.heap = w.heap) : RdS w' r b s := ⟨h.c.of_block (by rw [hh]), h.ok⟩
theorem RdS.lt {w : World} {r : Nat} {b : ByteArray} {s : Sta} (h : RdS w r b s) : r < w.heap.size := h.c.lt
theorem Fr.heapx {S : List Nat} {w w' w'' : World} (h : Fr S w w') (hh : w''.heap = w'.heap) (ho : w''.os = w'.os) (ht : w''.tape = w'.tape) (hp : w''.output = w'.output) : Fr S w w'' :=
  ⟨ho.trans h.os, ht.trans h.tape, hp.trans h.output, by rw [hh]; exact h.size, fun k hk hn => by rw [hh]; exact h.block k hk hn⟩

/-- How the reader stands behind a fault. -/
def failS (er place : Nat) : Sta → Sta
  | .inl f => .inl f
  | .inr _ => .inl (er, place)

set_option maxRecDepth 100000 in
set_option maxHeartbeats 1000000 in
theorem failC_any (w : World) (r : Nat) (b : ByteArray) (a e p er place no : Nat) (h : RdC w r b a e p er) (hs : b.size ≤ 40000) :
    Calls Tryd.prog 72 #[.pointer (some ⟨r, 0, none⟩), .int .i64 place, .int .i64 no] w fun ee w' => ee = .returned (.tuple #[]) ∧ RdC w' r b b.size b.size (if er = 0 then place else p) (if er = 0 then no else er) ∧ Fr [r] w w' := by
  have hm : Tryd.prog.follows Departure.mixedOrders = true := by kernel_rfl
  have K1 := h.set34 place no
  have F1 : Fr [r] w ((w.setCell ⟨r, 3, none⟩ (.int .i64 place)).setCell ⟨r, 4, none⟩ (.int .i64 no)) := ((Fr.refl [r] w).setCell (p := ⟨r, 3, none⟩) (.inl (by simp)) _).setCell (p := ⟨r, 4, none⟩) (.inl (by simp)) _
  have K0 := h
  obtain ⟨c0, c1, c2, c3, c4, f1, f2, f3, f4⟩ := h
  by_cases he : er = 0
  · subst he
    rw [if_pos rfl, if_pos rfl]
    clear K0
    go_enter Tryd.func72, Tryd.ntmps72
    go_wp2
    have K2 := K1
    obtain ⟨c0, c1, c2, c3, c4, f1, f2, f3, f4⟩ := K1
    generalize ((w.setCell ⟨r, 3, none⟩ (.int .i64 place)).setCell ⟨r, 4, none⟩ (.int .i64 no)) = W at *
    go_region
    go_end0
    exact ⟨rfl, ((K2.set1 b.size).set2 b.size).of_block rfl, ((F1.setCell (p := ⟨r, 1, none⟩) (.inl (by simp)) _).setCell (p := ⟨r, 2, none⟩) (.inl (by simp)) _).drewN 1⟩
  · have g1 : ((er : Int) == 0) = false := by simp; omega
    rw [if_neg he, if_neg he]
    clear K1 F1
    go_enter Tryd.func72, Tryd.ntmps72
    go_wp2
    go_region
    go_end0
    exact ⟨rfl, ((K0.set1 b.size).set2 b.size).of_block rfl, (((Fr.refl [r] w).setCell (p := ⟨r, 1, none⟩) (.inl (by simp)) _).setCell (p := ⟨r, 2, none⟩) (.inl (by simp)) _).drewN 1⟩

theorem failU_any {w : World} {r : Nat} {b : ByteArray} {s : Sta} {place no : Nat} {nI : Int} (hn : nI = (no : Int)) (h : RdS w r b s) (hs : b.size ≤ 40000) (h0 : 0 < no) (h1 : no ≤ 100) (hp : place ≤ b.size) :
    Calls Tryd.prog 72 #[.pointer (some ⟨r, 0, none⟩), .int .i64 place, .int .i64 nI] w fun ee w' => ee = .returned (.tuple #[]) ∧ RdS w' r b (failS no place s) ∧ Fr [r] w w' := by
  subst hn
  refine (failC_any w r b _ _ _ _ place no h.c hs).mono ?_
  rintro e w' ⟨rfl, K, F⟩
  refine ⟨rfl, ?_, F⟩
  have hL := bl_length b
  rcases s with ⟨x, y⟩ | ⟨x, y⟩
  · obtain ⟨k0, k1, k2⟩ := h.ok
    have k3 : ¬ x = 0 := by simp only at k0; omega
    have e1 : (if stR (.inl (x, y)) = 0 then place else stP (.inl (x, y))) = y := if_neg k3
    have e2 : (if stR (.inl (x, y)) = 0 then no else stR (.inl (x, y))) = x := if_neg k3
    rw [e1, e2] at K
    exact ⟨K, h.ok⟩
  · have e1 : (if stR (.inr (x, y)) = 0 then place else stP (.inr (x, y))) = place := if_pos rfl
    have e2 : (if stR (.inr (x, y)) = 0 then no else stR (.inr (x, y))) = no := if_pos rfl
    rw [e1, e2] at K
    exact ⟨K, h0, h1, by simp only; omega⟩

end Go.Proofs.YticaoekmlaipnaaDoor

namespace Go.Proofs.YticaoekmlaipnaaDoor
open Go.RowKit
open Wire

/-- One byte that must stand there. -/
def needR (c : UInt8) (no : Nat) : Rd Unit := fun base l => match l with
  | [] => .inl (no, base)
  | x :: t => if x = c then .inr ((), t) else .inl (no, base - l.length)
theorem needR_tidy (c : UInt8) (no : Nat) (h0 : 0 < no) (h1 : no ≤ 100) : Tidy (needR c no) := by
  refine ⟨fun {base l f} h => ?_, fun {base l x r} h => ?_⟩
  · unfold needR at h
    split at h
    · simp only [Sum.inl.injEq] at h; subst h; exact ⟨h0, h1, Nat.le_refl _⟩
    · split at h
      · cases h
      · simp only [Sum.inl.injEq] at h; subst h; exact ⟨h0, h1, Nat.sub_le _ _⟩
  · unfold needR at h
    split at h
    · cases h
    · split at h
      · simp only [Sum.inr.injEq, Prod.mk.injEq] at h
        obtain ⟨-, rfl⟩ := h
        rename_i x t _
        exact ⟨[x], rfl⟩
      · cases h

theorem seg_nil (l : List UInt8) (a : Nat) : seg l a a = [] := by
  unfold seg
  rw [List.drop_eq_nil_iff, List.length_take]
  omega
theorem seg_cons {b : ByteArray} {a e : Nat} (h : a < e) (he : e ≤ b.size) : seg (bl b) a e = b[a] :: seg (bl b) (a + 1) e := by
  have hL := bl_length b
  unfold seg
  have hlt : a < ((bl b).take e).length := by rw [List.length_take]; omega
  rw [List.drop_eq_getElem_cons hlt, List.getElem_take]
  congr 1

set_option maxRecDepth 100000 in
set_option maxHeartbeats 1000000 in
theorem needU_any {w : World} {r : Nat} {b : ByteArray} {s : Sta} {c : UInt8} {cI nI : Int} {no : Nat} (hc : cI = (c.toNat : Int)) (hn : nI = (no : Int)) (h : RdS w r b s) (hs : b.size ≤ 40000) (h0 : 0 < no) (h1 : no ≤ 100) :
    Calls Tryd.prog 60 #[.pointer (some ⟨r, 0, none⟩), .int .u8 cI, .int .i64 nI] w fun ee w' => ee = .returned (.tuple #[]) ∧ RdS w' r b (nextR (needR c no) (bl b) s) ∧ Fr [r] w w' := by
  have hm : Tryd.prog.follows Departure.mixedOrders = true := by kernel_rfl
  have hL := bl_length b
  subst hc hn
  have hfail := fun (place : Nat) (hp : place ≤ b.size) (W : World) (hW : RdS W r b s) => failU_any (place := place) rfl hW hs h0 h1 hp
  have K := h
  obtain ⟨⟨c0, c1, c2, c3, c4, f1, f2, f3, f4⟩, hok⟩ := h
  by_cases hae : stA b.size s = stE b.size s
  · -- nothing is left
    have hlt : stA b.size s ≤ b.size := by
      rcases s with ⟨x, y⟩ | ⟨x, y⟩
      · exact Nat.le_refl _
      · have := hok.1; have := hok.2; simp only [stA]; omega
    have hnext : nextR (needR c no) (bl b) s = failS no (stA b.size s) s := by
      rcases s with ⟨x, y⟩ | ⟨x, y⟩
      · rfl
      · simp only [stA, stE] at hae
        subst hae
        simp only [nextR, failS, seg_nil, needR, stA]
    rw [hnext]
    have HF : Hid _ := hfail _ hlt
    have hd : ((stA b.size s : Int) == (stE b.size s : Int)) = true := by simp; omega
    rw [hae] at c1 hd HF ⊢
    generalize stE b.size s = e at *
    clear hfail hnext hae hok hlt
    go_enter Tryd.func60, Tryd.ntmps60
    go_wp2
    go_quiet (fail)
    go_wp2_with fail
    refine (HF.out _ ?hk).mono ?_
    case hk => exact K.heap rfl
    rintro ee w1 ⟨rfl, K1, F1⟩
    go_wp2
    refine bodyPost_ret (results_none rfl _ _ _) rfl ?_
    exact ⟨rfl, K1, ⟨F1.os, F1.tape, F1.output, F1.size, F1.block⟩⟩
  · rcases s with ⟨x, y⟩ | ⟨a, e⟩
    · exact absurd rfl hae
    · obtain ⟨o1, o2⟩ := hok
      simp only [stA, stE] at hae c1 c2
      have hlt : a < e := by omega
      have hsz : a < b.size := by omega
      have hcons := seg_cons hlt (by omega : e ≤ b.size)
      have hd : ((a : Int) == (e : Int)) = false := by simp; omega
      have g1 : (a : Int) < b.size := by omega
      by_cases hb : b[a] = c
      · have hd2 : ((b[a].toNat : Int) != (c.toNat : Int)) = false := by simp [hb]
        have hnext : nextR (needR c no) (bl b) (.inr (a, e)) = .inr (a + 1, e) := by
          simp only [nextR, hcons, needR, if_pos hb]
          rw [seg_length (by omega)]
          congr 2
          omega
        rw [hnext]
        have K1 : RdS (w.setCell ⟨r, 1, none⟩ (.int .i64 ((a + 1 : Nat) : Int))) r b (.inr (a + 1, e)) := ⟨K.c.set1 (a + 1), by show a + 1 ≤ e ∧ _; omega⟩
        have ea : ((a + 1 : Nat) : Int) = (a : Int) + 1 := by omega
        rw [ea] at K1
        clear hfail hnext hcons hL hb
        go_enter Tryd.func60, Tryd.ntmps60
        go_wp2
        go_quiet (fail)
        go_wp2
        go_end0
        refine ⟨rfl, K1.heap rfl, ?_⟩
        exact ((Fr.refl [r] w).setCell (p := ⟨r, 1, none⟩) (.inl (by simp)) _).drewN _
      · have hd2 : ((b[a].toNat : Int) != (c.toNat : Int)) = true := by
          simp only [bne_iff_ne, ne_eq]
          intro e'
          exact hb (UInt8.toNat_inj.1 (by omega))
        have hnext : nextR (needR c no) (bl b) (.inr (a, e)) = failS no a (.inr (a, e)) := by
          simp only [nextR, hcons, needR, if_neg hb, failS]
          rw [← hcons, seg_length (by omega)]
          congr 2
          omega
        rw [hnext]
        have HF : Hid _ := hfail a (by omega)
        clear hfail hnext hcons hL hb
        go_enter Tryd.func60, Tryd.ntmps60
        go_wp2
        go_quiet (fail)
        go_wp2_with fail
        refine (HF.out _ ?hk).mono ?_
        case hk => exact K.heap rfl
        rintro ee w1 ⟨rfl, K1, F1⟩
        go_wp2
        refine bodyPost_ret (results_none rfl _ _ _) rfl ?_
        exact ⟨rfl, K1, ⟨F1.os, F1.tape, F1.output, F1.size, F1.block⟩⟩
end Go.Proofs.YticaoekmlaipnaaDoor

