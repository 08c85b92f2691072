/-
  Find, of a pattern; Look and Find, the calls.
-/
import Derived.Test.YticaoekmlaipnaaDoorWx
set_option linter.unusedSimpArgs false
set_option linter.unusedVariables false
namespace Go.Proofs.YticaoekmlaipnaaDoor
open Go.RowKit

/-- The first place with an end, and how far it is; f places are looked at. -/
def findL (E : Nat → Int) : Nat → Nat → Int × Int
  | 0, _ => (-1, 0)
  | f + 1, k => if E k = -1 then findL E f (k + 1) else ((k : Int), E k - k)

theorem findL_pos (E : Nat → Int) (k n : Nat) (h : 0 < n) (he : E k ≠ -1) : findL E n k = ((k : Int), E k - k) := by
  obtain ⟨m, rfl⟩ : ∃ m, n = m + 1 := ⟨n - 1, by omega⟩
  rw [findL, if_neg he]
theorem findL_neg (E : Nat → Int) (k n : Nat) (h : 0 < n) (he : E k = -1) : findL E n k = findL E (n - 1) (k + 1) := by
  obtain ⟨m, rfl⟩ : ∃ m, n = m + 1 := ⟨n - 1, by omega⟩
  rw [findL, if_pos he]; rfl

theorem endF_le (q : Piece) (tk : Nat → Nat) (fo : Nat → Nat → Nat) (x : ByteArray) (k : Nat) : endF q tk fo x k ≤ x.size ∧ -1 ≤ endF q tk fo x k := end_le q tk fo x _

set_option maxRecDepth 100000 in
set_option maxHeartbeats 1000000 in
theorem pfind_any (pb : Nat) (q : Piece) (tk : Nat → Nat) (fo : Nat → Nat → Nat) (x : ByteArray) (fr : Nat) (w : World) (hP : PatAt w pb (whF q) tk fo) (hT : Tab w) (lq : PB 50 q) (ltk : ∀ b, tk b < 1125899906842624) (lfo : ∀ s a, fo s a < 18446744073709551616) (hx : x.size ≤ 100) (hfr : fr ≤ x.size) :
    Calls Tryd.prog 38 #[.pointer (some ⟨pb, 0, none⟩), .string x, .int .i64 fr] w fun e w' => e = .returned (.tuple #[.int .i64 (findL (endF q tk fo x) (x.size + 1 - fr) fr).1, .int .i64 (findL (endF q tk fo x) (x.size + 1 - fr) fr).2]) ∧ Fr [] w w' := by
  have hm : Tryd.prog.follows Departure.mixedOrders = true := by kernel_rfl
  have hen := ends_any pb q tk fo x w hP hT lq ltk lfo hx
  have hle := endF_le q tk fo x
  unfold EndsAt at hen
  generalize endF q tk fo x = E at *
  obtain ⟨R, hR⟩ : ∃ R, findL E (x.size + 1 - fr) fr = R := ⟨_, rfl⟩
  rw [hR]
  have HR : Hid (_ = R) := hR
  clear hR
  go_enter Tryd.func38, Tryd.ntmps38
  go_wp2_with fail
  refine hen.mono ?_
  rintro e w1 ⟨eb, rfl, ⟨_, _, hc⟩, f1⟩
  have Hc : Hid _ := hc
  have Hle : Hid _ := hle
  clear hc hle hen
  go_wp2
  go_loop [9] (fun i => ∃ k : Nat, k ≤ x.size + 1 ∧ i = .int .i64 k ∧ Hid (findL E (x.size + 1 - k) k = R)) (fun i => x.size + 1 - (intOf i).toNat)
  case atStart => exact ⟨fr, by omega, rfl, HR⟩
  case round =>
    obtain ⟨k, hk, rfl, hR⟩ := hrel
    by_cases hlt : k ≤ x.size
    · have g1 : (k : Int) ≤ x.size := by omega
      have g2 : (k : Int) < (x.size : Int) + 1 := by omega
      have c1 := Hc.out k hlt
      obtain ⟨hb1, hb2⟩ := Hle.out k
      have hw64 : IntKind.i64.wrap (E k - k) = E k - k := by rw [IntKind.wrap_i64]; omega
      by_cases he : E k = -1
      · have e1 : (E k != -1) = false := by simp [he]
        have hR' := hR.out
        rw [findL_neg E k _ (by omega) he, show x.size + 1 - k - 1 = x.size + 1 - (k + 1) by omega] at hR'
        have HR' : Hid _ := hR'
        clear hR' he
        go_wp2
        go_round
        case rel => exact ⟨k + 1, by omega, by go_num, HR'⟩
        case measure => simp [intOf]; omega
      · have e1 : (E k != -1) = true := by simp [he]
        have hR' := hR.out
        rw [findL_pos E k _ (by omega) he] at hR'
        have HR' : Hid _ := hR'
        clear hR' he
        go_wp2
        refine wp_region_lex hm (by kernel_rfl) ?_
        repeat still_step
        refine wpStill_nil ?_
        go_wp2
        go_ret2
        refine ⟨?_, f1.drew⟩
        rw [← HR'.out]
        simp [hw64]
    · have g1 : ¬ ((k : Int) ≤ x.size) := by omega
      have hR' := hR.out
      rw [show x.size + 1 - k = 0 by omega, findL] at hR'
      have HR' : Hid _ := hR'
      clear hR'
      go_wp2
      go_ret2
      refine ⟨?_, f1⟩
      rw [← HR'.out]
      rfl

end Go.Proofs.YticaoekmlaipnaaDoor
