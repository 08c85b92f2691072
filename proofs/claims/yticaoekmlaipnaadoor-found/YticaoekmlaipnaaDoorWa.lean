/-
  The small walks: what each small function of package patterns does to the world.
-/
import Derived.Test.YticaoekmlaipnaaDoorRows
import Derived.WalkKit
import Derived.WalkSpells
import Derived.WalkLawsBesides
import Derived.BigQuiet
import Derived.Deep.QuietTactic
set_option linter.unusedSimpArgs false
set_option linter.unusedVariables false
namespace Go.Proofs.YticaoekmlaipnaaDoor
open Go.RowKit

/-- which spot a place is. -/
def spotF (place length : Int) : Int := (if place = 0 then 1 else 0) + (if place = length then 2 else 0)

set_option maxHeartbeats 400000 in
theorem spotOf_any (p l : Int) (w : World) :
    Calls Tryd.prog 56 #[.int .i64 p, .int .i64 l] w fun e w' => e = .returned (.int .i64 (spotF p l)) ∧ w' = w := by
  unfold spotF
  by_cases h1 : p = 0
  · subst h1
    by_cases h2 : 0 = l
    · subst h2
      go_enter Tryd.func56, Tryd.ntmps56
      go_wp2
      go_ret
      exact ⟨rfl, rfl⟩
    · have h3 : ((0:Int) == l) = false := by simpa using h2
      go_enter Tryd.func56, Tryd.ntmps56
      go_wp2
      go_ret
      exact ⟨by simp [h2], rfl⟩
  · have h3 : ((p:Int) == 0) = false := by simpa using h1
    by_cases h2 : p = l
    · subst h2
      go_enter Tryd.func56, Tryd.ntmps56
      go_wp2
      go_ret
      exact ⟨by simp [h1], rfl⟩
    · have h4 : ((p:Int) == l) = false := by simpa using h2
      go_enter Tryd.func56, Tryd.ntmps56
      go_wp2
      go_ret
      exact ⟨by simp [h1, h2], rfl⟩

theorem wrap64_byte (b : UInt8) : wrap64 (b.toNat : Int) = (b.toNat : Int) := by
  have := b.toNat_lt
  unfold wrap64; omega

/-- The reader's cells. -/
structure RdAt (w : World) (r : Nat) (text : ByteArray) (at_ : Int) (fault : Bool) (atoms : Int) (pb : Nat) : Prop where
  c0 : w.cell? ⟨r, 0, none⟩ = some (.string text)
  c1 : w.cell? ⟨r, 1, none⟩ = some (.int .i64 at_)
  c2 : w.cell? ⟨r, 2, none⟩ = some (.bool fault)
  c3 : w.cell? ⟨r, 3, none⟩ = some (.int .i64 atoms)
  c4 : w.cell? ⟨r, 4, none⟩ = some (.pointer (some ⟨pb, 0, none⟩))
  f1 : w.frozen? ⟨r, 1, none⟩ = false
  f2 : w.frozen? ⟨r, 2, none⟩ = false
  f3 : w.frozen? ⟨r, 3, none⟩ = false

set_option maxHeartbeats 400000 in
theorem fail_any (r : Nat) (text : ByteArray) (at_ : Int) (fault : Bool) (atoms : Int) (pb : Nat) (w : World) (h : RdAt w r text at_ fault atoms pb) :
    Calls Tryd.prog 105 #[.pointer (some ⟨r, 0, none⟩)] w fun e w' => e = .returned (.tuple #[]) ∧ w' = w.setCell ⟨r, 2, none⟩ (.bool true) := by
  obtain ⟨c0, c1, c2, c3, c4, f1, f2, f3⟩ := h
  go_enter Tryd.func105, Tryd.ntmps105
  go_wp2
  go_end0
  exact ⟨rfl, rfl⟩

set_option maxHeartbeats 400000 in
theorem peek_fault (r : Nat) (text : ByteArray) (at_ : Int) (atoms : Int) (pb : Nat) (w : World) (h : RdAt w r text at_ true atoms pb) :
    Calls Tryd.prog 82 #[.pointer (some ⟨r, 0, none⟩)] w fun e w' => e = .returned (.int .i64 (-1)) ∧ ∃ n, w' = w.drewN n := by
  obtain ⟨c0, c1, c2, c3, c4, f1, f2, f3⟩ := h
  go_enter Tryd.func82, Tryd.ntmps82
  go_wp2
  go_quiet (fail)
  go_wp2
  go_ret
  exact ⟨rfl, _, rfl⟩

set_option maxHeartbeats 400000 in
theorem peek_end (r : Nat) (text : ByteArray) (at_ : Int) (atoms : Int) (pb : Nat) (w : World) (h : RdAt w r text at_ false atoms pb) (hs : text.size ≤ 1000) (ha : (text.size : Int) ≤ at_) :
    Calls Tryd.prog 82 #[.pointer (some ⟨r, 0, none⟩)] w fun e w' => e = .returned (.int .i64 (-1)) ∧ ∃ n, w' = w.drewN n := by
  obtain ⟨c0, c1, c2, c3, c4, f1, f2, f3⟩ := h
  go_enter Tryd.func82, Tryd.ntmps82
  go_wp2
  go_quiet (fail)
  go_wp2
  go_ret
  exact ⟨rfl, _, rfl⟩

set_option maxHeartbeats 400000 in
theorem peek_byte (r : Nat) (text : ByteArray) (k : Nat) (atoms : Int) (pb : Nat) (w : World) (h : RdAt w r text k false atoms pb) (hs : text.size ≤ 1000) (ha : k < text.size) :
    Calls Tryd.prog 82 #[.pointer (some ⟨r, 0, none⟩)] w fun e w' => e = .returned (.int .i64 (text[k].toNat : Int)) ∧ ∃ n, w' = w.drewN n := by
  obtain ⟨c0, c1, c2, c3, c4, f1, f2, f3⟩ := h
  have hd : decide ((text.size : Int) ≤ (k : Int)) = false := by simp; omega
  have hl : (k : Int) < text.size := by omega
  go_enter Tryd.func82, Tryd.ntmps82
  go_wp2
  go_quiet (fail)
  go_wp2
  go_quiet (fail)
  go_wp2
  go_ret
  exact ⟨congrArg (fun x => Ending.returned (Value.int .i64 x)) (wrap64_byte _), _, World.drewN_drewN _ _ _⟩

end Go.Proofs.YticaoekmlaipnaaDoor
