/-
  The program's matcher as plain functions.
-/
import Derived.Test.YticaoekmlaipnaaDoorWd
import Derived.Test.YticaoekmlaipnaaDoorPb
set_option linter.unusedSimpArgs false
set_option linter.unusedVariables false
namespace Go.Proofs.YticaoekmlaipnaaDoor

theorem farF_congr {r r' : Nat → Int} {l : List Nat} (h : ∀ a, a ∈ l → r a = r' a) (least : Int) : farF r least l = farF r' least l := by
  unfold farF
  induction l generalizing least with
  | nil => rfl
  | cons a l ih => simp only [List.foldl_cons]; rw [h a (by simp)]; exact ih (fun b hb => h b (by simp [hb])) _
theorem farF_bound {r : Nat → Int} {l : List Nat} {least hi : Int} (h0 : least ≤ hi) (h : ∀ a, a ∈ l → r a ≤ hi) : farF r least l ≤ hi ∧ least ≤ farF r least l := by
  unfold farF
  induction l generalizing least with
  | nil => exact ⟨h0, Int.le_refl _⟩
  | cons a l ih =>
    simp only [List.foldl_cons]
    have := ih (least := max least (r a)) (by have := h a (by simp); omega) (fun b hb => h b (by simp [hb]))
    exact ⟨this.1, by omega⟩

/-- which spot a place is. -/
def spotN (place length : Nat) : Nat := (if place = 0 then 1 else 0) + (if place = length then 2 else 0)
theorem spotN_lt (p l : Nat) : spotN p l < 4 := by unfold spotN; split <;> split <;> decide

def byteN (x : ByteArray) (k : Nat) : Nat := if h : k < x.size then x[k].toNat else 0

/-- The rows, from the text's end: the d-th is that of the place d ahead of it. -/
def rowsF (q : Piece) (tk : Nat → Nat) (fo : Nat → Nat → Nat) (x : ByteArray) : Nat → Nat × (Nat → Int)
  | 0 => (0, fun _ => -1)
  | d + 1 => (tk (byteN x (x.size - (d + 1))), fun a =>
      farF (rowsF q tk fo x d).2 (if (q (spotN (x.size - d) x.size)).l.testBit a = true then ((x.size - d : Nat) : Int) else -1) (bitsOf (fo (spotN (x.size - d) x.size) a &&& (rowsF q tk fo x d).1)))

/-- The end of the match at the place d ahead of the text's end, or -1. -/
def endD (q : Piece) (tk : Nat → Nat) (fo : Nat → Nat → Nat) (x : ByteArray) (d : Nat) : Int :=
  farF (rowsF q tk fo x d).2 (if (q (spotN (x.size - d) x.size)).e = true then ((x.size - d : Nat) : Int) else -1) (bitsOf ((q (spotN (x.size - d) x.size)).f &&& (rowsF q tk fo x d).1))
def endF (q : Piece) (tk : Nat → Nat) (fo : Nat → Nat → Nat) (x : ByteArray) (k : Nat) : Int := endD q tk fo x (x.size - k)

theorem rows_le (q : Piece) (tk : Nat → Nat) (fo : Nat → Nat → Nat) (x : ByteArray) : ∀ d a, (rowsF q tk fo x d).2 a ≤ x.size
  | 0, _ => by show (-1 : Int) ≤ _; omega
  | d + 1, a => by
    simp only [rowsF]
    refine (farF_bound ?_ (fun b _ => rows_le q tk fo x d b)).1
    split <;> omega
theorem rows_ge (q : Piece) (tk : Nat → Nat) (fo : Nat → Nat → Nat) (x : ByteArray) : ∀ d a, -1 ≤ (rowsF q tk fo x d).2 a
  | 0, _ => by simp [rowsF]
  | d + 1, a => by
    simp only [rowsF]
    have := (farF_bound (r := (rowsF q tk fo x d).2) (l := bitsOf (fo (spotN (x.size - d) x.size) a &&& (rowsF q tk fo x d).1)) (least := if (q (spotN (x.size - d) x.size)).l.testBit a = true then ((x.size - d : Nat) : Int) else -1) (hi := x.size) (by split <;> omega) (fun b _ => rows_le q tk fo x d b)).2
    have h2 : (-1 : Int) ≤ if (q (spotN (x.size - d) x.size)).l.testBit a = true then ((x.size - d : Nat) : Int) else -1 := by split <;> omega
    omega
theorem end_le (q : Piece) (tk : Nat → Nat) (fo : Nat → Nat → Nat) (x : ByteArray) (d : Nat) : endD q tk fo x d ≤ x.size ∧ -1 ≤ endD q tk fo x d := by
  have h := farF_bound (r := (rowsF q tk fo x d).2) (l := bitsOf ((q (spotN (x.size - d) x.size)).f &&& (rowsF q tk fo x d).1)) (least := if (q (spotN (x.size - d) x.size)).e = true then ((x.size - d : Nat) : Int) else -1) (hi := x.size) (by split <;> omega) (fun b _ => rows_le q tk fo x d b)
  have h2 : (-1 : Int) ≤ if (q (spotN (x.size - d) x.size)).e = true then ((x.size - d : Nat) : Int) else -1 := by split <;> omega
  unfold endD
  exact ⟨h.1, by omega⟩

end Go.Proofs.YticaoekmlaipnaaDoor
