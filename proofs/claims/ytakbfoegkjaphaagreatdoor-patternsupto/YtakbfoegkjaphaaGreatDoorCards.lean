/-
  DERIVED. GIVEN WITH THE SEED: THE CARDS: each row of YtakbfoegkjaphaaGreatDoorRows.lean that lists a variable, with what it lists TIED to the program's text (the seventh form; the later family's looks); each row that meets fmt, with fmt's text TOLD by the authors' own Lean function (tested against real Go, not proved from fmt's source: count such statements apart). THE CARD IS WHAT COUNTS. Prove the row's statement (the work); the ties are given (YtakbfoegkjaphaaGreatDoorTie.lean); close each card by the builder's one call (the guide's Derived/Test/ToyasCard.lean, 'card_holds'). Laid BY PROGRAM, IN A SANDBOX (cutbox-door.mjs). By AI agents, Wed Nov 11 2026. No macro, syntax, notation, axiom, sorry.
-/
import Derived.Test.YtakbfoegkjaphaaGreatDoorRows
import GoSem.ClaimSeven
namespace Go.Proofs.YtakbfoegkjaphaaGreatDoor
namespace Rows

/-- THE TIED CARD OF 'gleanlaw.Patterns'. -/
def patternsCard : Claim7 := { stood := { row := patternsRow, standIns := [], harness := (true, "f8252546a8d48b1b5159bfd164c0a64c9e1294f1efad02c93d648e319c6a162c"), looks := false }, kinds := [], alts := [], laidByText := true, laidKinds := [.data, .data, .data, .data, .data, .data, .data, .data], laidTests := true, laidLooks := .later }
def PatternsCardSaid : Prop := Claim7.holds Tryz.pinned (.plain (OpenSpec.ofChange patternsSpec)) patternsCard

/-- THE SECOND FORM's CARD OF 'gleanlaw.Patterns'. -/
def patternsUptoCard : Claim7 := { stood := { row := patternsUptoRow, standIns := [], harness := (true, "f8252546a8d48b1b5159bfd164c0a64c9e1294f1efad02c93d648e319c6a162c"), looks := false }, kinds := [], alts := [], laidByText := true, laidKinds := [.data, .data, .data, .data, .data, .data, .data, .data], laidTests := true, laidLooks := .later }
def PatternsUptoCardSaid : Prop := Claim7.holds Tryz.pinned (.plain (OpenSpec.upto patternsSpec)) patternsUptoCard
end Rows
end Go.Proofs.YtakbfoegkjaphaaGreatDoor
