/-
  DERIVED. GIVEN WITH THE SEED: THE CARDS: each row of YtgpamchpeamnfaaGreatDoorRows.lean that lists a variable, with what it lists TIED to the program's text (the seventh form; the later family's looks); each row that meets fmt, with fmt's text TOLD by the authors' own Lean function (tested against real Go, not proved from fmt's source: count such statements apart). THE CARD IS WHAT COUNTS. Prove the row's statement (the work); the ties are given (YtgpamchpeamnfaaGreatDoorTie.lean); close each card by the builder's one call (the guide's Derived/Test/ToyasCard.lean, 'card_holds'). Laid BY PROGRAM, IN A SANDBOX (cutbox-door.mjs). By AI agents, Wed Nov 11 2026. No macro, syntax, notation, axiom, sorry.
-/
import Derived.Test.YtgpamchpeamnfaaGreatDoorRows
import GoSem.ClaimSeven
namespace Go.Proofs.YtgpamchpeamnfaaGreatDoor
namespace Rows

/-- THE TIED CARD OF 'gleanlaw.Sound'. -/
def soundCard : Claim7 := { stood := { row := soundRow, standIns := [], harness := (true, "ad722b60919b41919d863278bfe26771fc4c6e816f695a3c5b5e4466cc800035"), looks := false }, kinds := [], alts := [], laidByText := true, laidKinds := [.data, .data, .data, .data, .data, .data], laidTests := true, laidLooks := .later }
def SoundCardSaid : Prop := Claim7.holds Tryz.pinned (.plain (OpenSpec.ofChange soundSpec)) soundCard

/-- THE SECOND FORM's CARD OF 'gleanlaw.Sound'. -/
def soundUptoCard : Claim7 := { stood := { row := soundUptoRow, standIns := [], harness := (true, "ad722b60919b41919d863278bfe26771fc4c6e816f695a3c5b5e4466cc800035"), looks := false }, kinds := [], alts := [], laidByText := true, laidKinds := [.data, .data, .data, .data, .data, .data], laidTests := true, laidLooks := .later }
def SoundUptoCardSaid : Prop := Claim7.holds Tryz.pinned (.plain (OpenSpec.upto soundSpec)) soundUptoCard
end Rows
end Go.Proofs.YtgpamchpeamnfaaGreatDoor
