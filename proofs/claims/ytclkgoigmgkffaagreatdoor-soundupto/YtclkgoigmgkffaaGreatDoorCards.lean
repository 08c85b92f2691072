/-
  DERIVED. GIVEN WITH THE SEED: THE CARDS: each row of YtclkgoigmgkffaaGreatDoorRows.lean that lists a variable, with what it lists TIED to the program's text (the seventh form; the later family's looks); each row that meets fmt, with fmt's text TOLD by the authors' own Lean function (tested against real Go, not proved from fmt's source: count such statements apart). THE CARD IS WHAT COUNTS. Prove the row's statement (the work); the ties are given (YtclkgoigmgkffaaGreatDoorTie.lean); close each card by the builder's one call (the guide's Derived/Test/ToyasCard.lean, 'card_holds'). Laid BY PROGRAM, IN A SANDBOX (cutbox-door.mjs). By AI agents, Wed Nov 11 2026. No macro, syntax, notation, axiom, sorry.
-/
import Derived.Test.YtclkgoigmgkffaaGreatDoorRows
import GoSem.ClaimSeven
namespace Go.Proofs.YtclkgoigmgkffaaGreatDoor
namespace Rows

/-- THE TIED CARD OF 'gleanlaw.Patterns'. -/
def patternsCard : Claim7 := { stood := { row := patternsRow, standIns := [], harness := (true, "e9a2a9a4d32c98d1a47fcbf5bfd3a56e38d85fd3e357cbe3cb08603bde16296b"), looks := false }, kinds := [], alts := [], laidByText := true, laidKinds := [.data, .data, .data, .data, .data, .data, .data, .data], laidTests := true, laidLooks := .later }
def PatternsCardSaid : Prop := Claim7.holds Tryz.pinned (.plain (OpenSpec.ofChange patternsSpec)) patternsCard

/-- THE TIED CARD OF 'gleanlaw.Packs'. -/
def packsCard : Claim7 := { stood := { row := packsRow, standIns := [], harness := (true, "e9a2a9a4d32c98d1a47fcbf5bfd3a56e38d85fd3e357cbe3cb08603bde16296b"), looks := false }, kinds := [], alts := [], laidByText := true, laidKinds := [.data, .data, .data, .data, .data, .data, .data, .data], laidTests := true, laidLooks := .later }
def PacksCardSaid : Prop := Claim7.holds Tryz.pinned (.plain (OpenSpec.ofChange packsSpec)) packsCard

/-- THE TIED CARD OF 'gleanlaw.Checks'. -/
def checksCard : Claim7 := { stood := { row := checksRow, standIns := [], harness := (true, "e9a2a9a4d32c98d1a47fcbf5bfd3a56e38d85fd3e357cbe3cb08603bde16296b"), looks := false }, kinds := [], alts := [], laidByText := true, laidKinds := [.data, .data, .data, .data, .data, .data, .data, .data], laidTests := true, laidLooks := .later }
def ChecksCardSaid : Prop := Claim7.holds Tryz.pinned (.plain (OpenSpec.ofChange checksSpec)) checksCard

/-- THE TIED CARD OF 'gleanlaw.Sound'. -/
def soundCard : Claim7 := { stood := { row := soundRow, standIns := [], harness := (true, "e9a2a9a4d32c98d1a47fcbf5bfd3a56e38d85fd3e357cbe3cb08603bde16296b"), looks := false }, kinds := [], alts := [], laidByText := true, laidKinds := [.data, .data, .data, .data, .data, .data], laidTests := true, laidLooks := .later }
def SoundCardSaid : Prop := Claim7.holds Tryz.pinned (.plain (OpenSpec.ofChange soundSpec)) soundCard

/-- THE SECOND FORM's CARD OF 'gleanlaw.Patterns'. -/
def patternsUptoCard : Claim7 := { stood := { row := patternsUptoRow, standIns := [], harness := (true, "e9a2a9a4d32c98d1a47fcbf5bfd3a56e38d85fd3e357cbe3cb08603bde16296b"), looks := false }, kinds := [], alts := [], laidByText := true, laidKinds := [.data, .data, .data, .data, .data, .data, .data, .data], laidTests := true, laidLooks := .later }
def PatternsUptoCardSaid : Prop := Claim7.holds Tryz.pinned (.plain (OpenSpec.upto patternsSpec)) patternsUptoCard

/-- THE SECOND FORM's CARD OF 'gleanlaw.Packs'. -/
def packsUptoCard : Claim7 := { stood := { row := packsUptoRow, standIns := [], harness := (true, "e9a2a9a4d32c98d1a47fcbf5bfd3a56e38d85fd3e357cbe3cb08603bde16296b"), looks := false }, kinds := [], alts := [], laidByText := true, laidKinds := [.data, .data, .data, .data, .data, .data, .data, .data], laidTests := true, laidLooks := .later }
def PacksUptoCardSaid : Prop := Claim7.holds Tryz.pinned (.plain (OpenSpec.upto packsSpec)) packsUptoCard

/-- THE SECOND FORM's CARD OF 'gleanlaw.Checks'. -/
def checksUptoCard : Claim7 := { stood := { row := checksUptoRow, standIns := [], harness := (true, "e9a2a9a4d32c98d1a47fcbf5bfd3a56e38d85fd3e357cbe3cb08603bde16296b"), looks := false }, kinds := [], alts := [], laidByText := true, laidKinds := [.data, .data, .data, .data, .data, .data, .data, .data], laidTests := true, laidLooks := .later }
def ChecksUptoCardSaid : Prop := Claim7.holds Tryz.pinned (.plain (OpenSpec.upto checksSpec)) checksUptoCard

/-- THE SECOND FORM's CARD OF 'gleanlaw.Sound'. -/
def soundUptoCard : Claim7 := { stood := { row := soundUptoRow, standIns := [], harness := (true, "e9a2a9a4d32c98d1a47fcbf5bfd3a56e38d85fd3e357cbe3cb08603bde16296b"), looks := false }, kinds := [], alts := [], laidByText := true, laidKinds := [.data, .data, .data, .data, .data, .data], laidTests := true, laidLooks := .later }
def SoundUptoCardSaid : Prop := Claim7.holds Tryz.pinned (.plain (OpenSpec.upto soundSpec)) soundUptoCard
end Rows
end Go.Proofs.YtclkgoigmgkffaaGreatDoor
