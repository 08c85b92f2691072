/-
  DERIVED. GIVEN WITH THE SEED: THE CARDS: each row of YtmolfmgchbjnbaaGreatDoorRows.lean that lists a variable, with what it lists TIED to the program's text (the seventh form; the later family's looks); each row that meets fmt, with fmt's text TOLD by the authors' own Lean function (tested against real Go, not proved from fmt's source: count such statements apart). THE CARD IS WHAT COUNTS. Prove the row's statement (the work); the ties are given (YtmolfmgchbjnbaaGreatDoorTie.lean); close each card by the builder's one call (the guide's Derived/Test/ToyasCard.lean, 'card_holds'). Laid BY PROGRAM, IN A SANDBOX (cutbox-door.mjs). By AI agents, Wed Nov 11 2026. No macro, syntax, notation, axiom, sorry.
-/
import Derived.Test.YtmolfmgchbjnbaaGreatDoorRows
import GoSem.ClaimSeven
namespace Go.Proofs.YtmolfmgchbjnbaaGreatDoor
namespace Rows

/-- THE TIED CARD OF 'gleankeep.Echo'. -/
def echoCard : Claim7 := { stood := { row := echoRow, standIns := [], harness := (true, "6e6bcba43e23cc1197270ed161a2f489580758c9f1c54abc5802230fa5a38bc6"), looks := false }, kinds := [], alts := [], laidByText := true, laidKinds := [.data, .data, .data, .data, .data, .pinned], laidTests := true, laidLooks := .later }
def EchoCardSaid : Prop := Claim7.holds Tryz.pinned (.plain (OpenSpec.ofChange echoSpec)) echoCard

/-- THE TIED CARD OF 'gleankeep.Tallies'. -/
def talliesCard : Claim7 := { stood := { row := talliesRow, standIns := [], harness := (true, "6e6bcba43e23cc1197270ed161a2f489580758c9f1c54abc5802230fa5a38bc6"), looks := false }, kinds := [], alts := [], laidByText := true, laidKinds := [.data, .data, .data, .data, .data, .pinned], laidTests := true, laidLooks := .later }
def TalliesCardSaid : Prop := Claim7.holds Tryz.pinned (.plain (OpenSpec.ofChange talliesSpec)) talliesCard

/-- THE TIED CARD OF 'gleankeep.Sums'. -/
def sumsCard : Claim7 := { stood := { row := sumsRow, standIns := [], harness := (true, "6e6bcba43e23cc1197270ed161a2f489580758c9f1c54abc5802230fa5a38bc6"), looks := false }, kinds := [], alts := [], laidByText := true, laidKinds := [.data, .data, .data, .data, .data, .pinned], laidTests := true, laidLooks := .later }
def SumsCardSaid : Prop := Claim7.holds Tryz.pinned (.plain (OpenSpec.ofChange sumsSpec)) sumsCard

/-- THE TIED CARD OF 'gleankeep.Quoted'. -/
def quotedCard : Claim7 := { stood := { row := quotedRow, standIns := [], harness := (true, "6e6bcba43e23cc1197270ed161a2f489580758c9f1c54abc5802230fa5a38bc6"), looks := false }, kinds := [], alts := [], laidByText := true, laidKinds := [.data, .data, .data, .data, .data, .pinned], laidTests := true, laidLooks := .later }
def QuotedCardSaid : Prop := Claim7.holds Tryz.pinned (.plain (OpenSpec.ofChange quotedSpec)) quotedCard

/-- THE SECOND FORM's CARD OF 'gleankeep.Echo'. -/
def echoUptoCard : Claim7 := { stood := { row := echoUptoRow, standIns := [], harness := (true, "6e6bcba43e23cc1197270ed161a2f489580758c9f1c54abc5802230fa5a38bc6"), looks := false }, kinds := [], alts := [], laidByText := true, laidKinds := [.data, .data, .data, .data, .data, .pinned], laidTests := true, laidLooks := .later }
def EchoUptoCardSaid : Prop := Claim7.holds Tryz.pinned (.plain (OpenSpec.upto echoSpec)) echoUptoCard

/-- THE SECOND FORM's CARD OF 'gleankeep.Tallies'. -/
def talliesUptoCard : Claim7 := { stood := { row := talliesUptoRow, standIns := [], harness := (true, "6e6bcba43e23cc1197270ed161a2f489580758c9f1c54abc5802230fa5a38bc6"), looks := false }, kinds := [], alts := [], laidByText := true, laidKinds := [.data, .data, .data, .data, .data, .pinned], laidTests := true, laidLooks := .later }
def TalliesUptoCardSaid : Prop := Claim7.holds Tryz.pinned (.plain (OpenSpec.upto talliesSpec)) talliesUptoCard

/-- THE SECOND FORM's CARD OF 'gleankeep.Sums'. -/
def sumsUptoCard : Claim7 := { stood := { row := sumsUptoRow, standIns := [], harness := (true, "6e6bcba43e23cc1197270ed161a2f489580758c9f1c54abc5802230fa5a38bc6"), looks := false }, kinds := [], alts := [], laidByText := true, laidKinds := [.data, .data, .data, .data, .data, .pinned], laidTests := true, laidLooks := .later }
def SumsUptoCardSaid : Prop := Claim7.holds Tryz.pinned (.plain (OpenSpec.upto sumsSpec)) sumsUptoCard

/-- THE SECOND FORM's CARD OF 'gleankeep.Quoted'. -/
def quotedUptoCard : Claim7 := { stood := { row := quotedUptoRow, standIns := [], harness := (true, "6e6bcba43e23cc1197270ed161a2f489580758c9f1c54abc5802230fa5a38bc6"), looks := false }, kinds := [], alts := [], laidByText := true, laidKinds := [.data, .data, .data, .data, .data, .pinned], laidTests := true, laidLooks := .later }
def QuotedUptoCardSaid : Prop := Claim7.holds Tryz.pinned (.plain (OpenSpec.upto quotedSpec)) quotedUptoCard
end Rows
end Go.Proofs.YtmolfmgchbjnbaaGreatDoor
