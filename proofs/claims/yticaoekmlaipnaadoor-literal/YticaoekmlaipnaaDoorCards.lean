/-
  DERIVED. GIVEN WITH THE SEED: THE CARDS: each row of YticaoekmlaipnaaDoorRows.lean that lists a variable, with what it lists TIED to the program's text (the seventh form; the later family's looks); each row that meets fmt, with fmt's text TOLD by the authors' own Lean function (tested against real Go, not proved from fmt's source: count such statements apart). THE CARD IS WHAT COUNTS. Prove the row's statement (the work); the ties are given (YticaoekmlaipnaaDoorTie.lean); close each card by the builder's one call (the guide's Derived/Test/ToyasCard.lean, 'card_holds'). Laid BY PROGRAM, IN A SANDBOX (cutbox-door.mjs). By AI agents, Wed Nov 11 2026. No macro, syntax, notation, axiom, sorry.
-/
import Derived.Test.YticaoekmlaipnaaDoorRows
import GoSem.ClaimSeven
namespace Go.Proofs.YticaoekmlaipnaaDoor
namespace Rows

/-- THE TIED CARD OF 'gleankeep.Literal'. -/
def literalCard : Claim7 := { stood := { row := literalRow, standIns := [], harness := (true, "78848e14252fa9d384e37b3ba9c1dd6052046974c9a886aa2cc0073385135770"), looks := false }, kinds := [], alts := [], laidByText := true, laidKinds := [.data], laidTests := true, laidLooks := .later }
def LiteralCardSaid : Prop := Claim7.holds Tryd.pinned (.plain (OpenSpec.ofChange literalSpec)) literalCard

/-- THE TIED CARD OF 'gleankeep.Found'. -/
def foundCard : Claim7 := { stood := { row := foundRow, standIns := [], harness := (true, "78848e14252fa9d384e37b3ba9c1dd6052046974c9a886aa2cc0073385135770"), looks := false }, kinds := [], alts := [], laidByText := true, laidKinds := [.data], laidTests := true, laidLooks := .later }
def FoundCardSaid : Prop := Claim7.holds Tryd.pinned (.plain (OpenSpec.ofChange foundSpec)) foundCard

/-- THE TIED CARD OF 'gleankeep.Back'. -/
def backCard : Claim7 := { stood := { row := backRow, standIns := [], harness := (true, "78848e14252fa9d384e37b3ba9c1dd6052046974c9a886aa2cc0073385135770"), looks := false }, kinds := [], alts := [], laidByText := true, laidKinds := [.data], laidTests := true, laidLooks := .later }
def BackCardSaid : Prop := Claim7.holds Tryd.pinned (.plain (OpenSpec.ofChange backSpec)) backCard

/-- THE TIED CARD OF 'gleankeep.Spoilt'. -/
def spoiltCard : Claim7 := { stood := { row := spoiltRow, standIns := [], harness := (true, "78848e14252fa9d384e37b3ba9c1dd6052046974c9a886aa2cc0073385135770"), looks := false }, kinds := [], alts := [], laidByText := true, laidKinds := [.data], laidTests := true, laidLooks := .later }
def SpoiltCardSaid : Prop := Claim7.holds Tryd.pinned (.plain (OpenSpec.ofChange spoiltSpec)) spoiltCard

/-- THE SECOND FORM's CARD OF 'gleankeep.Literal'. -/
def literalUptoCard : Claim7 := { stood := { row := literalUptoRow, standIns := [], harness := (true, "78848e14252fa9d384e37b3ba9c1dd6052046974c9a886aa2cc0073385135770"), looks := false }, kinds := [], alts := [], laidByText := true, laidKinds := [.data], laidTests := true, laidLooks := .later }
def LiteralUptoCardSaid : Prop := Claim7.holds Tryd.pinned (.plain (OpenSpec.upto literalSpec)) literalUptoCard

/-- THE SECOND FORM's CARD OF 'gleankeep.Found'. -/
def foundUptoCard : Claim7 := { stood := { row := foundUptoRow, standIns := [], harness := (true, "78848e14252fa9d384e37b3ba9c1dd6052046974c9a886aa2cc0073385135770"), looks := false }, kinds := [], alts := [], laidByText := true, laidKinds := [.data], laidTests := true, laidLooks := .later }
def FoundUptoCardSaid : Prop := Claim7.holds Tryd.pinned (.plain (OpenSpec.upto foundSpec)) foundUptoCard

/-- THE SECOND FORM's CARD OF 'gleankeep.Back'. -/
def backUptoCard : Claim7 := { stood := { row := backUptoRow, standIns := [], harness := (true, "78848e14252fa9d384e37b3ba9c1dd6052046974c9a886aa2cc0073385135770"), looks := false }, kinds := [], alts := [], laidByText := true, laidKinds := [.data], laidTests := true, laidLooks := .later }
def BackUptoCardSaid : Prop := Claim7.holds Tryd.pinned (.plain (OpenSpec.upto backSpec)) backUptoCard

/-- THE SECOND FORM's CARD OF 'gleankeep.Spoilt'. -/
def spoiltUptoCard : Claim7 := { stood := { row := spoiltUptoRow, standIns := [], harness := (true, "78848e14252fa9d384e37b3ba9c1dd6052046974c9a886aa2cc0073385135770"), looks := false }, kinds := [], alts := [], laidByText := true, laidKinds := [.data], laidTests := true, laidLooks := .later }
def SpoiltUptoCardSaid : Prop := Claim7.holds Tryd.pinned (.plain (OpenSpec.upto spoiltSpec)) spoiltUptoCard
end Rows
end Go.Proofs.YticaoekmlaipnaaDoor
