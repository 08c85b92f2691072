/-
  DERIVED. GIVEN WITH THE SEED: THE CARDS: each row of YtakbfoegkjaphaaDoorRows.lean that lists a variable, with what it lists TIED to the program's text (the seventh form; the later family's looks); each row that meets fmt, with fmt's text TOLD by the authors' own Lean function (tested against real Go, not proved from fmt's source: count such statements apart). THE CARD IS WHAT COUNTS. Prove the row's statement (the work); the ties are given (YtakbfoegkjaphaaDoorTie.lean); close each card by the builder's one call (the guide's Derived/Test/ToyasCard.lean, 'card_holds'). Laid BY PROGRAM, IN A SANDBOX (cutbox-door.mjs). By AI agents, Wed Nov 11 2026. No macro, syntax, notation, axiom, sorry.
-/
import Derived.Test.YtakbfoegkjaphaaDoorRows
import GoSem.ClaimSeven
namespace Go.Proofs.YtakbfoegkjaphaaDoor
namespace Rows

/-- THE TIED CARD OF 'gleankeep.Literal'. -/
def literalCard : Claim7 := { stood := { row := literalRow, standIns := [], harness := (true, "707316cd619b91479b167276ff5d80d4a4c6581c24cc9604e489bcd2c06d92f8"), looks := false }, kinds := [], alts := [], laidByText := true, laidKinds := [.data], laidTests := true, laidLooks := .later }
def LiteralCardSaid : Prop := Claim7.holds Tryd.pinned (.plain (OpenSpec.ofChange literalSpec)) literalCard

/-- THE TIED CARD OF 'gleankeep.Found'. -/
def foundCard : Claim7 := { stood := { row := foundRow, standIns := [], harness := (true, "707316cd619b91479b167276ff5d80d4a4c6581c24cc9604e489bcd2c06d92f8"), looks := false }, kinds := [], alts := [], laidByText := true, laidKinds := [.data], laidTests := true, laidLooks := .later }
def FoundCardSaid : Prop := Claim7.holds Tryd.pinned (.plain (OpenSpec.ofChange foundSpec)) foundCard

/-- THE SECOND FORM's CARD OF 'gleankeep.Literal'. -/
def literalUptoCard : Claim7 := { stood := { row := literalUptoRow, standIns := [], harness := (true, "707316cd619b91479b167276ff5d80d4a4c6581c24cc9604e489bcd2c06d92f8"), looks := false }, kinds := [], alts := [], laidByText := true, laidKinds := [.data], laidTests := true, laidLooks := .later }
def LiteralUptoCardSaid : Prop := Claim7.holds Tryd.pinned (.plain (OpenSpec.upto literalSpec)) literalUptoCard

/-- THE SECOND FORM's CARD OF 'gleankeep.Found'. -/
def foundUptoCard : Claim7 := { stood := { row := foundUptoRow, standIns := [], harness := (true, "707316cd619b91479b167276ff5d80d4a4c6581c24cc9604e489bcd2c06d92f8"), looks := false }, kinds := [], alts := [], laidByText := true, laidKinds := [.data], laidTests := true, laidLooks := .later }
def FoundUptoCardSaid : Prop := Claim7.holds Tryd.pinned (.plain (OpenSpec.upto foundSpec)) foundUptoCard
end Rows
end Go.Proofs.YtakbfoegkjaphaaDoor
