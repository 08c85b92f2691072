import Derived.Test.YtlokkgajpjafmaaGreatDoorCards
import Derived.JoinedCond
import Derived.Test.YtlokkgajpjafmaaGreatDoorMA
set_option linter.unusedSimpArgs false
set_option linter.unusedVariables false
set_option maxRecDepth 100000
set_option maxHeartbeats 40000000
open _root_.Go.Proofs.Tryz
namespace Go.Proofs.YtlokkgajpjafmaaGreatDoor
open Go
theorem N1:joinedFacts Tryz.pinned.checked.prog 3 f3 (OpenSpec.ofChange Rows.piecesSpec).bare Rows.piecesRow=true:=by
 unfold joinedFacts
 simp only[Bool.and_eq_true]
 repeat' apply And.intro
 all_goals (as_aux_lemma=>kernel_rfl)
end Go.Proofs.YtlokkgajpjafmaaGreatDoor
