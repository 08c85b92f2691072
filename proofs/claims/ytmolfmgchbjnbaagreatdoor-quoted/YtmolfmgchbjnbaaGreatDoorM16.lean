import Derived.Test.YtmolfmgchbjnbaaGreatDoorCards
import Derived.JoinedCond
import Derived.Test.YtmolfmgchbjnbaaGreatDoorMA
set_option linter.unusedSimpArgs false
set_option linter.unusedVariables false
set_option linter.unusedSectionVars false
set_option maxRecDepth 100000
set_option maxHeartbeats 40000000
open _root_.Go.Proofs.Tryz
namespace Go.Proofs.YtmolfmgchbjnbaaGreatDoor
open Go
theorem quoted_facts:joinedFacts Tryz.pinned.checked.prog 6 f6 (OpenSpec.ofChange Rows.quotedSpec).bare Rows.quotedRow=true:=by
 unfold joinedFacts
 simp only[Bool.and_eq_true]
 repeat' apply And.intro
 all_goals (as_aux_lemma=>kernel_rfl)
end Go.Proofs.YtmolfmgchbjnbaaGreatDoor
