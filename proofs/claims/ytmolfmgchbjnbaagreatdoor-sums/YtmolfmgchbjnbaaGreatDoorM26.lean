import Derived.Test.YtmolfmgchbjnbaaGreatDoorCards
import Derived.JoinedCond
import Derived.Test.YtmolfmgchbjnbaaGreatDoorMA
set_option linter.unusedSimpArgs false
set_option linter.unusedVariables false
set_option maxRecDepth 100000
set_option maxHeartbeats 40000000
open _root_.Go.Proofs.Tryz
namespace Go.Proofs.YtmolfmgchbjnbaaGreatDoor
open Go
theorem sums_facts:joinedFacts Tryz.pinned.checked.prog 5 f5 (OpenSpec.ofChange Rows.sumsSpec).bare Rows.sumsRow=true:=by
 unfold joinedFacts
 simp only[Bool.and_eq_true]
 repeat' apply And.intro
 all_goals (as_aux_lemma=>kernel_rfl)
end Go.Proofs.YtmolfmgchbjnbaaGreatDoor
