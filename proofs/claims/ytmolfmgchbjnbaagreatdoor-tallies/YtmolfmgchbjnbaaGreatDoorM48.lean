import Derived.Test.YtmolfmgchbjnbaaGreatDoorCards
import Derived.JoinedCond
set_option linter.unusedSimpArgs false
set_option linter.unusedVariables false
namespace Go.Proofs.YtmolfmgchbjnbaaGreatDoor
open Go
set_option maxRecDepth 100000 in
set_option maxHeartbeats 40000000 in
theorem tallies_facts : joinedFacts Tryz.pinned.checked.prog 4 Tryz.f4 (OpenSpec.ofChange Rows.talliesSpec).bare Rows.talliesRow = true := by
 unfold joinedFacts
 simp only [Bool.and_eq_true]
 repeat' apply And.intro
 all_goals (as_aux_lemma => kernel_rfl)
end Go.Proofs.YtmolfmgchbjnbaaGreatDoor
