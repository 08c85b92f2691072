/-
  Texts Fi.
-/
import Derived.Test.YtgpamchpeamnfaaGreatDoorCards
import Derived.Test.YtgpamchpeamnfaaGreatDoorMA
import Derived.JoinedCond
set_option linter.unusedSimpArgs false
set_option linter.unusedVariables false
set_option maxRecDepth 100000
set_option maxHeartbeats 40000000
namespace Go.Proofs.YtgpamchpeamnfaaGreatDoor
open Go.RowKit
theorem aGj:joinedFacts Tryz.pinned.checked.prog 3 Tryz.f3 (Rows.OpenSpec.upto Rows.soundSpec).bare Rows.soundUptoRow=true:=by
 unfold joinedFacts
 simp only[Bool.and_eq_true]
 repeat' apply And.intro
 all_goals (as_aux_lemma=>kernel_rfl)
end Go.Proofs.YtgpamchpeamnfaaGreatDoor
