/-
  Texts Fi.
-/
import Derived.Test.YtclkgoigmgkffaaGreatDoorCards
import Derived.Test.YtclkgoigmgkffaaGreatDoorMA
import Derived.JoinedCond
set_option linter.unusedSimpArgs false
set_option linter.unusedVariables false
set_option maxRecDepth 100000
set_option maxHeartbeats 40000000
namespace Go.Proofs.YtclkgoigmgkffaaGreatDoor
open Go.RowKit
theorem aGj:joinedFacts Tryz.pinned.checked.prog 6 Tryz.f6 (Rows.OpenSpec.upto Rows.soundSpec).bare Rows.soundUptoRow=true:=by
 unfold joinedFacts
 simp only[Bool.and_eq_true]
 repeat' apply And.intro
 all_goals (as_aux_lemma=>kernel_rfl)
end Go.Proofs.YtclkgoigmgkffaaGreatDoor
