/-
  Texts Ah.
-/
import Derived.Test.YtclkgoigmgkffaaGreatDoorCards
import Derived.JoinedCond
import Derived.KernelRfl
import Derived.RowKit
set_option linter.unusedSimpArgs false
set_option linter.unusedVariables false
set_option maxRecDepth 100000
set_option maxHeartbeats 40000000
namespace Go.Proofs.YtclkgoigmgkffaaGreatDoor
open Go.RowKit
theorem packs_facts:joinedFacts Tryz.pinned.checked.prog 4 Tryz.f4 (Rows.OpenSpec.upto Rows.packsSpec).bare Rows.packsUptoRow=true:=by
 unfold joinedFacts
 simp only[Bool.and_eq_true]
 repeat' apply And.intro
 all_goals (as_aux_lemma=>kernel_rfl)
end Go.Proofs.YtclkgoigmgkffaaGreatDoor
