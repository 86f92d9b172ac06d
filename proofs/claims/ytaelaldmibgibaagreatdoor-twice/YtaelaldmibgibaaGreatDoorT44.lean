/- The closed facts of the row of Twice, one by one. -/
import Derived.Test.YtaelaldmibgibaaGreatDoorRows
import Derived.ProofKit
import Derived.JoinedCond

set_option linter.unusedVariables false
set_option linter.unusedSimpArgs false
set_option linter.unusedSectionVars false
set_option maxHeartbeats 100000000
set_option maxRecDepth 100000

namespace Go.Proofs.YtaelaldmibgibaaGreatDoor
theorem yuc : joinedFacts Tryz.prog 7 Tryz.f7 Rows.twiceSpec Rows.twiceRow = true := by
 unfold joinedFacts
 simp only [Bool.and_eq_true]
 repeat' apply And.intro
 all_goals (as_aux_lemma => kernel_rfl)
end Go.Proofs.YtaelaldmibgibaaGreatDoor
