/- The closed facts of the row of Writes, one by one. -/
import Derived.Test.YtaelaldmibgibaaGreatDoorRows
import Derived.ProofKit
import Derived.JoinedCond

set_option linter.unusedVariables false
set_option linter.unusedSimpArgs false

namespace Go.Proofs.YtaelaldmibgibaaGreatDoor

def writesLone : OpenClaim := { Rows.writesUptoRow with leaving := false }

set_option maxRecDepth 100000 in
set_option maxHeartbeats 100000000 in
theorem writes_closed : joinedFacts Tryz.prog 3 Tryz.f3 (Rows.OpenSpec.upto Rows.writesSpec).bare writesLone = true := by
  unfold joinedFacts
  simp only [Bool.and_eq_true]
  repeat' apply And.intro
  all_goals (as_aux_lemma => kernel_rfl)

end Go.Proofs.YtaelaldmibgibaaGreatDoor
