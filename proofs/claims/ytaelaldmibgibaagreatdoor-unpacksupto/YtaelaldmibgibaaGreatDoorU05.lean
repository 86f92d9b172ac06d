/- The closed facts of the row of Unpacks, one by one. -/
import Derived.Test.YtaelaldmibgibaaGreatDoorRows
import Derived.ProofKit
import Derived.JoinedCond

set_option linter.unusedVariables false
set_option linter.unusedSimpArgs false

namespace Go.Proofs.YtaelaldmibgibaaGreatDoor

def unpacksLone : OpenClaim := { Rows.unpacksUptoRow with leaving := false }

set_option maxRecDepth 100000 in
set_option maxHeartbeats 100000000 in
theorem unpacks_closed : joinedFacts Tryz.prog 5 Tryz.f5 (Rows.OpenSpec.upto Rows.unpacksSpec).bare unpacksLone = true := by
  unfold joinedFacts
  simp only [Bool.and_eq_true]
  repeat' apply And.intro
  all_goals (as_aux_lemma => kernel_rfl)

end Go.Proofs.YtaelaldmibgibaaGreatDoor
