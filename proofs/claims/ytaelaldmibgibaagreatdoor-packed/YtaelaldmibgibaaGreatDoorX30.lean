/- The closed facts of the row of Packed, one by one. -/
import Derived.Test.YtaelaldmibgibaaGreatDoorRows
import Derived.ProofKit

set_option linter.all false
set_option maxHeartbeats 100000000
set_option maxRecDepth 100000

namespace Go.Proofs.K
open Go.Proofs.YtaelaldmibgibaaGreatDoor
theorem yuw : joinedFacts Tryz.prog 9 Tryz.f9 Rows.packedSpec Rows.packedRow = true := by
 unfold joinedFacts
 simp only [Bool.and_eq_true]
 repeat' apply And.intro
 all_goals (as_aux_lemma => kernel_rfl)
end Go.Proofs.K
