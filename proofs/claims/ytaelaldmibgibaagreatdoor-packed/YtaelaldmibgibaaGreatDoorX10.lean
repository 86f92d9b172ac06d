/- The library's Clone of a string, by the shelf's contract. -/
import Derived.Test.YtaelaldmibgibaaGreatDoorX02
import Derived.Test.YtaelaldmibgibaaGreatDoorX03

set_option linter.all false
set_option maxHeartbeats 400000

namespace Go.Proofs.K
open Go.RowKit
theorem yox (s : ByteArray) (w : World) (hs : s.size ≤ 1000000000000) :
  Calls Tryz.prog 109 #[.string s] w fun e w' => e = .returned (.string s) ∧ Below w.heap.size w w' := by
 go_enter Tryz.func109, Tryz.ntmps109
 go_wp2_with (go_at_call 169; refine (Tryz.stringslite_Clone s w (by omega)).mono ?_; rintro e w' ⟨rfl, hb⟩)
 go_ret
 exact ⟨rfl, hb⟩
end Go.Proofs.K
