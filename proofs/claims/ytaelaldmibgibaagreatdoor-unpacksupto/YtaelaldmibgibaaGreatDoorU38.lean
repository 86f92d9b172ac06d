/- The document's Unpack at every text. -/
import Derived.Test.YtaelaldmibgibaaGreatDoorU34
import Derived.Test.YtaelaldmibgibaaGreatDoorU32

set_option linter.unusedVariables false
set_option linter.unusedSimpArgs false

namespace Go.Proofs.YtaelaldmibgibaaGreatDoor
open Go.RowKit

theorem docOk_head {s : ByteArray} (h : docOk s) : headOk s = true := by
  have q := h.1
  unfold textOk at q
  simp only [Bool.and_eq_true] at q
  exact q.1
theorem refUnpack_any (s : ByteArray) (hs : s.size ≤ 10000000) (w : World) :
    Calls Tryz.prog 28 #[.string s] w fun e w' => Ver s e ∧ Below w.heap.size w w' := by
  cases h : headOk s with
  | true => exact unpack_body s hs w h
  | false =>
    refine (unpack_head s (by omega) w h).mono ?_
    rintro e w' ⟨rfl, hb⟩
    exact ⟨Ver.no (fun hd => by rw [docOk_head hd] at h; cases h), hb⟩

end Go.Proofs.YtaelaldmibgibaaGreatDoor
