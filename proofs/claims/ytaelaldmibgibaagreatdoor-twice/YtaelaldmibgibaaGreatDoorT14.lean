/- The program's reader of numbers. -/
import Derived.Test.YtaelaldmibgibaaGreatDoorRows
import Derived.WalkKit
import Derived.WalkSpells
import Derived.WalkLawsBesides
import Derived.Deep.AppendLies
import Derived.Deep.MidRow
import Derived.Deep.DrawnRows
import Derived.BigQuiet
import Derived.Deep.QuietTactic
import Derived.Deep.RegionWith
import Derived.Deep.RegionHeld3
import Derived.Lib.ItoaNum
import Derived.Lib.AtoiAll
import Derived.Lib.Strings
import Derived.Test.YtaelaldmibgibaaGreatDoorT02
import Derived.Deep.RegionLaw
import Derived.Test.YtaelaldmibgibaaGreatDoorT03
import Derived.Test.YtaelaldmibgibaaGreatDoorT04
import Derived.Test.YtaelaldmibgibaaGreatDoorT05
import Derived.Test.YtaelaldmibgibaaGreatDoorT11
import Derived.Test.YtaelaldmibgibaaGreatDoorT12
import Derived.Test.YtaelaldmibgibaaGreatDoorT13

set_option linter.unusedVariables false
set_option linter.unusedSimpArgs false
set_option linter.unusedSectionVars false

namespace Go.Proofs.YtaelaldmibgibaaGreatDoor
open Go.RowKit Go.Lib Go.Sort
structure yli (w : World) : Prop where
 max : ∃ m, w.cell? ⟨0, 0, none⟩ = some (.int .i64 m)
 tab : Lib.TabIs Tryz.prog w "internal/strconv.uint64pow10" .u64 Lib.pow10Tab
 sz : 8 ≤ w.heap.size
theorem yqe : Tryz.prog.globalNamed "internal/strconv.uint64pow10" = some 1 := by kernel_rfl
theorem yli.below {w w' : World} (h : yli w) (hb : Below w.heap.size w w') : yli w' where
 max := by obtain ⟨m, q⟩ := h.max; exact ⟨m, (hb.cell (p := ⟨0, 0, none⟩) (by have := h.sz; simp only; omega)).trans q⟩
 tab := by
  have h1 := h.tab
  unfold Lib.TabIs World.var? at *
  rw [yqe] at *
  simp only [Option.bind_eq_bind, Option.bind_some] at *
  rw [hb.block 1 (by have := h.sz; omega)]
  exact h1
 sz := Nat.le_trans h.sz hb.size
theorem ypc (w : World) (k : Nat) (os : Array Obj) : Below w.heap.size w (grow (w.drewN k) os) := by
 have h : (w.drewN k).heap = w.heap := rfl
 refine ⟨rfl, rfl, rfl, ?_, fun j hj => ?_⟩
 ·simp [grow, h]
 ·simp only [grow, h]
  rw [Array.getElem?_append_left hj]
end Go.Proofs.YtaelaldmibgibaaGreatDoor
