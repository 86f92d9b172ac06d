/- The program's Unseal, without memory. The program's lines: cutLine; Has. The program's ReadHex. -/
import Derived.Test.YtaelaldmibgibaaGreatDoorRows
import Derived.WalkKit
import Derived.WalkSpells
import Derived.WalkLawsBesides
import Derived.Deep.AppendLies
import Derived.Deep.MidRow
import Derived.Deep.DrawnRows
import Derived.BigQuiet
import Derived.Deep.QuietTactic
import Derived.Deep.RegionWith
import Derived.Deep.RegionHeld3
import Derived.ChangeKeysEq
import Derived.Deep.RegionLaw
import Derived.Lib.ItoaNum
import Derived.Lib.AtoiAll
import Derived.Lib.Strings
import Derived.Test.YtaelaldmibgibaaGreatDoorT02
import Derived.Lib.Split
import Derived.Lib.LastIndexByte
import Derived.Test.YtaelaldmibgibaaGreatDoorT03
import Derived.Test.YtaelaldmibgibaaGreatDoorT04
import Derived.Test.YtaelaldmibgibaaGreatDoorT05
import Derived.Test.YtaelaldmibgibaaGreatDoorT07
import Derived.Test.YtaelaldmibgibaaGreatDoorT11
import Derived.Test.YtaelaldmibgibaaGreatDoorT12
import Derived.Test.YtaelaldmibgibaaGreatDoorT13
import Derived.Test.YtaelaldmibgibaaGreatDoorT14
import Derived.Test.YtaelaldmibgibaaGreatDoorT15
import Derived.Deep.DeepMust

set_option linter.unusedVariables false
set_option linter.unusedSimpArgs false
set_option linter.unusedSectionVars false
set_option maxHeartbeats 400000

namespace Go.Proofs.YtaelaldmibgibaaGreatDoor
open Go.RowKit Go.Lib
theorem at_bs (s : ByteArray) (j : Nat) (hj : j < s.size) : (bs s)[j]? = some (s.data[j]!) := by
 unfold bs
 have h : j < s.data.size := hj
 rw [Array.getElem?_toList, Array.getElem?_eq_getElem h, getElem!_pos s.data j h]
theorem Has_any (f : Nat → Int) (r : Nat) (k : Int) (hr : r < 6) (w : World) :
  Calls Tryz.prog 224 #[ywq f, .agg #[.int .i64 r, .int .i64 k]] w fun e w' => e = .returned (.bool (decide (k ≤ f r))) ∧ Below w.heap.size w w' := by
 unfold ywq
 have c : ∀ o, ((w.alloc (.cells #[.int .i64 (f 0), .int .i64 (f 1), .int .i64 (f 2), .int .i64 (f 3), .int .i64 (f 4), .int .i64 (f 5)] 186)).alloc o).cell? ⟨w.heap.size, r, none⟩ = some (.int .i64 (f r)) := fun o => by
  rw [World.cell?_alloc_old _ _ _ (by simp)]
  simp only [World.cell?, heap_alloc_new]
  match r, hr with
  |0, _ | 1, _ | 2, _ | 3, _ | 4, _ | 5, _ => rfl
 have hr1 : (0 : Int) ≤ (r : Int) := by omega
 have hr2 : (r : Int) < 6 := by omega
 have B : Hid (∀ q a b, Below w.heap.size w (((w.alloc a).alloc b).drewN q)) := fun q a b => by
  have := ((Below.refl w.heap.size w).alloc (Nat.le_refl _) a).alloc (by simp) b
  exact ⟨this.os, this.tape, this.output, this.size, this.block⟩
 go_enter Tryz.func224, Tryz.ntmps224
 go_wp2
 go_quiet (fail)
 go_wp2
 go_ret
 exact ⟨rfl, B.out _ _ _⟩
theorem info_u8 : (Tryz.prog.info? 5).map (fun i => (i.zero, i.size, i.bytes)) = some (some (.int .u8 0), 1, 1) := by kernel_rfl
theorem ydn {B : Nat} {w w' : World} (h : Below B w w') (q : Nat) : Below B w (w'.drewN q) := ⟨h.os, h.tape, h.output, h.size, h.block⟩
def bvs (l : Bs) : List Value := l.map (fun c => Value.int .u8 (c.toNat : Int))
end Go.Proofs.YtaelaldmibgibaaGreatDoor
