/- The program's lines of records, without memory. -/
import Derived.Test.YtaelaldmibgibaaGreatDoorRows
import Derived.WalkKit
import Derived.WalkSpells
import Derived.WalkLawsBesides
import Derived.Deep.AppendLies
import Derived.Deep.MidRow
import Derived.Deep.DrawnRows
import Derived.BigQuiet
import Derived.Deep.QuietTactic
import Derived.Deep.RegionWith
import Derived.Deep.RegionHeld3
import Derived.Test.YtaelaldmibgibaaGreatDoorT01
import Derived.ChangeKeysEq
import Derived.Deep.RegionLaw
import Derived.Deep.DeepMust
import Derived.Maps.OwnSet
import Derived.Maps.OwnOps
import Derived.Maps.Range
import Derived.Lib.ItoaNum
import Derived.Lib.AtoiAll
import Derived.Lib.Strings
import Derived.Test.YtaelaldmibgibaaGreatDoorT02
import Derived.Lib.Split
import Derived.Lib.LastIndexByte
import Derived.Test.YtaelaldmibgibaaGreatDoorT03
import Derived.Test.YtaelaldmibgibaaGreatDoorT04
import Derived.Test.YtaelaldmibgibaaGreatDoorT05
import Derived.Test.YtaelaldmibgibaaGreatDoorT06
import Derived.Test.YtaelaldmibgibaaGreatDoorT07
import Derived.Test.YtaelaldmibgibaaGreatDoorT08
import Derived.Test.YtaelaldmibgibaaGreatDoorT11
import Derived.Test.YtaelaldmibgibaaGreatDoorT12
import Derived.Test.YtaelaldmibgibaaGreatDoorT13
import Derived.Test.YtaelaldmibgibaaGreatDoorT14
import Derived.Test.YtaelaldmibgibaaGreatDoorT15
import Derived.Test.YtaelaldmibgibaaGreatDoorT16

set_option linter.unusedVariables false
set_option linter.unusedSimpArgs false
set_option linter.unusedSectionVars false

namespace Go.Proofs.YtaelaldmibgibaaGreatDoor
open Go.RowKit Go.Lib
def DS.born (d : DS) : Prop := d.there = true → 1 ≤ d.num ∧ d.num ≤ d.chg.getD d.by_ 0
def yej (d : DS) : Rec := ⟨yax d.text, d.by_, d.num, lfn d.chg, lfn d.known⟩
def leB (a b : Nat → Int) : Bool := eqT (yab a b) b
end Go.Proofs.YtaelaldmibgibaaGreatDoor
