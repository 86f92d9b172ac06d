/- The program's lines of records, without memory. -/
import Derived.Test.YtaelaldmibgibaaGreatRows
import Derived.WalkKit
import Derived.WalkSpells
import Derived.WalkLawsBesides
import Derived.Deep.AppendLies
import Derived.Deep.MidRow
import Derived.Deep.DrawnRows
import Derived.BigQuiet
import Derived.Deep.QuietTactic
import Derived.Deep.RegionWith
import Derived.Deep.RegionHeld3
import Derived.Test.YtaelaldmibgibaaGreatH18
import Derived.ChangeKeysEq
import Derived.Deep.RegionLaw
import Derived.Deep.DeepMust
import Derived.Maps.OwnSet
import Derived.Maps.OwnOps
import Derived.Maps.Range
import Derived.Lib.ItoaNum
import Derived.Lib.AtoiAll
import Derived.Lib.Strings
import Derived.Lib.Split
import Derived.Lib.LastIndexByte
import Derived.Test.YtaelaldmibgibaaGreatH11
import Derived.Test.YtaelaldmibgibaaGreatH15
import Derived.Test.YtaelaldmibgibaaGreatH16
import Derived.Test.YtaelaldmibgibaaGreatH19
import Derived.Test.YtaelaldmibgibaaGreatH17
import Derived.Test.YtaelaldmibgibaaGreatH20
import Derived.Test.YtaelaldmibgibaaGreatH23

set_option linter.unusedVariables false
set_option linter.unusedSimpArgs false
set_option linter.unusedSectionVars false

namespace Go.Proofs.YtaelaldmibgibaaGreat
open Go.RowKit Go.Lib
def leB (a b : Nat → Int) : Bool := eqT (yad a b) b
end Go.Proofs.YtaelaldmibgibaaGreat
