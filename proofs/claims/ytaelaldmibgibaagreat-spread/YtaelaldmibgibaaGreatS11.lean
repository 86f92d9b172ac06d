/- The program's lines of records, without memory. -/
import Derived.Test.YtaelaldmibgibaaGreatRows
import Derived.WalkKit
import Derived.WalkSpells
import Derived.WalkLawsBesides
import Derived.Deep.AppendLies
import Derived.Deep.MidRow
import Derived.Deep.DrawnRows
import Derived.BigQuiet
import Derived.Deep.QuietTactic
import Derived.Deep.RegionWith
import Derived.Deep.RegionHeld3
import Derived.Test.YtaelaldmibgibaaGreatS01
import Derived.ChangeKeysEq
import Derived.Deep.RegionLaw
import Derived.Deep.DeepMust
import Derived.Maps.OwnSet
import Derived.Maps.OwnOps
import Derived.Maps.Range
import Derived.Lib.ItoaNum
import Derived.Lib.AtoiAll
import Derived.Lib.Strings
import Derived.Lib.Split
import Derived.Lib.LastIndexByte
import Derived.Test.YtaelaldmibgibaaGreatS02
import Derived.Test.YtaelaldmibgibaaGreatS03
import Derived.Test.YtaelaldmibgibaaGreatS04
import Derived.Test.YtaelaldmibgibaaGreatS05
import Derived.Test.YtaelaldmibgibaaGreatS06
import Derived.Test.YtaelaldmibgibaaGreatS07
import Derived.Test.YtaelaldmibgibaaGreatS10

set_option linter.unusedVariables false
set_option linter.unusedSimpArgs false
set_option linter.unusedSectionVars false

namespace Go.Proofs.YtaelaldmibgibaaGreat
open Go.RowKit Go.Lib

def leB (a b : Nat → Int) : Bool := eqT (gboth a b) b
end Go.Proofs.YtaelaldmibgibaaGreat
