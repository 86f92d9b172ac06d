/- A replica of the program's: Resolve (own, refused). The program's net: Resolve. -/
import Derived.Test.YtaelaldmibgibaaGreatS27
import Derived.Test.YtaelaldmibgibaaGreatS26

set_option linter.unusedVariables false
set_option linter.unusedSimpArgs false
set_option linter.unusedSectionVars false

namespace Go.Proofs.YtaelaldmibgibaaGreat
open Go.RowKit Go.Maps

end Go.Proofs.YtaelaldmibgibaaGreat

namespace Go.Proofs.YtaelaldmibgibaaGreat
open Go.RowKit

end Go.Proofs.YtaelaldmibgibaaGreat
