/- A replica of the program's: PullPath. The program's net: PullPath of replicas that there are. A replica of the program's: Resolve. Resolve in a replica, as a function of states. A replica of the program's: Resolve (theirs, there). A replica of the program's: Resolve (theirs, gone). A replica of the program's: Resolve (theirs, refused). A replica of the program's: Resolve (own, there). A replica of the program's: Resolve (own, gone). -/
import Derived.Test.YtaelaldmibgibaaGreatS26
import Derived.Deep.DeepCutAuto
import Derived.Outline
import Derived.Test.YtaelaldmibgibaaGreatS12

set_option linter.unusedVariables false
set_option linter.unusedSimpArgs false
set_option linter.unusedSectionVars false

namespace Go.Proofs.YtaelaldmibgibaaGreat
open Go.RowKit Go.Maps

attribute [local go_sem ↓] stRecord
attribute [local go_sem] run_stRecord
end Go.Proofs.YtaelaldmibgibaaGreat

namespace Go.Proofs.YtaelaldmibgibaaGreat
open Go.RowKit

end Go.Proofs.YtaelaldmibgibaaGreat

namespace Go.Proofs.YtaelaldmibgibaaGreat
open Go.RowKit Go.Maps

end Go.Proofs.YtaelaldmibgibaaGreat

namespace Go.Proofs.YtaelaldmibgibaaGreat
open Go.RowKit

end Go.Proofs.YtaelaldmibgibaaGreat

namespace Go.Proofs.YtaelaldmibgibaaGreat
open Go.RowKit Go.Maps

end Go.Proofs.YtaelaldmibgibaaGreat

namespace Go.Proofs.YtaelaldmibgibaaGreat
open Go.RowKit Go.Maps

end Go.Proofs.YtaelaldmibgibaaGreat

namespace Go.Proofs.YtaelaldmibgibaaGreat
open Go.RowKit Go.Maps

end Go.Proofs.YtaelaldmibgibaaGreat

namespace Go.Proofs.YtaelaldmibgibaaGreat
open Go.RowKit Go.Maps

end Go.Proofs.YtaelaldmibgibaaGreat

namespace Go.Proofs.YtaelaldmibgibaaGreat
open Go.RowKit Go.Maps

end Go.Proofs.YtaelaldmibgibaaGreat
