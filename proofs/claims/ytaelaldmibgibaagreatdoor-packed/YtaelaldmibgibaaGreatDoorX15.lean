/- The document's text: Unpack: the reader, the net and what wa. -/
import Derived.Test.YtaelaldmibgibaaGreatDoorX09
import Derived.Test.YtaelaldmibgibaaGreatDoorX11

set_option linter.all false

namespace Go.Proofs.K
open Go.RowKit
section
variable {w wr w' : World} {s : ByteArray} {x y : Nat × Bool} {tb n : Nat} {ρ σ : Nat → Nat × Nat} {S : RSd} {R : List RR} {nv xv : Value} {ns xs : List Value}
end
end Go.Proofs.K

namespace Go.Proofs.K
open Go.RowKit
section
variable {w wr w' : World} {s : ByteArray} {x y : Nat × Bool} {tb n : Nat} {ρ σ : Nat → Nat × Nat} {S : RSd} {R : List RR} {nv xv : Value} {ns xs : List Value}
end
end Go.Proofs.K
