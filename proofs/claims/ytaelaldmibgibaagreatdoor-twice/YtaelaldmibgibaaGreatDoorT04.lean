/- The document's answer in memory: what single stores make of a net. The document's text: within, value. The document's text: its sum. -/
import Derived.Test.YtaelaldmibgibaaGreatDoorRows
import Derived.WalkKit
import Derived.WalkSpells
import Derived.WalkLawsBesides
import Derived.Deep.AppendLies
import Derived.Deep.MidRow
import Derived.Deep.DrawnRows
import Derived.BigQuiet
import Derived.Deep.QuietTactic
import Derived.Test.YtaelaldmibgibaaGreatDoorT03

set_option linter.unusedVariables false
set_option linter.unusedSimpArgs false
set_option linter.unusedSectionVars false

namespace Go.Proofs.YtaelaldmibgibaaGreatDoor
open Go.RowKit
theorem yca {w : World} {a : Addr} {u : Value} {k : Nat} (h : k ≠ a.block) : (w.setCell a u).heap[k]? = w.heap[k]? := Below.heap_setCell _ _ _ _ h
def digs : ByteArray := ⟨#[48, 49, 50, 51, 52, 53, 54, 55, 56, 57, 97, 98, 99, 100, 101, 102]⟩
def ybw (s : ByteArray) : Nat → Nat
 |0 => 0
 |k + 1 => (ybw s k + (k + 1) * (s.data.getD k 0).toNat) % 1000003
theorem ykr (n : Int) (h : -9223372036854775808 ≤ n ∧ n ≤ 9223372036854775807) : wrap64 n = n := by unfold wrap64; omega
theorem yrm (s : ByteArray) (k : Nat) : ybw s k < 1000003 := by
 cases k with
 |zero => show 0 < 1000003; decide
 |succ k => exact Nat.mod_lt _ (by decide)
end Go.Proofs.YtaelaldmibgibaaGreatDoor
