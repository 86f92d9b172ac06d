/- The document's answer in memory: what single stores make of . -/
import Derived.Deep.DrawnRows
import Derived.BigQuiet
import Derived.Test.YtaelaldmibgibaaGreatDoorX03

set_option linter.all false

namespace Go.Proofs.K
open Go.RowKit
theorem ybn {w : World} {a : Addr} {u : Value} {k : Nat} (h : k ≠ a.block) : (w.setCell a u).heap[k]? = w.heap[k]? := Below.heap_setCell _ _ _ _ h
def digs : ByteArray := ⟨#[48, 49, 50, 51, 52, 53, 54, 55, 56, 57, 97, 98, 99, 100, 101, 102]⟩
def ycg (s : ByteArray) : Nat → Nat
 |0 => 0
 |k + 1 => (ycg s k + (k + 1) * (s.data.getD k 0).toNat) % 1000003
theorem yni (n : Int) (h : -9223372036854775808 ≤ n ∧ n ≤ 9223372036854775807) : wrap64 n = n := by unfold wrap64; omega
theorem yme (s : ByteArray) (k : Nat) : ycg s k < 1000003 := by
 cases k with
 |zero => show 0 < 1000003; decide
 |succ k => exact Nat.mod_lt _ (by decide)
end Go.Proofs.K
