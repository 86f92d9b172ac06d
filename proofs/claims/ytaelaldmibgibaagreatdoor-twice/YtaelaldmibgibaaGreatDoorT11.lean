/- Texts as lists of bytes: numbers in decimal digits. -/
import Derived.Lib.ItoaNum

set_option linter.unusedVariables false
set_option linter.unusedSimpArgs false
set_option linter.unusedSectionVars false

namespace Go.Proofs.YtaelaldmibgibaaGreatDoor
open Go.Lib
abbrev Bs := List UInt8
theorem ysb {v : Nat} (h : v < 10) : decDigits v = [UInt8.ofNat (48 + v)] := by rw [decDigits, dif_pos h]
theorem dig_big {v : Nat} (h : ¬ v < 10) : decDigits v = decDigits (v / 10) ++ [UInt8.ofNat (48 + v % 10)] := by rw [decDigits, dif_neg h]
def yft (sep : UInt8) : List Bs → Bs
 |[] => []
 |x :: l => x ++ (l.map (fun y => sep :: y)).flatten
theorem yjb (sep : UInt8) (x y : Bs) (l : List Bs) : yft sep (x :: y :: l) = x ++ sep :: yft sep (y :: l) := by simp [yft]
def ycp (l : List Nat) : Bs := yft 44 (l.map decDigits)
end Go.Proofs.YtaelaldmibgibaaGreatDoor
