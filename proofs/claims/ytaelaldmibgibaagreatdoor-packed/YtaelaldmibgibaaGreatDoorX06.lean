/- Texts as lists of bytes: numbers in decimal digits. -/
import Derived.Lib.ItoaNum

set_option linter.all false

namespace Go.Proofs.K
open Go.Lib
variable {v : Nat}
abbrev Bs := List UInt8
def isD (c : UInt8) : Bool := decide (48 ≤ c.toNat ∧ c.toNat ≤ 57)
def valD (n : Nat) (ds : Bs) : Nat := ds.foldl (fun n c => 10 * n + c.toNat - 48) n
theorem valD_snoc (n : Nat) (ds : Bs) (c : UInt8) : valD n (ds ++ [c]) = 10 * valD n ds + c.toNat - 48 := by simp [valD, List.foldl_append]
theorem ypn (c : UInt8) : UInt8.ofNat c.toNat = c := by simp
theorem yfk (n : Nat) (h : n < 10) : (UInt8.ofNat (48 + n)).toNat = 48 + n := by rw [UInt8.toNat_ofNat']; omega
theorem yiy (h : v < 10) : decDigits v = [UInt8.ofNat (48 + v)] := by rw [decDigits, dif_pos h]
theorem ytt (h : ¬ v < 10) : decDigits v = decDigits (v / 10) ++ [UInt8.ofNat (48 + v % 10)] := by rw [decDigits, dif_neg h]
theorem dig_ne (v : Nat) : decDigits v ≠ [] := by
 by_cases h : v < 10
 ·rw [yiy h]; simp
 ·rw [ytt h]; simp
theorem ymp (v : Nat) : ∀ c ∈ decDigits v, isD c = true := by
 induction v using Nat.strongRecOn with
 |_ v ih =>
  intro c hc
  by_cases h : v < 10
  ·rw [yiy h] at hc
   simp only [List.mem_singleton] at hc
   subst hc
   unfold isD
   rw [yfk v h]
   simp; omega
  ·rw [ytt h] at hc
   rcases List.mem_append.1 hc with hc | hc
   ·exact ih (v / 10) (by omega) c hc
   ·simp only [List.mem_singleton] at hc
    subst hc
    unfold isD
    rw [yfk (v % 10) (by omega)]
    simp; omega
theorem dig_val (v : Nat) : valD 0 (decDigits v) = v := by
 induction v using Nat.strongRecOn with
 |_ v ih =>
  by_cases h : v < 10
  ·rw [yiy h]
   show 10 * 0 + (UInt8.ofNat (48 + v)).toNat - 48 = v
   rw [yfk v h]; omega
  ·rw [ytt h, valD_snoc, ih (v / 10) (by omega), yfk (v % 10) (by omega)]
   omega
def ybu (sep : UInt8) : List Bs → Bs
 |[] => []
 |x :: l => x ++ (l.map (fun y => sep :: y)).flatten
theorem ydl (sep : UInt8) (x y : Bs) (l : List Bs) : ybu sep (x :: y :: l) = x ++ sep :: ybu sep (y :: l) := by simp [ybu]
def yba (l : List Nat) : Bs := ybu 44 (l.map decDigits)
end Go.Proofs.K
