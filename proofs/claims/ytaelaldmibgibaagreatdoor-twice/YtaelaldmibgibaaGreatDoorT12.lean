/- The document's reader over lists of bytes: what it takes, and that it takes it. What stands behind a path in a text: what the document's reader takes, and that it takes it. -/
import Derived.Test.YtaelaldmibgibaaGreatDoorRows
import Derived.WalkKit
import Derived.WalkSpells
import Derived.WalkLawsBesides
import Derived.Deep.AppendLies
import Derived.Deep.MidRow
import Derived.Deep.DrawnRows
import Derived.BigQuiet
import Derived.Deep.QuietTactic
import Derived.Lib.ItoaNum
import Derived.Lib.Strings
import Derived.Test.YtaelaldmibgibaaGreatDoorT03
import Derived.Test.YtaelaldmibgibaaGreatDoorT11
import Derived.Test.YtaelaldmibgibaaGreatDoorT04

set_option linter.unusedVariables false
set_option linter.unusedSimpArgs false
set_option linter.unusedSectionVars false

namespace Go.Proofs.YtaelaldmibgibaaGreatDoor
open Go.Lib
def ybo (s : ByteArray) (a : Nat) : Bs := s.data.toList.drop a
theorem ydh (k : Nat) : ∀ v, v < 10 ^ (k + 1) → (decDigits v).length ≤ k + 1 := by
 induction k with
 |zero => intro v h; rw [ysb (by simpa using h)]; simp
 |succ k ih =>
  intro v h
  by_cases hv : v < 10
  ·rw [ysb hv]; simp
  ·rw [dig_big hv, List.length_append]
   have := ih (v / 10) (by rw [Nat.pow_succ] at h; omega)
   simp only [List.length_singleton]
   omega
def hexd (k : Nat) : UInt8 := digs.data.getD k 0
def ylo (t : Bs) : Bs := (t.map (fun c => [hexd (c.toNat / 16), hexd (c.toNat % 16)])).flatten
theorem hexT_cons (c : UInt8) (t : Bs) : ylo (c :: t) = hexd (c.toNat / 16) :: hexd (c.toNat % 16) :: ylo t := rfl
theorem ylp (t : Bs) : (ylo t).length = 2 * t.length := by
 induction t with
 |nil => rfl
 |cons c t ih => rw [hexT_cons]; simp only [List.length_cons, ih]; omega
structure DS where
 known : List Nat
 there : Bool
 by_ : Nat
 num : Nat
 chg : List Nat
 text : Bs
def DS.tail (d : DS) : Bs := decDigits d.by_ ++ (58 :: (decDigits d.num ++ (32 :: (ycp d.chg ++ (32 :: 61 :: (ylo d.text ++ [10]))))))
def DS.T (d : DS) : Bs := 32 :: (ycp d.known ++ (32 :: (if d.there = true then d.tail else [45, 10])))
structure DS.ok (n : Nat) (d : DS) : Prop where
 kl : d.known.length = n
 kb : ∀ v ∈ d.known, v ≤ 1000000000
 yes : d.there = true → d.by_ < n ∧ d.num ≤ 1000000000 ∧ d.chg.length = n ∧ (∀ v ∈ d.chg, v ≤ 1000000000) ∧ d.text.length ≤ 60
 none : d.there = false → d.by_ = 0 ∧ d.num = 0 ∧ d.chg = List.replicate n 0 ∧ d.text = []
end Go.Proofs.YtaelaldmibgibaaGreatDoor
