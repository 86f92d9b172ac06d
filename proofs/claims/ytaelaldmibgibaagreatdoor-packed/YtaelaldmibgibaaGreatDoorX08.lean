/- The document's reader over lists of bytes: what it takes, an. -/
import Derived.Lib.Strings
import Derived.Test.YtaelaldmibgibaaGreatDoorX06
import Derived.Test.YtaelaldmibgibaaGreatDoorX04

set_option linter.all false

namespace Go.Proofs.K
open Go.Lib
def rest (s : ByteArray) (a : Nat) : Bs := s.data.toList.drop a
theorem yda (k : Nat) : ∀ v, v < 10 ^ (k + 1) → (decDigits v).length ≤ k + 1 := by
 induction k with
 |zero => intro v h; rw [yiy (by simpa using h)]; simp
 |succ k ih =>
  intro v h
  by_cases hv : v < 10
  ·rw [yiy hv]; simp
  ·rw [ytt hv, List.length_append]
   have := ih (v / 10) (by rw [Nat.pow_succ] at h; omega)
   simp only [List.length_singleton]
   omega
def yuc (k : Nat) : UInt8 := digs.data.getD k 0
def yir (t : Bs) : Bs := (t.map (fun c => [yuc (c.toNat / 16), yuc (c.toNat % 16)])).flatten
theorem yub : yir [] = [] := rfl
theorem yjd (c : UInt8) (t : Bs) : yir (c :: t) = yuc (c.toNat / 16) :: yuc (c.toNat % 16) :: yir t := rfl
theorem yhw (t : Bs) : (yir t).length = 2 * t.length := by
 induction t with
 |nil => rfl
 |cons c t ih => rw [yjd]; simp only [List.length_cons, ih]; omega
theorem hexd_ne : ∀ k : Fin 16, (yuc k.val).toNat ≠ 10 ∧ (yuc k.val).toNat ≠ 32 := by decide
structure SpR where
 st : Nat × Bool
 there : Bool
 text : Bs
 by_ : Nat
 num : Nat
 ch : List Int
 tm : List Int
structure DS where
 known : List Nat
 there : Bool
 by_ : Nat
 num : Nat
 chg : List Nat
 text : Bs
def DS.tail (d : DS) : Bs := decDigits d.by_ ++ (58 :: (decDigits d.num ++ (32 :: (yba d.chg ++ (32 :: 61 :: (yir d.text ++ [10]))))))
def DS.T (d : DS) : Bs := 32 :: (yba d.known ++ (32 :: (if d.there = true then d.tail else [45, 10])))
structure DS.ok (n : Nat) (d : DS) : Prop where
 kl : d.known.length = n
 kb : ∀ v ∈ d.known, v ≤ 1000000000
 yes : d.there = true → d.by_ < n ∧ d.num ≤ 1000000000 ∧ d.chg.length = n ∧ (∀ v ∈ d.chg, v ≤ 1000000000) ∧ d.text.length ≤ 60
 none : d.there = false → d.by_ = 0 ∧ d.num = 0 ∧ d.chg = List.replicate n 0 ∧ d.text = []
end Go.Proofs.K
