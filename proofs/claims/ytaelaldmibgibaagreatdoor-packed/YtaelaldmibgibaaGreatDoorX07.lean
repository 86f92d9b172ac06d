/- The program's readers, without memory: numbers. -/
import Derived.Lib.AtoiAll
import Derived.Test.YtaelaldmibgibaaGreatDoorX06

set_option linter.all false

namespace Go.Proofs.K
open Go.Lib
theorem yjn : ∀ (l : Bs) (acc : Nat), (∀ c ∈ l, isD c = true) → valD acc l ≤ 1000000000 → (∀ k, k ≤ l.length → valD acc (l.take k) ≤ 1000000000) → parseUint10 acc l = .ok (valD acc l)
 |[], acc, _, _, _ => rfl
 |c :: r, acc, hd, hv, hk => by
  have hc : 48 ≤ c.toNat ∧ c.toNat ≤ 57 := by have := hd c (List.mem_cons_self ..); simpa [isD] using this
  have h0 := hk 0 (Nat.zero_le _)
  have h1 := hk 1 (by simp)
  simp [valD] at h0 h1
  rw [parseUint10, if_pos hc, if_neg (by omega), if_neg (by omega)]
  have e : acc * 10 + (c.toNat - 48) = 10 * acc + c.toNat - 48 := by omega
  rw [e]
  exact yjn r _ (fun x hx => hd x (List.mem_cons_of_mem _ hx)) hv (fun k hk' => by
   have := hk (k + 1) (by simp; omega)
   simpa [valD] using this)
theorem valD_mono (l : Bs) (hd : ∀ c ∈ l, isD c = true) : ∀ (acc k : Nat), k ≤ l.length → valD acc (l.take k) ≤ valD acc l := by
 induction l with
 |nil => intro acc k hk; simp
 |cons c r ih =>
  intro acc k hk
  have hc : 48 ≤ c.toNat ∧ c.toNat ≤ 57 := by have := hd c (List.mem_cons_self ..); simpa [isD] using this
  have ih' := ih (fun x hx => hd x (List.mem_cons_of_mem _ hx))
  cases k with
  |zero =>
   have := ih' (10 * acc + c.toNat - 48) 0 (Nat.zero_le _)
   simp [valD] at this ⊢
   omega
  |succ k =>
   have := ih' (10 * acc + c.toNat - 48) k (by simp at hk; omega)
   simpa [valD] using this
theorem atoi_dig (n : Nat) (h : n ≤ 1000000000) : atoiAll (decDigits n) = .ok (n : Int) := by
 have hd := ymp n
 have hv := dig_val n
 have hm : parseUint10 0 (decDigits n) = .ok n := by
  have := yjn (decDigits n) 0 hd (by rw [hv]; exact h) (fun k hk => by have := valD_mono _ hd 0 k hk; omega)
  rw [hv] at this
  exact this
 have hne := dig_ne n
 generalize decDigits n = l at *
 cases l with
 |nil => exact absurd rfl hne
 |cons c r =>
  have hc : 48 ≤ c.toNat ∧ c.toNat ≤ 57 := by have := hd c (List.mem_cons_self ..); simpa [isD] using this
  unfold atoiAll
  have h1 : ¬ (c.toNat = 43 ∨ c.toNat = 45) := by omega
  have h2 : ¬ c.toNat = 45 := by omega
  simp only [if_neg h1]
  have : parseMag (c :: r) = .ok n := by unfold parseMag; rw [if_neg (by simp)]; exact hm
  rw [this]
  simp only
  rw [if_neg (by omega), if_neg (by omega), if_neg h2]
end Go.Proofs.K
