/- Texts as lists of bytes: numbers in decimal digits. -/
import Derived.Lib.ItoaNum

set_option linter.unusedVariables false
set_option linter.unusedSimpArgs false

namespace Go.Proofs.YtaelaldmibgibaaGreatDoor
open Go.Lib

abbrev Bs := List UInt8
def isD (c : UInt8) : Bool := decide (48 ≤ c.toNat ∧ c.toNat ≤ 57)
/-- what digits say, behind a number -/
def valD (n : Nat) (ds : Bs) : Nat := ds.foldl (fun n c => 10 * n + c.toNat - 48) n
theorem valD_snoc (n : Nat) (ds : Bs) (c : UInt8) : valD n (ds ++ [c]) = 10 * valD n ds + c.toNat - 48 := by simp [valD, List.foldl_append]
theorem ofNat_toNat (c : UInt8) : UInt8.ofNat c.toNat = c := by simp
theorem toNat_ofNat48 (n : Nat) (h : n < 10) : (UInt8.ofNat (48 + n)).toNat = 48 + n := by rw [UInt8.toNat_ofNat']; omega

theorem dig_small {v : Nat} (h : v < 10) : decDigits v = [UInt8.ofNat (48 + v)] := by rw [decDigits, dif_pos h]
theorem dig_big {v : Nat} (h : ¬ v < 10) : decDigits v = decDigits (v / 10) ++ [UInt8.ofNat (48 + v % 10)] := by rw [decDigits, dif_neg h]
theorem dig_ne (v : Nat) : decDigits v ≠ [] := by
  by_cases h : v < 10
  · rw [dig_small h]; simp
  · rw [dig_big h]; simp
theorem dig_digits (v : Nat) : ∀ c ∈ decDigits v, isD c = true := by
  induction v using Nat.strongRecOn with
  | _ v ih =>
    intro c hc
    by_cases h : v < 10
    · rw [dig_small h] at hc
      simp only [List.mem_singleton] at hc
      subst hc
      unfold isD
      rw [toNat_ofNat48 v h]
      simp; omega
    · rw [dig_big h] at hc
      rcases List.mem_append.1 hc with hc | hc
      · exact ih (v / 10) (by omega) c hc
      · simp only [List.mem_singleton] at hc
        subst hc
        unfold isD
        rw [toNat_ofNat48 (v % 10) (by omega)]
        simp; omega
theorem dig_val (v : Nat) : valD 0 (decDigits v) = v := by
  induction v using Nat.strongRecOn with
  | _ v ih =>
    by_cases h : v < 10
    · rw [dig_small h]
      show 10 * 0 + (UInt8.ofNat (48 + v)).toNat - 48 = v
      rw [toNat_ofNat48 v h]; omega
    · rw [dig_big h, valD_snoc, ih (v / 10) (by omega), toNat_ofNat48 (v % 10) (by omega)]
      omega
theorem dig_inj {a b : Nat} (h : decDigits a = decDigits b) : a = b := by rw [← dig_val a, h, dig_val]
theorem head_append {α : Type} {a b : List α} (h : a ≠ []) : (a ++ b).head? = a.head? := by
  cases a with
  | nil => exact absurd rfl h
  | cons x a => rfl
/-- a nought ahead is the only digit -/
theorem dig_head (v : Nat) (h : (decDigits v).head? = some 48) : v = 0 := by
  induction v using Nat.strongRecOn with
  | _ v ih =>
    by_cases hv : v < 10
    · rw [dig_small hv] at h
      simp only [List.head?_cons, Option.some.injEq] at h
      have := congrArg UInt8.toNat h
      rw [toNat_ofNat48 v hv] at this
      have e : (48 : UInt8).toNat = 48 := rfl
      omega
    · rw [dig_big hv, head_append (dig_ne _)] at h
      have := ih (v / 10) (by omega) h
      omega
theorem dig_zero : decDigits 0 = [48] := by rw [dig_small (by omega)]; rfl
theorem dig_of_val (n : Nat) : ∀ ds : Bs, ds.length = n → (∀ c ∈ ds, isD c = true) → ds ≠ [] → (ds.head? = some 48 → ds.length = 1) → decDigits (valD 0 ds) = ds := by
  induction n with
  | zero => intro ds hn _ h0; exact absurd (List.length_eq_zero_iff.1 hn) h0
  | succ n ih =>
    intro ds hn hd h0 hz
    obtain ⟨ds', c, rfl⟩ : ∃ ds' c, ds = ds' ++ [c] := ⟨ds.dropLast, ds.getLast h0, (List.dropLast_concat_getLast h0).symm⟩
    have hc := hd c (by simp)
    unfold isD at hc
    simp only [decide_eq_true_eq] at hc
    by_cases he : ds' = []
    · subst he
      have e : valD 0 ([] ++ [c]) = c.toNat - 48 := by rw [valD_snoc]; simp [valD]
      rw [e, dig_small (by omega), show 48 + (c.toNat - 48) = c.toNat by omega, ofNat_toNat]
      rfl
    · have hl : ds'.length = n := by simpa using hn
      have hh : (ds' ++ [c]).head? = ds'.head? := head_append he
      have h48 : ds'.head? ≠ some 48 := fun q => by
        have := hz (by rw [hh]; exact q)
        have l1 : 0 < ds'.length := List.length_pos_iff.2 he
        simp at this
        exact absurd this he
      have I := ih ds' hl (fun x hx => hd x (List.mem_append_left _ hx)) he (fun q => absurd q h48)
      have hv : valD 0 ds' ≠ 0 := fun q => by
        rw [q, dig_zero] at I
        rw [← I] at h48
        exact h48 rfl
      rw [valD_snoc, dig_big (by omega), show (10 * valD 0 ds' + c.toNat - 48) / 10 = valD 0 ds' by omega, I, show 48 + (10 * valD 0 ds' + c.toNat - 48) % 10 = c.toNat by omega, ofNat_toNat]

/-- numbers with a sign between -/
def sepBy (sep : UInt8) : List Bs → Bs
  | [] => []
  | x :: l => x ++ (l.map (fun y => sep :: y)).flatten
theorem sepBy_snoc (sep : UInt8) (l : List Bs) (x : Bs) : sepBy sep (l ++ [x]) = if l = [] then x else sepBy sep l ++ sep :: x := by
  cases l with
  | nil => simp [sepBy]
  | cons y l => simp [sepBy]
theorem sepBy_cons2 (sep : UInt8) (x y : Bs) (l : List Bs) : sepBy sep (x :: y :: l) = x ++ sep :: sepBy sep (y :: l) := by simp [sepBy]
/-- a time in a text -/
def timeT (l : List Nat) : Bs := sepBy 44 (l.map decDigits)
theorem timeT_snoc (l : List Nat) (v : Nat) : timeT (l ++ [v]) = if l = [] then decDigits v else timeT l ++ 44 :: decDigits v := by
  unfold timeT
  rw [List.map_append, List.map_singleton, sepBy_snoc]
  cases l with
  | nil => rfl
  | cons x l => rfl

end Go.Proofs.YtaelaldmibgibaaGreatDoor
