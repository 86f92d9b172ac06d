/- The document's reader over lists of bytes: what it takes, and that it takes it. What stands behind a path in a text: what the document's reader takes, and that it takes it. The document's answer in memory: what single stores make of a net. The document's answer: spent, fresh, equal, files. The document's answer: acts (the count of a replica goes up by 1, in all that it knows). -/
import Derived.Test.YtaelaldmibgibaaGreatDoorU04
import Derived.Test.YtaelaldmibgibaaGreatDoorU01
import Derived.Lib.Strings
import Derived.Test.YtaelaldmibgibaaGreatDoorU02
import Derived.Deep.RegionWith
import Derived.Deep.RegionHeld3
import Derived.Deep.DrawnRows
import Derived.BigQuiet
import Derived.Deep.QuietTactic

set_option linter.unusedVariables false
set_option linter.unusedSimpArgs false

namespace Go.Proofs.YtaelaldmibgibaaGreatDoor
open Go.Lib

/-- what is left to read -/
def rest (s : ByteArray) (a : Nat) : Bs := s.data.toList.drop a
theorem rest_at (s : ByteArray) (a : Nat) (h : a < s.size) : rest s a = s[a] :: rest s (a + 1) := by
  unfold rest
  exact List.drop_eq_getElem_cons (l := s.data.toList) (i := a) (by simpa using h)
theorem rest_end (s : ByteArray) (a : Nat) (h : ¬ a < s.size) : rest s a = [] := by
  unfold rest
  exact List.drop_eq_nil_iff.2 (by rw [Array.length_toList]; exact Nat.le_of_not_lt h)
theorem rest_lt {s : ByteArray} {a : Nat} (h : rest s a ≠ []) : a < s.size := by
  by_cases q : a < s.size
  · exact q
  · exact absurd (rest_end s a q) h
theorem rest_drop (s : ByteArray) (a k : Nat) : (rest s a).drop k = rest s (a + k) := by unfold rest; rw [List.drop_drop]
theorem rest_step {s : ByteArray} {a : Nat} {t R : Bs} (h : rest s a = t ++ R) : rest s (a + t.length) = R := by
  rw [← rest_drop, h, List.drop_left]
theorem rest_len (s : ByteArray) (a : Nat) : (rest s a).length = s.size - a := by
  unfold rest
  rw [List.length_drop, Array.length_toList]
  rfl
/-- a piece is read -/
def Got (s : ByteArray) (x : Nat × Bool) (t : Bs) (y : Nat × Bool) : Prop := x.2 = false ∧ y = (x.1 + t.length, false) ∧ rest s x.1 = t ++ rest s (x.1 + t.length)
theorem Got.trans {s : ByteArray} {x y z : Nat × Bool} {t u : Bs} (h : Got s x t y) (g : Got s y u z) : Got s x (t ++ u) z := by
  obtain ⟨h1, rfl, h3⟩ := h
  obtain ⟨_, rfl, g3⟩ := g
  refine ⟨h1, by simp [Nat.add_assoc], ?_⟩
  rw [h3, g3, List.append_assoc, List.length_append, Nat.add_assoc]
theorem Got.refl {s : ByteArray} {x : Nat × Bool} (h : x.2 = false) : Got s x [] x := ⟨h, by rw [← h]; rfl, rfl⟩
theorem Got.of {s : ByteArray} {x : Nat × Bool} {t R : Bs} (h : x.2 = false) (e : rest s x.1 = t ++ R) : Got s x t (x.1 + t.length, false) := ⟨h, rfl, by rw [rest_step e]; exact e⟩
theorem Got.next {s : ByteArray} {x y : Nat × Bool} {t R : Bs} (h : Got s x t y) (e : rest s x.1 = t ++ R) : y.2 = false ∧ rest s y.1 = R := by
  obtain ⟨_, rfl, _⟩ := h
  exact ⟨rfl, rest_step e⟩

theorem numRun_eq (s : ByteArray) (f : Nat) : ∀ m n, numRun s f m n = (m + (((rest s m).take f).takeWhile isD).length, valD n (((rest s m).take f).takeWhile isD)) := by
  induction f with
  | zero => intro m n; simp [numRun, valD]
  | succ f ih =>
    intro m n
    rw [numRun]
    by_cases h : m < s.size
    · rw [dif_pos h, rest_at s m h, List.take_succ_cons, List.takeWhile_cons]
      by_cases hd : 48 ≤ s[m].toNat ∧ s[m].toNat ≤ 57
      · rw [if_pos hd, ih, if_pos (by unfold isD; exact decide_eq_true hd)]
        simp only [List.length_cons, Prod.mk.injEq]
        exact ⟨by omega, rfl⟩
      · rw [if_neg hd, if_neg (by unfold isD; simp only [decide_eq_true_eq]; exact hd)]
        simp [valD]
    · rw [dif_neg h, rest_end s m h]
      simp [valD]
theorem takeWhile_all {α : Type} (p : α → Bool) (l : List α) : ∀ c ∈ l.takeWhile p, p c = true := by
  induction l with
  | nil => intro c h; simp at h
  | cons x l ih =>
    intro c h
    rw [List.takeWhile_cons] at h
    split at h
    · rename_i hx
      rcases List.mem_cons.1 h with rfl | h
      · exact hx
      · exact ih c h
    · simp at h
theorem num_got (s : ByteArray) (x : Nat × Bool) (h : (numS s x).2 = false) : Got s x (decDigits (numVal s x.1)) (numS s x) ∧ numVal s x.1 ≤ 1000000000 := by
  obtain ⟨a, no⟩ := x
  unfold numS at h ⊢
  simp only [Bool.or_eq_false_iff] at h
  obtain ⟨h1, h2⟩ := h
  simp only at h1 h2 ⊢
  have hv : numVal s a = (numRun s 11 a 0).2 := by unfold numVal; rw [if_neg (by rw [h2]; simp)]
  unfold numNo at h2
  have ha : numAt s a = (numRun s 11 a 0).1 := rfl
  have hr : rest s a = ((rest s a).take 11).takeWhile isD ++ rest s (a + (((rest s a).take 11).takeWhile isD).length) := by
    obtain ⟨u, hu⟩ := List.IsPrefix.trans (List.takeWhile_prefix isD (l := (rest s a).take 11)) (List.take_prefix 11 (rest s a))
    have := rest_step hu.symm
    rw [this, hu]
  rw [numRun_eq] at hv ha h2
  have hall := takeWhile_all isD ((rest s a).take 11)
  have hhd : (((rest s a).take 11).takeWhile isD).head? = some 48 → (s.data.getD a 0).toNat = 48 := fun q => by
    cases hq : rest s a with
    | nil => rw [hq] at q; simp at q
    | cons c r =>
      rw [hq, List.take_succ_cons, List.takeWhile_cons] at q
      have hlt : a < s.size := rest_lt (by rw [hq]; simp)
      rw [rest_at s a hlt] at hq
      have e : s.data.getD a 0 = s[a] := (Array.getElem_eq_getD (h := hlt) 0).symm
      split at q
      · simp only [List.head?_cons, Option.some.injEq] at q
        rw [e, (List.cons.inj hq).1, q]; rfl
      · simp at q
  generalize hds : ((rest s a).take 11).takeWhile isD = ds at *
  unfold numBad at h2
  simp only [Bool.or_eq_false_iff, Bool.and_eq_false_iff, beq_eq_false_iff_ne, decide_eq_false_iff_not] at h2
  obtain ⟨b1, b2, b3⟩ := h2
  have hne : ds ≠ [] := fun q => by subst q; exact b1 (by simp)
  have hdig : decDigits (valD 0 ds) = ds := by
    refine dig_of_val _ ds rfl hall hne fun q => ?_
    have l1 : 0 < ds.length := List.length_pos_iff.2 hne
    rcases b3 with b3 | b3
    · exact absurd (hhd q) b3
    · omega
  rw [hv]
  refine ⟨⟨h1, ?_, ?_⟩, by omega⟩
  · rw [ha, hdig]
    simp only [Prod.mk.injEq]
    refine ⟨trivial, ?_⟩
    unfold numNo numBad
    rw [numRun_eq, hds]
    simp only [Bool.or_eq_false_iff, Bool.and_eq_false_iff, beq_eq_false_iff_ne, decide_eq_false_iff_not]
    exact ⟨h1, b1, b2, b3⟩
  · rw [hdig]; exact hr
theorem dig_len (k : Nat) : ∀ v, v < 10 ^ (k + 1) → (decDigits v).length ≤ k + 1 := by
  induction k with
  | zero => intro v h; rw [dig_small (by simpa using h)]; simp
  | succ k ih =>
    intro v h
    by_cases hv : v < 10
    · rw [dig_small hv]; simp
    · rw [dig_big hv, List.length_append]
      have := ih (v / 10) (by rw [Nat.pow_succ] at h; omega)
      simp only [List.length_singleton]
      omega
def noDig (R : Bs) : Prop := ∀ c, R.head? = some c → isD c = false
theorem num_of (s : ByteArray) (x : Nat × Bool) (v : Nat) (R : Bs) (h : x.2 = false) (e : rest s x.1 = decDigits v ++ R) (hv : v ≤ 1000000000) (hR : noDig R) : numVal s x.1 = v ∧ numS s x = (x.1 + (decDigits v).length, false) := by
  obtain ⟨a, no⟩ := x
  simp only at h e ⊢
  subst h
  have hl : (decDigits v).length ≤ 10 := dig_len 9 v (by omega)
  have hl1 : 0 < (decDigits v).length := List.length_pos_iff.2 (dig_ne v)
  have ht : ((rest s a).take 11).takeWhile isD = decDigits v := by
    rw [e, List.take_append, List.take_of_length_le (by omega), List.takeWhile_append_of_pos (dig_digits v)]
    have : (R.take (11 - (decDigits v).length)).takeWhile isD = [] := by
      cases R with
      | nil => simp
      | cons c R =>
        rw [show 11 - (decDigits v).length = (10 - (decDigits v).length) + 1 by omega, List.take_succ_cons, List.takeWhile_cons, if_neg (by rw [hR c rfl]; simp)]
    rw [this, List.append_nil]
  have hb : numNo s a = false := by
    unfold numNo numBad
    rw [numRun_eq, ht, dig_val]
    simp only [Bool.or_eq_false_iff, Bool.and_eq_false_iff, beq_eq_false_iff_ne, decide_eq_false_iff_not]
    refine ⟨by omega, by omega, ?_⟩
    by_cases q : (decDigits v).length = 1
    · exact .inr (by omega)
    · left
      intro q2
      have hlt : a < s.size := rest_lt (by rw [e]; intro q3; exact dig_ne v (List.append_eq_nil_iff.1 q3).1)
      have e2 : s.data.getD a 0 = s[a] := (Array.getElem_eq_getD (h := hlt) 0).symm
      have hh : (decDigits v).head? = some 48 := by
        rw [← head_append (b := R) (dig_ne v), ← e, rest_at s a hlt]
        rw [e2] at q2
        simp only [List.head?_cons, Option.some.injEq]
        exact UInt8.toNat_inj.1 q2
      have := dig_head v hh
      subst this
      rw [dig_zero] at q
      exact q rfl
  unfold numS numVal
  simp only [hb, Bool.or_false]
  unfold numAt
  rw [numRun_eq, ht, dig_val]
  simp

theorem hasAt_iff (s : ByteArray) (a : Nat) (no : Bool) (p : ByteArray) (ha : a ≤ s.size) : hasAt s a no p = true ↔ no = false ∧ ∃ R, rest s a = p.data.toList ++ R := by
  have hp : p.toList = p.data.toList := by obtain ⟨⟨l⟩⟩ := p; simp
  have hz : p.data.toList.length = p.size := by rw [Array.length_toList]; rfl
  have hl := rest_len s a
  unfold hasAt
  rw [extract_toList, hp]
  simp only [Bool.and_eq_true, Bool.not_eq_true', decide_eq_true_eq, beq_iff_eq]
  rw [show a + p.size - a = p.size by omega]
  constructor
  · rintro ⟨rfl, h1, h2⟩
    refine ⟨rfl, (rest s a).drop p.size, ?_⟩
    rw [← h2]
    exact (List.take_append_drop p.size (rest s a)).symm
  · rintro ⟨rfl, R, h⟩
    refine ⟨rfl, ?_, ?_⟩
    · rw [h, List.length_append, hz] at hl
      by_cases q : p.size = 0
      · omega
      · omega
    · show (rest s a).take p.size = _
      rw [h, ← hz, List.take_left]
theorem want_got (s p : ByteArray) (x : Nat × Bool) (ha : x.1 ≤ s.size) (h : (wantS s p x).2 = false) : Got s x p.data.toList (wantS s p x) := by
  unfold wantS at h ⊢
  simp only [Bool.not_eq_false'] at h
  obtain ⟨h1, R, h2⟩ := (hasAt_iff s x.1 x.2 p ha).1 h
  have hz : p.data.toList.length = p.size := by rw [Array.length_toList]; rfl
  have := Got.of (s := s) h1 h2
  unfold passed
  rw [if_pos h, h, ← hz]
  exact this
theorem want_of (s p : ByteArray) (x : Nat × Bool) (R : Bs) (ha : x.1 ≤ s.size) (h : x.2 = false) (e : rest s x.1 = p.data.toList ++ R) : wantS s p x = (x.1 + p.data.toList.length, false) := by
  have q := (hasAt_iff s x.1 x.2 p ha).2 ⟨h, R, e⟩
  have hz : p.data.toList.length = p.size := by rw [Array.length_toList]; rfl
  unfold wantS passed
  rw [if_pos q, q, hz]; rfl
theorem Got.le {s : ByteArray} {x y : Nat × Bool} {t : Bs} (h : Got s x t y) (ha : x.1 ≤ s.size) : y.1 ≤ s.size := by
  obtain ⟨_, rfl, h3⟩ := h
  have h1 := rest_len s x.1
  have h2 := rest_len s (x.1 + t.length)
  rw [h3, List.length_append, h2] at h1
  show x.1 + t.length ≤ s.size
  omega

/-- the numbers of a time, as the reader has them -/
def ints (l : List Nat) : List Int := l.map (fun (v : Nat) => (v : Int))
theorem want_no (s p : ByteArray) (x : Nat × Bool) (h : (wantS s p x).2 = false) : x.2 = false := by
  unfold wantS hasAt at h
  simp only [Bool.not_eq_false', Bool.and_eq_true, Bool.not_eq_true'] at h
  exact h.1
theorem num_no (s : ByteArray) (x : Nat × Bool) (h : (numS s x).2 = false) : x.2 = false := by
  unfold numS at h
  simp only [Bool.or_eq_false_iff] at h
  exact h.1
theorem timeStep_no (s : ByteArray) (i : Nat) (x : Nat × Bool) (h : (timeStep s i x).2 = false) : x.2 = false := by
  unfold timeStep at h
  split at h
  · exact h
  · exact want_no _ _ _ h
theorem time_no (s : ByteArray) (n : Nat) (x : Nat × Bool) (h : (timeS s n x).1.2 = false) : x.2 = false := by
  induction n with
  | zero => exact h
  | succ n ih => exact ih (timeStep_no _ _ _ (num_no _ _ h))
theorem time_got (s : ByteArray) (n : Nat) (x : Nat × Bool) (ha : x.1 ≤ s.size) (h : (timeS s n x).1.2 = false) :
    ∃ l : List Nat, l.length = n ∧ (timeS s n x).2 = ints l ∧ (∀ v ∈ l, v ≤ 1000000000) ∧ Got s x (timeT l) (timeS s n x).1 := by
  induction n with
  | zero => exact ⟨[], rfl, rfl, by simp, Got.refl h⟩
  | succ n ih =>
    have h1 := num_no _ _ h
    have h2 := timeStep_no _ _ _ h1
    obtain ⟨l, hl, hv, hb, hg⟩ := ih h2
    obtain ⟨g1, g2⟩ := num_got s (timeStep s n (timeS s n x).1) h
    refine ⟨l ++ [numVal s (timeStep s n (timeS s n x).1).1], by simp [hl], by simp [timeS, hv, ints], ?_, ?_⟩
    · intro v hv
      rcases List.mem_append.1 hv with q | q
      · exact hb v q
      · simp only [List.mem_singleton] at q
        subst q
        exact g2
    · rw [timeT_snoc]
      show Got s x _ (numS s (timeStep s n (timeS s n x).1))
      by_cases hn : n = 0
      · have e : timeStep s n (timeS s n x).1 = (timeS s n x).1 := by unfold timeStep; rw [if_pos hn]
        have el : l = [] := List.length_eq_zero_iff.1 (hl.trans hn)
        rw [if_pos el]
        rw [e] at g1 ⊢
        rw [el] at hg
        exact hg.trans g1
      · have e : timeStep s n (timeS s n x).1 = wantS s comma (timeS s n x).1 := by unfold timeStep; rw [if_neg hn]
        have el : l ≠ [] := fun q => hn (by rw [← hl, q]; rfl)
        rw [if_neg el]
        rw [e] at h1 g1 ⊢
        have := (hg.trans (want_got s comma _ (hg.le ha) h1)).trans g1
        rw [List.append_assoc] at this
        exact this
theorem time_of (s : ByteArray) (l : List Nat) : ∀ (x : Nat × Bool) (R : Bs), x.1 ≤ s.size → x.2 = false → (∀ v ∈ l, v ≤ 1000000000) → rest s x.1 = timeT l ++ R → noDig R → timeS s l.length x = ((x.1 + (timeT l).length, false), ints l) := by
  have key : ∀ n, ∀ l : List Nat, l.length = n → ∀ (x : Nat × Bool) (R : Bs), x.1 ≤ s.size → x.2 = false → (∀ v ∈ l, v ≤ 1000000000) → rest s x.1 = timeT l ++ R → noDig R → timeS s n x = ((x.1 + (timeT l).length, false), ints l) := by
    intro n
    induction n with
    | zero =>
      intro l hl x R ha hx _ _ _
      have := List.length_eq_zero_iff.1 hl
      subst this
      obtain ⟨a, no⟩ := x
      simp only at hx
      subst hx
      rfl
    | succ n ih =>
      intro l hl x R ha hx hb e hR
      have h0 : l ≠ [] := fun q => by rw [q] at hl; simp at hl
      obtain ⟨l', v, rfl⟩ : ∃ l' v, l = l' ++ [v] := ⟨l.dropLast, l.getLast h0, (List.dropLast_concat_getLast h0).symm⟩
      have hl' : l'.length = n := by simpa using hl
      have hb' : ∀ u ∈ l', u ≤ 1000000000 := fun u hu => hb u (List.mem_append_left _ hu)
      have hbv : v ≤ 1000000000 := hb v (by simp)
      rw [timeT_snoc] at e ⊢
      by_cases hn : n = 0
      · have el : l' = [] := List.length_eq_zero_iff.1 (hl'.trans hn)
        subst el
        rw [if_pos rfl] at e ⊢
        subst hn
        obtain ⟨q1, q2⟩ := num_of s x v R hx e hbv hR
        show (numS s x, [] ++ [(numVal s x.1 : Int)]) = _
        rw [q1, q2]
        rfl
      · have el : l' ≠ [] := fun q => hn (by rw [← hl', q]; rfl)
        rw [if_neg el] at e ⊢
        have I := ih l' hl' x (44 :: (decDigits v ++ R)) ha hx hb' (by rw [e]; simp) (fun c hc => by simp only [List.head?_cons, Option.some.injEq] at hc; subst hc; rfl)
        have e1 : rest s (x.1 + (timeT l').length) = comma.data.toList ++ (decDigits v ++ R) := rest_step (by rw [e]; simp [comma])
        have ha1 : x.1 + (timeT l').length ≤ s.size := by
          have := Got.le (Got.of (s := s) (t := timeT l') hx (by rw [e, List.append_assoc])) ha
          exact this
        have W := want_of s comma (x.1 + (timeT l').length, false) (decDigits v ++ R) ha1 rfl e1
        have e2 := rest_step e1
        obtain ⟨q1, q2⟩ := num_of s (x.1 + (timeT l').length + comma.data.toList.length, false) v R rfl e2 hbv hR
        show (numS s (timeStep s n (timeS s n x).1), (timeS s n x).2 ++ [(numVal s (timeStep s n (timeS s n x).1).1 : Int)]) = _
        rw [I]
        unfold timeStep
        rw [if_neg hn]
        dsimp only
        rw [W, q1, q2]
        simp [ints, comma, Nat.add_assoc, Nat.add_comm, Nat.add_left_comm]
  intro x R
  exact key l.length l rfl x R

end Go.Proofs.YtaelaldmibgibaaGreatDoor

namespace Go.Proofs.YtaelaldmibgibaaGreatDoor
open Go.Lib

def hexd (k : Nat) : UInt8 := digs.data.getD k 0
def hexT (t : Bs) : Bs := (t.map (fun c => [hexd (c.toNat / 16), hexd (c.toNat % 16)])).flatten
theorem hexT_nil : hexT [] = [] := rfl
theorem hexT_cons (c : UInt8) (t : Bs) : hexT (c :: t) = hexd (c.toNat / 16) :: hexd (c.toNat % 16) :: hexT t := rfl
theorem hexT_len (t : Bs) : (hexT t).length = 2 * t.length := by
  induction t with
  | nil => rfl
  | cons c t ih => rw [hexT_cons]; simp only [List.length_cons, ih]; omega
theorem valOf_hexd : ∀ k : Fin 16, valOf ((hexd k.val).toNat : Int) = (k.val : Int) := by decide
theorem hexd_ne : ∀ k : Fin 16, (hexd k.val).toNat ≠ 10 ∧ (hexd k.val).toNat ≠ 32 := by decide
theorem valFrom_spec (b : Int) (m : Nat) : ∀ k, k + m = 16 → 0 ≤ valFrom m k b → ∃ j : Nat, valFrom m k b = j ∧ j < 16 ∧ ((hexd j).toNat : Int) = b := by
  induction m with
  | zero => intro k _ h; simp [valFrom] at h
  | succ m ih =>
    intro k hk h
    rw [valFrom] at h ⊢
    by_cases e : ((digs.data.getD k 0).toNat : Int) = b
    · rw [if_pos e]
      exact ⟨k, rfl, by omega, e⟩
    · rw [if_neg e] at h ⊢
      exact ih (k + 1) (by omega) h
theorem valOf_spec (b : Int) (h : 0 ≤ valOf b) : ∃ j : Nat, valOf b = j ∧ j < 16 ∧ ((hexd j).toNat : Int) = b := valFrom_spec b 16 0 rfl h

def byteAt (s : ByteArray) (a : Nat) : Int := ((s.data.getD a 0).toNat : Int)
/-- the bytes of a text, read by two digits each -/
def hexS (s : ByteArray) : Nat → Nat → Bs → (Nat × Bool) × Bs
  | 0, a, t => ((a, false), t)
  | f + 1, a, t => if a + 1 < s.size ∧ byteAt s a ≠ 10 then
      (if valOf (byteAt s a) < 0 ∨ valOf (byteAt s (a + 1)) < 0 ∨ 60 ≤ t.length then ((a, true), t)
       else hexS s f (a + 2) (t ++ [UInt8.ofNat (16 * (valOf (byteAt s a)).toNat + (valOf (byteAt s (a + 1))).toNat)]))
    else ((a, false), t)
theorem byteAt_eq (s : ByteArray) (a : Nat) (h : a < s.size) : byteAt s a = (s[a].toNat : Int) := by
  unfold byteAt
  rw [show s.data.getD a 0 = s[a] from (Array.getElem_eq_getD (h := h) 0).symm]
theorem rest_two (s : ByteArray) (a : Nat) (h : a + 1 < s.size) : rest s a = s[a] :: s[a + 1] :: rest s (a + 2) := by
  rw [rest_at s a (by omega), rest_at s (a + 1) h]
theorem hex_got (s : ByteArray) (f : Nat) : ∀ a t, t.length ≤ 60 → (hexS s f a t).1.2 = false → ∃ u, (hexS s f a t).2 = t ++ u ∧ (t ++ u).length ≤ 60 ∧ Got s (a, false) (hexT u) (hexS s f a t).1 := by
  induction f with
  | zero => intro a t ht _; exact ⟨[], by simp [hexS], by simpa using ht, Got.refl rfl⟩
  | succ f ih =>
    intro a t ht h
    rw [hexS] at h ⊢
    by_cases h1 : a + 1 < s.size ∧ byteAt s a ≠ 10
    · rw [if_pos h1] at h ⊢
      by_cases h2 : valOf (byteAt s a) < 0 ∨ valOf (byteAt s (a + 1)) < 0 ∨ 60 ≤ t.length
      · rw [if_pos h2] at h
        cases h
      · rw [if_neg h2] at h ⊢
        obtain ⟨x, e1, l1, b1⟩ := valOf_spec (byteAt s a) (by omega)
        obtain ⟨y, e2, l2, b2⟩ := valOf_spec (byteAt s (a + 1)) (by omega)
        rw [e1, e2] at h ⊢
        simp only [Int.toNat_natCast] at h ⊢
        have hl : (t ++ [UInt8.ofNat (16 * x + y)]).length ≤ 60 := by simp; omega
        obtain ⟨u, q1, q2, q3⟩ := ih (a + 2) _ hl h
        refine ⟨UInt8.ofNat (16 * x + y) :: u, by rw [q1]; simp, by simpa using q2, ?_⟩
        have hn : (UInt8.ofNat (16 * x + y)).toNat = 16 * x + y := by rw [UInt8.toNat_ofNat']; omega
        rw [hexT_cons, hn, show (16 * x + y) / 16 = x by omega, show (16 * x + y) % 16 = y by omega]
        rw [byteAt_eq s a (by omega)] at b1
        rw [byteAt_eq s (a + 1) h1.1] at b2
        have c1 : hexd x = s[a] := UInt8.toNat_inj.1 (by omega)
        have c2 : hexd y = s[a + 1] := UInt8.toNat_inj.1 (by omega)
        have g : Got s (a, false) [hexd x, hexd y] (a + 2, false) := ⟨rfl, rfl, by rw [c1, c2]; exact rest_two s a h1.1⟩
        exact g.trans q3
    · rw [if_neg h1]
      exact ⟨[], by simp, by simpa using ht, Got.refl rfl⟩
theorem hex_of (s : ByteArray) (u : Bs) : ∀ f a t R, s.size - a ≤ f → (t ++ u).length ≤ 60 → rest s a = hexT u ++ 10 :: R → hexS s f a t = ((a + (hexT u).length, false), t ++ u) := by
  induction u with
  | nil =>
    intro f a t R hf ht e
    cases f with
    | zero => simp [hexS, hexT]
    | succ f =>
      rw [hexS, if_neg]
      · simp [hexT]
      · rintro ⟨h1, h2⟩
        rw [hexT_nil, List.nil_append, rest_at s a (by omega)] at e
        rw [byteAt_eq s a (by omega), (List.cons.inj e).1] at h2
        exact h2 rfl
  | cons c u ih =>
    intro f a t R hf ht e
    rw [hexT_cons] at e
    have hl := rest_len s a
    rw [e] at hl
    simp only [List.length_cons, List.length_append, List.cons_append] at hl
    have h1 : a + 1 < s.size := by omega
    cases f with
    | zero => omega
    | succ f =>
      rw [rest_two s a h1] at e
      simp only [List.cons_append, List.cons.injEq] at e
      obtain ⟨e1, e2, e3⟩ := e
      have hc : c.toNat < 256 := c.toNat_lt
      have n1 := hexd_ne ⟨c.toNat / 16, by omega⟩
      have v1 := valOf_hexd ⟨c.toNat / 16, by omega⟩
      have v2 := valOf_hexd ⟨c.toNat % 16, by omega⟩
      simp only at n1 v1 v2
      have d1 : valOf (byteAt s a) = ((c.toNat / 16 : Nat) : Int) := by rw [byteAt_eq s a (by omega), e1, v1]
      have d2 : valOf (byteAt s (a + 1)) = ((c.toNat % 16 : Nat) : Int) := by rw [byteAt_eq s (a + 1) h1, e2, v2]
      have d3 : byteAt s a ≠ 10 := by rw [byteAt_eq s a (by omega), e1]; have := n1.1; omega
      have ht1 : t.length < 60 := by simp at ht; omega
      rw [hexS, if_pos ⟨h1, d3⟩, d1, d2, if_neg (by omega)]
      simp only [Int.toNat_natCast]
      rw [show 16 * (c.toNat / 16) + c.toNat % 16 = c.toNat by omega, ofNat_toNat, ih f (a + 2) (t ++ [c]) R (by omega) (by simpa using ht) e3, hexT_cons]
      simp only [List.length_cons, List.append_assoc, List.singleton_append, Prod.mk.injEq, and_true]
      omega

def blank : ByteArray := ⟨#[32]⟩
def dashNl : ByteArray := ⟨#[45, 10]⟩
def colon : ByteArray := ⟨#[58]⟩
def blankEq : ByteArray := ⟨#[32, 61]⟩
def newl : ByteArray := ⟨#[10]⟩
/-- what is read behind a path -/
structure SpR where
  st : Nat × Bool
  there : Bool
  text : Bs
  by_ : Nat
  num : Nat
  ch : List Int
  tm : List Int
def spotHex (s : ByteArray) (x : Nat × Bool) : (Nat × Bool) × Bs := if x.2 = true then (x, []) else hexS s (s.size - x.1) x.1 []
/-- it is there: from its birth on -/
def spotB (s : ByteArray) (n : Nat) (tm : List Int) (y : Nat × Bool) : SpR :=
  ⟨wantS s newl (spotHex s (wantS s blankEq (timeS s n (wantS s blank (numS s (wantS s colon ((numS s y).1, (numS s y).2 || decide (n ≤ numVal s y.1))))) ).1)).1,
   true,
   (spotHex s (wantS s blankEq (timeS s n (wantS s blank (numS s (wantS s colon ((numS s y).1, (numS s y).2 || decide (n ≤ numVal s y.1))))) ).1)).2,
   numVal s y.1,
   numVal s (wantS s colon ((numS s y).1, (numS s y).2 || decide (n ≤ numVal s y.1))).1,
   (timeS s n (wantS s blank (numS s (wantS s colon ((numS s y).1, (numS s y).2 || decide (n ≤ numVal s y.1)))))).2,
   tm⟩
def spotS (s : ByteArray) (n : Nat) (x : Nat × Bool) : SpR :=
  if hasAt s (wantS s blank (timeS s n (wantS s blank x)).1).1 (wantS s blank (timeS s n (wantS s blank x)).1).2 dashNl = true then ⟨((wantS s blank (timeS s n (wantS s blank x)).1).1 + 2, false), false, [], 0, 0, List.replicate n 0, (timeS s n (wantS s blank x)).2⟩
  else if (wantS s blank (timeS s n (wantS s blank x)).1).2 = true then ⟨wantS s blank (timeS s n (wantS s blank x)).1, false, [], 0, 0, List.replicate n 0, (timeS s n (wantS s blank x)).2⟩
  else spotB s n (timeS s n (wantS s blank x)).2 (wantS s blank (timeS s n (wantS s blank x)).1)

/-- a record without its path -/
structure DS where
  known : List Nat
  there : Bool
  by_ : Nat
  num : Nat
  chg : List Nat
  text : Bs
def DS.tail (d : DS) : Bs := decDigits d.by_ ++ (58 :: (decDigits d.num ++ (32 :: (timeT d.chg ++ (32 :: 61 :: (hexT d.text ++ [10]))))))
def DS.T (d : DS) : Bs := 32 :: (timeT d.known ++ (32 :: (if d.there = true then d.tail else [45, 10])))
structure DS.ok (n : Nat) (d : DS) : Prop where
  kl : d.known.length = n
  kb : ∀ v ∈ d.known, v ≤ 1000000000
  yes : d.there = true → d.by_ < n ∧ d.num ≤ 1000000000 ∧ d.chg.length = n ∧ (∀ v ∈ d.chg, v ≤ 1000000000) ∧ d.text.length ≤ 60
  none : d.there = false → d.by_ = 0 ∧ d.num = 0 ∧ d.chg = List.replicate n 0 ∧ d.text = []
/-- what was read is this record -/
def SpR.is (r : SpR) (d : DS) : Prop := r.there = d.there ∧ r.text = d.text ∧ r.by_ = d.by_ ∧ r.num = d.num ∧ r.ch = ints d.chg ∧ r.tm = ints d.known
theorem ints_zero (n : Nat) : ints (List.replicate n 0) = List.replicate n 0 := by simp [ints]
theorem noDig_cons (c : UInt8) (R : Bs) (h : isD c = false) : noDig (c :: R) := fun x hx => by
  simp only [List.head?_cons, Option.some.injEq] at hx
  subst hx
  exact h

theorem Got.pair {s : ByteArray} {x y : Nat × Bool} {t : Bs} (h : x.2 = false) (g : Got s (x.1, false) t y) : Got s x t y := ⟨h, g.2.1, g.2.2⟩

theorem spotB_got (s : ByteArray) (n : Nat) (l : List Nat) (hl : l.length = n) (hb : ∀ v ∈ l, v ≤ 1000000000) (y : Nat × Bool) (hy : y.1 ≤ s.size) (h : (spotB s n (ints l) y).st.2 = false) :
    ∃ d : DS, d.ok n ∧ d.there = true ∧ d.known = l ∧ (spotB s n (ints l) y).is d ∧ Got s y d.tail (spotB s n (ints l) y).st := by
  unfold spotB at h ⊢
  simp only at h ⊢
  have a1 := want_no _ _ _ h
  generalize hyc : ((numS s y).1, (numS s y).2 || decide (n ≤ numVal s y.1)) = yc at *
  have hx2 : (wantS s blankEq (timeS s n (wantS s blank (numS s (wantS s colon yc)))).1).2 = false := by
    unfold spotHex at a1
    split at a1
    · rename_i q
      rw [q] at a1
      cases a1
    · rename_i q
      simpa using q
  have a3 := want_no _ _ _ hx2
  have a4 := time_no _ _ _ a3
  have a5 := want_no _ _ _ a4
  have a6 := num_no _ _ a5
  have a7 := want_no _ _ _ a6
  have a8 : (numS s y).2 = false ∧ numVal s y.1 < n := by
    rw [← hyc] at a7
    simp only [Bool.or_eq_false_iff, decide_eq_false_iff_not] at a7
    exact ⟨a7.1, by omega⟩
  obtain ⟨g1, v1⟩ := num_got s y a8.1
  have eyc : yc = numS s y := by
    rw [← hyc]
    refine Prod.ext rfl ?_
    simp only [decide_eq_false (Nat.not_le.2 a8.2), Bool.or_false]
  clear hyc
  subst eyc
  have g2 := want_got s colon _ (g1.le hy) a6
  have g12 := g1.trans g2
  obtain ⟨g3, v3⟩ := num_got s _ a5
  have g13 := g12.trans g3
  have g4 := want_got s blank _ (g13.le hy) a4
  have g14 := g13.trans g4
  obtain ⟨lc, c1, c2, c3, g5⟩ := time_got s n _ (g14.le hy) a3
  have g15 := g14.trans g5
  have g6 := want_got s blankEq _ (g15.le hy) hx2
  have g16 := g15.trans g6
  have esp : spotHex s (wantS s blankEq (timeS s n (wantS s blank (numS s (wantS s colon (numS s y))))).1) = hexS s (s.size - (wantS s blankEq (timeS s n (wantS s blank (numS s (wantS s colon (numS s y))))).1).1) (wantS s blankEq (timeS s n (wantS s blank (numS s (wantS s colon (numS s y))))).1).1 [] := by
    unfold spotHex
    rw [if_neg (by rw [hx2]; simp)]
  rw [esp] at h a1 ⊢
  obtain ⟨u, u1, u2, g7⟩ := hex_got s _ _ [] (by simp) a1
  have g7' := Got.pair hx2 g7
  have g17 := g16.trans g7'
  have g8 := want_got s newl _ (g17.le hy) h
  have g18 := g17.trans g8
  refine ⟨⟨l, true, numVal s y.1, numVal s (wantS s colon (numS s y)).1, lc, u⟩, ⟨hl, hb, fun _ => ⟨a8.2, v3, c1, c3, by simpa using u2⟩, fun q => by cases q⟩, rfl, rfl, ⟨rfl, by rw [u1]; rfl, rfl, rfl, c2, rfl⟩, ?_⟩
  have et : DS.tail ⟨l, true, numVal s y.1, numVal s (wantS s colon (numS s y)).1, lc, u⟩ = decDigits (numVal s y.1) ++ colon.data.toList ++ decDigits (numVal s (wantS s colon (numS s y)).1) ++ blank.data.toList ++ timeT lc ++ blankEq.data.toList ++ hexT u ++ newl.data.toList := by
    simp [DS.tail, colon, blank, blankEq, newl]
  rw [et]
  exact g18
theorem spot_got (s : ByteArray) (n : Nat) (x : Nat × Bool) (hx : x.1 ≤ s.size) (h : (spotS s n x).st.2 = false) :
    ∃ d : DS, d.ok n ∧ (spotS s n x).is d ∧ Got s x d.T (spotS s n x).st := by
  have step : (wantS s blank (timeS s n (wantS s blank x)).1).2 = false → ∃ l : List Nat, l.length = n ∧ (timeS s n (wantS s blank x)).2 = ints l ∧ (∀ v ∈ l, v ≤ 1000000000) ∧ Got s x (32 :: (timeT l ++ [32])) (wantS s blank (timeS s n (wantS s blank x)).1) := fun q => by
    have a1 := want_no _ _ _ q
    have a2 := time_no _ _ _ a1
    have g1 := want_got s blank x hx a2
    obtain ⟨l, c1, c2, c3, g2⟩ := time_got s n _ (g1.le hx) a1
    have g12 := g1.trans g2
    have g3 := want_got s blank _ (g12.le hx) q
    refine ⟨l, c1, c2, c3, ?_⟩
    have := g12.trans g3
    have e : blank.data.toList ++ timeT l ++ blank.data.toList = 32 :: (timeT l ++ [32]) := by simp [blank]
    rw [e] at this
    exact this
  unfold spotS at h ⊢
  split
  · rename_i q
    rw [if_pos q] at h
    have hb : (wantS s blank (timeS s n (wantS s blank x)).1).2 = false := by
      unfold hasAt at q
      simp only [Bool.and_eq_true, Bool.not_eq_true'] at q
      exact q.1
    obtain ⟨l, c1, c2, c3, g⟩ := step hb
    obtain ⟨_, R, e⟩ := (hasAt_iff s _ _ dashNl (g.le hx)).1 q
    have g2 := Got.of (s := s) hb e
    refine ⟨⟨l, false, 0, 0, List.replicate n 0, []⟩, ⟨c1, c3, (fun q => by cases q), fun _ => ⟨rfl, rfl, rfl, rfl⟩⟩, ⟨rfl, rfl, rfl, rfl, (ints_zero n).symm, c2⟩, ?_⟩
    have := g.trans g2
    have et : DS.T ⟨l, false, 0, 0, List.replicate n 0, []⟩ = 32 :: (timeT l ++ [32]) ++ dashNl.data.toList := by simp [DS.T, dashNl]
    rw [et]
    exact this
  · rename_i q
    rw [if_neg q] at h
    split
    · rename_i q2
      rw [if_pos q2] at h
      simp only at h
      rw [h] at q2
      cases q2
    · rename_i q2
      rw [if_neg q2] at h
      have hb : (wantS s blank (timeS s n (wantS s blank x)).1).2 = false := by simpa using q2
      obtain ⟨l, c1, c2, c3, g⟩ := step hb
      rw [c2] at h ⊢
      obtain ⟨d, d1, d2, d3, d4, d5⟩ := spotB_got s n l c1 c3 _ (g.le hx) h
      refine ⟨d, d1, d4, ?_⟩
      have := g.trans d5
      have et : d.T = 32 :: (timeT l ++ [32]) ++ d.tail := by unfold DS.T; rw [if_pos d2, d3]; simp
      rw [et]
      exact this

theorem Got.at {s : ByteArray} {x y : Nat × Bool} {t : Bs} (h : Got s x t y) : y = (x.1 + t.length, false) := h.2.1
/-- a sign is read, and what is left -/
theorem want_on {s : ByteArray} {x : Nat × Bool} {R : Bs} (p : ByteArray) (ha : x.1 ≤ s.size) (h : x.2 = false) (e : rest s x.1 = p.data.toList ++ R) : Got s x p.data.toList (wantS s p x) ∧ (wantS s p x).2 = false ∧ rest s (wantS s p x).1 = R := by
  have g := want_got s p x ha (by rw [want_of s p x R ha h e])
  have := g.next e
  exact ⟨g, this.1, this.2⟩
theorem num_on {s : ByteArray} {x : Nat × Bool} {v : Nat} {R : Bs} (h : x.2 = false) (e : rest s x.1 = decDigits v ++ R) (hv : v ≤ 1000000000) (hR : noDig R) : numVal s x.1 = v ∧ Got s x (decDigits v) (numS s x) ∧ (numS s x).2 = false ∧ rest s (numS s x).1 = R := by
  obtain ⟨q1, q2⟩ := num_of s x v R h e hv hR
  have g := (num_got s x (by rw [q2])).1
  rw [q1] at g
  have := g.next e
  exact ⟨q1, g, this.1, this.2⟩
theorem time_on {s : ByteArray} {x : Nat × Bool} {l : List Nat} {R : Bs} {n : Nat} (hl : l.length = n) (ha : x.1 ≤ s.size) (h : x.2 = false) (hb : ∀ v ∈ l, v ≤ 1000000000) (e : rest s x.1 = timeT l ++ R) (hR : noDig R) : (timeS s n x).2 = ints l ∧ Got s x (timeT l) (timeS s n x).1 ∧ (timeS s n x).1.2 = false ∧ rest s (timeS s n x).1.1 = R := by
  have q := time_of s l x R ha h hb e hR
  rw [hl] at q
  have g := Got.of (s := s) h e
  rw [q]
  exact ⟨rfl, g, rfl, rest_step e⟩
theorem hex_on {s : ByteArray} {x : Nat × Bool} {u R : Bs} (h : x.2 = false) (hu : u.length ≤ 60) (e : rest s x.1 = hexT u ++ 10 :: R) : (spotHex s x).2 = u ∧ Got s x (hexT u) (spotHex s x).1 ∧ (spotHex s x).1.2 = false ∧ rest s (spotHex s x).1.1 = 10 :: R := by
  have q := hex_of s u (s.size - x.1) x.1 [] R (Nat.le_refl _) (by simpa using hu) e
  have g := Got.of (s := s) h e
  unfold spotHex
  rw [if_neg (by rw [h]; simp), q]
  exact ⟨rfl, g, rfl, rest_step e⟩
theorem spotB_of (s : ByteArray) (n : Nat) (hn : n ≤ 6) (d : DS) (hd : d.ok n) (ht : d.there = true) (y : Nat × Bool) (R : Bs) (hy : y.1 ≤ s.size) (h : y.2 = false) (e : rest s y.1 = d.tail ++ R) :
    (spotB s n (ints d.known) y).is d ∧ Got s y d.tail (spotB s n (ints d.known) y).st := by
  obtain ⟨d1, d2, d3, d4, d5⟩ := hd.yes ht
  have e0 : rest s y.1 = decDigits d.by_ ++ (58 :: (decDigits d.num ++ (32 :: (timeT d.chg ++ (32 :: 61 :: (hexT d.text ++ (10 :: R))))))) := by rw [e]; simp [DS.tail]
  obtain ⟨p1, g1, a1, r1⟩ := num_on h e0 (by omega) (noDig_cons 58 _ rfl)
  have eyc : ((numS s y).1, (numS s y).2 || decide (n ≤ numVal s y.1)) = numS s y := Prod.ext rfl (by simp only [p1, decide_eq_false (Nat.not_le.2 d1), Bool.or_false])
  obtain ⟨g2, a2, r2⟩ := want_on colon (g1.le hy) a1 r1
  have g12 := g1.trans g2
  obtain ⟨p3, g3, a3, r3⟩ := num_on a2 r2 d2 (noDig_cons 32 _ rfl)
  have g13 := g12.trans g3
  obtain ⟨g4, a4, r4⟩ := want_on blank (g13.le hy) a3 r3
  have g14 := g13.trans g4
  obtain ⟨p5, g5, a5, r5⟩ := time_on d3 (g14.le hy) a4 d4 r4 (noDig_cons 32 _ rfl)
  have g15 := g14.trans g5
  obtain ⟨g6, a6, r6⟩ := want_on (R := hexT d.text ++ (10 :: R)) blankEq (g15.le hy) a5 r5
  have g16 := g15.trans g6
  obtain ⟨p7, g7, a7, r7⟩ := hex_on a6 d5 r6
  have g17 := g16.trans g7
  obtain ⟨g8, a8, r8⟩ := want_on newl (g17.le hy) a7 r7
  have g18 := g17.trans g8
  unfold spotB
  rw [eyc]
  refine ⟨⟨ht.symm, p7, p1, p3, p5, rfl⟩, ?_⟩
  have et : d.tail = decDigits d.by_ ++ colon.data.toList ++ decDigits d.num ++ blank.data.toList ++ timeT d.chg ++ blankEq.data.toList ++ hexT d.text ++ newl.data.toList := by simp [DS.tail, colon, blank, blankEq, newl]
  rw [et]
  exact g18
theorem spot_of (s : ByteArray) (n : Nat) (hn : n ≤ 6) (d : DS) (hd : d.ok n) (x : Nat × Bool) (R : Bs) (hx : x.1 ≤ s.size) (h : x.2 = false) (e : rest s x.1 = d.T ++ R) :
    (spotS s n x).is d ∧ Got s x d.T (spotS s n x).st := by
  have e0 : rest s x.1 = 32 :: (timeT d.known ++ (32 :: ((if d.there = true then d.tail else [45, 10]) ++ R))) := by rw [e]; simp [DS.T]
  obtain ⟨g1, a1, r1⟩ := want_on blank hx h e0
  obtain ⟨p2, g2, a2, r2⟩ := time_on hd.kl (g1.le hx) a1 hd.kb r1 (noDig_cons 32 _ rfl)
  have g12 := g1.trans g2
  obtain ⟨g3, a3, r3⟩ := want_on blank (g12.le hx) a2 r2
  have g13 := g12.trans g3
  have hle := g13.le hx
  unfold spotS
  generalize wantS s blank (timeS s n (wantS s blank x)).1 = y at *
  cases ht : d.there with
  | false =>
    rw [ht] at r3
    have q := (hasAt_iff s y.1 y.2 dashNl hle).2 ⟨a3, R, by rw [r3]; rfl⟩
    rw [if_pos q]
    have g4 := Got.of (s := s) (t := [45, 10]) a3 r3
    obtain ⟨z1, z2, z3, z4⟩ := hd.none ht
    refine ⟨⟨ht.symm, z4.symm, z1.symm, z2.symm, by rw [z3, ints_zero], p2⟩, ?_⟩
    have et : d.T = blank.data.toList ++ timeT d.known ++ blank.data.toList ++ [45, 10] := by simp [DS.T, ht, blank]
    rw [et]
    exact g13.trans g4
  | true =>
    rw [ht, if_pos rfl] at r3
    have q : hasAt s y.1 y.2 dashNl = false := by
      by_cases q : hasAt s y.1 y.2 dashNl = true
      · obtain ⟨_, R', e'⟩ := (hasAt_iff s y.1 y.2 dashNl hle).1 q
        rw [r3] at e'
        have hh : (d.tail ++ R).head? = (decDigits d.by_).head? := by
          unfold DS.tail
          rw [List.append_assoc]
          exact head_append (dig_ne _)
        rw [show d.tail ++ R = dashNl.data.toList ++ R' from e'] at hh
        have h45 : (decDigits d.by_).head? = some 45 := hh.symm
        have := dig_digits d.by_ 45 (List.mem_of_mem_head? h45)
        cases this
      · simpa using q
    rw [if_neg (by rw [q]; simp), if_neg (by rw [a3]; simp), p2]
    obtain ⟨b1, b2⟩ := spotB_of s n hn d hd ht y R hle a3 r3
    refine ⟨b1, ?_⟩
    have et : d.T = blank.data.toList ++ timeT d.known ++ blank.data.toList ++ d.tail := by simp [DS.T, ht, blank]
    rw [et]
    exact g13.trans b2

end Go.Proofs.YtaelaldmibgibaaGreatDoor

namespace Go.Proofs.YtaelaldmibgibaaGreatDoor
open Go.RowKit

theorem intRow_set {w : World} {g n cap : Nat} {l : List Int} (h : intRow w (.slice (some ⟨g, 0, none⟩) n cap) l) (j : Nat) (x : Int) :
    intRow (w.setCell ⟨g, j, none⟩ (.int .i64 x)) (.slice (some ⟨g, 0, none⟩) n cap) (l.set j x) := by
  have hn : n = l.length := by
    rcases h.2 with ⟨h1, _⟩ | ⟨g', cap', cur, h1, _⟩
    · cases h1
    · simp at h1; exact h1.2.1
  subst hn
  have h' := (World.ownsRow.stored h j (.int .i64 x)).1
  rw [ivs_set] at h'
  unfold intRow
  rw [List.length_set]
  exact h'

theorem intRow_form {w : World} {v : Value} {l : List Int} (h : intRow w v l) (k : Nat) (hk : v.ownBlock = some k) : ∃ cap, v = .slice (some ⟨k, 0, none⟩) l.length cap := by
  rcases h.2 with ⟨h1, _⟩ | ⟨g', cap', cur, h1, _⟩
  · rw [h1] at hk; cases hk
  · rw [h1] at hk
    simp [Value.ownBlock] at hk
    subst hk
    exact ⟨cap', h1⟩

theorem heap_set_other {w : World} {a : Addr} {u : Value} {k : Nat} (h : k ≠ a.block) : (w.setCell a u).heap[k]? = w.heap[k]? := Below.heap_setCell _ _ _ _ h
theorem size_setCell (w : World) (a : Addr) (u : Value) : (w.setCell a u).heap.size = w.heap.size := by simp [World.setCell]

/-- a store into a block that a value does not own leaves what it owns -/
theorem ownsRow_far {w : World} {base : Nat} {e : TypeId} {size : Nat} {v : Value} {n : Nat} {xs : List Value} {a : Addr} {u : Value} {ρ : Nat → Nat × Nat} {x y : Nat × Nat}
    (h : w.ownsRow base e size v n xs) (hr : role ρ v x) (ha : ρ a.block = y) (hne : x ≠ y) : (w.setCell a u).ownsRow base e size v n xs :=
  ownsRow_keep h (fun k hk => heap_set_other (fun e => hne (by rw [← hr k hk, ← ha, e])))
theorem SpOk.far {w : World} {ρ : Nat → Nat × Nat} {n r : Nat} {s : SP} {a : Addr} {u : Value} {y : Nat × Nat} (h : SpOk w ρ n r s) (ha : ρ a.block = y) (h6 : y ≠ (6, 0)) (h7 : y ≠ (7, r)) : SpOk (w.setCell a u) ρ n r s :=
  ⟨ownsRow_far h.ch h.chr ha (Ne.symm h6), h.chl, h.chr, ownsRow_far h.tm h.tmr ha (Ne.symm h7), h.tml, h.tmr⟩

theorem map_fst_set {α β : Type} (l : List (α × β)) (r : Nat) (v : α) (x y : β) (h : l[r]? = some (v, x)) : (l.set r (v, y)).map (·.1) = l.map (·.1) := by
  apply List.ext_getElem?
  intro i
  by_cases e : i = r
  · subst e
    have hi : i < l.length := (List.getElem?_eq_some_iff.1 h).1
    simp [hi]
    have := (List.getElem?_eq_some_iff.1 h).2
    rw [this]
  · simp [List.getElem?_set_ne (Ne.symm e)]

theorem RefRep.setCom {w : World} {b : Nat} {ρ : Nat → Nat × Nat} {S : RS} (h : RefRep w b ρ S) (r : Nat) (v : Value) (l : List Int) (hx : S.coms[r]? = some (v, l)) (g : Nat) (hg : v.ownBlock = some g) (j : Nat) (x : Int) :
    RefRep (w.setCell ⟨g, j, none⟩ (.int .i64 x)) b ρ { S with coms := S.coms.set r (v, l.set j x) } := by
  have hρ : ρ g = (4, r) := (h.com r _ hx).2.2 g hg
  have hr : r < S.coms.length := (List.getElem?_eq_some_iff.1 hx).1
  refine { net := ?_, n1 := h.n1, n6 := h.n6, p := ownsRow_far h.p h.rp hρ (by simp), c := ?_, s := ownsRow_far h.s h.rs hρ (by simp), com := ?_, row := ?_, sp := ?_, rb := h.rb, rp := h.rp, rc := h.rc, rs := h.rs, lt := ?_ }
  · rw [heap_set_other (by simp only; intro e; rw [← e, h.rb] at hρ; simp at hρ)]; exact h.net
  · have := ownsRow_far (a := ⟨g, j, none⟩) (u := .int .i64 x) h.c h.rc hρ (by simp)
    rw [map_fst_set _ _ _ _ _ hx]; exact this
  · intro r' y hy
    by_cases e : r' = r
    · subst e
      simp [hr] at hy
      subst hy
      obtain ⟨cap, ev⟩ := intRow_form (h.com r' _ hx).1 g hg
      simp only at ev
      subst ev
      exact ⟨intRow_set (h.com r' _ hx).1 j x, by simpa using (h.com r' _ hx).2.1, (h.com r' _ hx).2.2⟩
    · rw [List.getElem?_set_ne (Ne.symm e)] at hy
      have q := h.com r' y hy
      exact ⟨ownsRow_far q.1 q.2.2 hρ (by simp [e]), q.2⟩
  · intro r' y hy
    exact ⟨ownsRow_far (h.row r' y hy).1 (h.row r' y hy).2 hρ (by simp), (h.row r' y hy).2⟩
  · intro r' y hy s hs
    exact (h.sp r' y hy s hs).far hρ (by simp) (by simp)
  · intro k hk
    rw [size_setCell]; exact h.lt k hk

/-- one number of a list that is what is known: of every spot of this replica whose list this is -/
def setTm (g r : Nat) (x : Int) (s : SP) : SP := if s.tmv.ownBlock = some g then { s with tm := s.tm.set r x } else s

theorem setTm_cells (g r : Nat) (x : Int) (s : SP) : (setTm g r x s).cells = s.cells := by unfold setTm; split <;> rfl
theorem spv_map_setTm (g r : Nat) (x : Int) (l : List SP) : spv (l.map (setTm g r x)) = spv l := by
  induction l with
  | nil => rfl
  | cons s l ih => simp [spv, ih, setTm_cells]

theorem RefRep.setTime {w : World} {b : Nat} {ρ : Nat → Nat × Nat} {S : RS} (h : RefRep w b ρ S) (r : Nat) (v : Value) (l : List SP) (hx : S.rows[r]? = some (v, l)) (g : Nat) (hρ : ρ g = (7, r)) (j : Nat) (x : Int) :
    RefRep (w.setCell ⟨g, j, none⟩ (.int .i64 x)) b ρ { S with rows := S.rows.set r (v, l.map (setTm g j x)) } := by
  have hr : r < S.rows.length := (List.getElem?_eq_some_iff.1 hx).1
  refine { net := ?_, n1 := h.n1, n6 := h.n6, p := ownsRow_far h.p h.rp hρ (by simp), c := ownsRow_far h.c h.rc hρ (by simp), s := ?_, com := ?_, row := ?_, sp := ?_, rb := h.rb, rp := h.rp, rc := h.rc, rs := h.rs, lt := ?_ }
  · rw [heap_set_other (by simp only; intro e; rw [← e, h.rb] at hρ; simp at hρ)]; exact h.net
  · have := ownsRow_far (a := ⟨g, j, none⟩) (u := .int .i64 x) h.s h.rs hρ (by simp)
    rw [map_fst_set _ _ _ _ _ hx]; exact this
  · intro r' y hy
    have q := h.com r' y hy
    exact ⟨ownsRow_far q.1 q.2.2 hρ (by simp), q.2⟩
  · intro r' y hy
    by_cases e : r' = r
    · subst e
      simp [hr] at hy
      subst hy
      have q := h.row r' _ hx
      refine ⟨?_, q.2⟩
      simp only [List.length_map, spv_map_setTm]
      exact ownsRow_far q.1 q.2 hρ (by simp)
    · rw [List.getElem?_set_ne (Ne.symm e)] at hy
      exact ⟨ownsRow_far (h.row r' y hy).1 (h.row r' y hy).2 hρ (by simp), (h.row r' y hy).2⟩
  · intro r' y hy s hs
    by_cases e : r' = r
    · subst e
      simp [hr] at hy
      subst hy
      simp only [List.mem_map] at hs
      obtain ⟨t, ht, rfl⟩ := hs
      have q := h.sp r' _ hx t ht
      unfold setTm
      by_cases hg : t.tmv.ownBlock = some g
      · rw [if_pos hg]
        obtain ⟨cap, ev⟩ := intRow_form q.tm g hg
        refine ⟨ownsRow_far q.ch q.chr hρ (by simp), q.chl, q.chr, ?_, by simpa using q.tml, q.tmr⟩
        simp only
        have q' := q.tm
        rw [ev] at q' ⊢
        exact intRow_set q' j x
      · rw [if_neg hg]
        refine ⟨ownsRow_far q.ch q.chr hρ (by simp), q.chl, q.chr, ownsRow_keep q.tm (fun k hk => heap_set_other ?_), q.tml, q.tmr⟩
        simp only
        rintro rfl
        exact hg hk
    · rw [List.getElem?_set_ne (Ne.symm e)] at hy
      exact (h.sp r' y hy s hs).far hρ (by simp) (by simp [Ne.symm e])
  · intro k hk
    rw [size_setCell]; exact h.lt k hk

theorem spv_set (l : List SP) (i : Nat) (s s' : SP) (j : Nat) (u : Value) (h : l[i]? = some s) (hj : j < 6) (hc : s'.cells = s.cells.set j u) : spv (l.set i s') = (spv l).set (i * 6 + j) u := by
  induction l generalizing i with
  | nil => simp at h
  | cons y l ih =>
    have hy : y.cells.length = 6 := rfl
    cases i with
    | zero =>
      simp at h; subst h
      simp only [List.set_cons_zero, spv, Nat.zero_mul, Nat.zero_add]
      rw [List.set_append_left _ _ (by omega), hc]
    | succ i =>
      simp at h
      simp only [List.set_cons_succ, spv]
      rw [List.set_append_right _ _ (by omega), ih i h]
      congr 2
      omega

/-- one cell of a spot -/
theorem RefRep.setSpot {w : World} {b : Nat} {ρ : Nat → Nat × Nat} {S : RS} (h : RefRep w b ρ S) (r : Nat) (g cap : Nat) (l : List SP) (hx : S.rows[r]? = some (.slice (some ⟨g, 0, none⟩) l.length cap, l)) (i : Nat) (s s' : SP) (hs : l[i]? = some s) (j : Nat) (u : Value) (hj : j < 6)
    (hc : s'.cells = s.cells.set j u) (hok : SpOk w ρ S.n r s') :
    RefRep (w.setCell ⟨g, i * 6 + j, none⟩ u) b ρ { S with rows := S.rows.set r (.slice (some ⟨g, 0, none⟩) l.length cap, l.set i s') } := by
  have hr : r < S.rows.length := (List.getElem?_eq_some_iff.1 hx).1
  have hρ : ρ g = (5, r) := (h.row r _ hx).2 g rfl
  refine { net := ?_, n1 := h.n1, n6 := h.n6, p := ownsRow_far h.p h.rp hρ (by simp), c := ownsRow_far h.c h.rc hρ (by simp), s := ?_, com := ?_, row := ?_, sp := ?_, rb := h.rb, rp := h.rp, rc := h.rc, rs := h.rs, lt := ?_ }
  · rw [heap_set_other (by simp only; intro e; rw [← e, h.rb] at hρ; simp at hρ)]; exact h.net
  · have := ownsRow_far (a := ⟨g, i * 6 + j, none⟩) (u := u) h.s h.rs hρ (by simp)
    rw [map_fst_set _ _ _ _ _ hx]; exact this
  · intro r' y hy
    have q := h.com r' y hy
    exact ⟨ownsRow_far q.1 q.2.2 hρ (by simp), q.2⟩
  · intro r' y hy
    by_cases e : r' = r
    · subst e
      simp [hr] at hy
      subst hy
      have q := h.row r' _ hx
      refine ⟨?_, q.2⟩
      simp only [List.length_set]
      rw [spv_set l i s s' j u hs hj hc]
      exact (World.ownsRow.stored q.1 (i * 6 + j) u).1
    · rw [List.getElem?_set_ne (Ne.symm e)] at hy
      exact ⟨ownsRow_far (h.row r' y hy).1 (h.row r' y hy).2 hρ (by simp [e]), (h.row r' y hy).2⟩
  · intro r' y hy t ht
    by_cases e : r' = r
    · subst e
      simp [hr] at hy
      subst hy
      simp only at ht
      rcases List.mem_or_eq_of_mem_set ht with ht | rfl
      · exact (h.sp r' _ hx t ht).far hρ (by simp) (by simp)
      · exact hok.far hρ (by simp) (by simp)
    · rw [List.getElem?_set_ne (Ne.symm e)] at hy
      exact (h.sp r' y hy t ht).far hρ (by simp) (by simp)
  · intro k hk
    rw [size_setCell]; exact h.lt k hk

/-- a new block takes a part -/
def upd (ρ : Nat → Nat × Nat) (k : Nat) (x : Nat × Nat) : Nat → Nat × Nat := fun q => if q = k then x else ρ q
theorem role_upd {ρ : Nat → Nat × Nat} {k : Nat} {x y : Nat × Nat} {v : Value} (h : role ρ v y) (hk : (ρ k).1 = 0) (hy : y.1 ≠ 0) : role (upd ρ k x) v y := by
  intro q hq
  have := h q hq
  unfold upd
  rw [if_neg (by rintro rfl; rw [this] at hk; exact hy hk)]
  exact this
theorem SpOk.upd {w : World} {ρ : Nat → Nat × Nat} {n r : Nat} {s : SP} (h : SpOk w ρ n r s) {k : Nat} {x : Nat × Nat} (hk : (ρ k).1 = 0) : SpOk w (upd ρ k x) n r s :=
  ⟨h.ch, h.chl, role_upd h.chr hk (by simp), h.tm, h.tml, role_upd h.tmr hk (by simp)⟩
theorem RefRep.upd {w : World} {b : Nat} {ρ : Nat → Nat × Nat} {S : RS} (h : RefRep w b ρ S) {k : Nat} (x : Nat × Nat) (hk : (ρ k).1 = 0) (hl : k < w.heap.size) : RefRep w b (upd ρ k x) S where
  net := h.net
  n1 := h.n1
  n6 := h.n6
  p := h.p
  c := h.c
  s := h.s
  com := fun r y hy => ⟨(h.com r y hy).1, (h.com r y hy).2.1, role_upd (h.com r y hy).2.2 hk (by simp)⟩
  row := fun r y hy => ⟨(h.row r y hy).1, role_upd (h.row r y hy).2 hk (by simp)⟩
  sp := fun r y hy s hs => (h.sp r y hy s hs).upd hk
  rb := by unfold Go.Proofs.YtaelaldmibgibaaGreatDoor.upd; rw [if_neg (by rintro rfl; rw [h.rb] at hk; simp at hk)]; exact h.rb
  rp := role_upd h.rp hk (by simp)
  rc := role_upd h.rc hk (by simp)
  rs := role_upd h.rs hk (by simp)
  lt := fun q hq => by
    unfold Go.Proofs.YtaelaldmibgibaaGreatDoor.upd at hq
    by_cases e : q = k
    · omega
    · rw [if_neg e] at hq; exact h.lt q hq

/-- what has a part has had one, or is new -/
def Grow (w : World) (ρ ρ' : Nat → Nat × Nat) : Prop := ∀ k, (ρ' k).1 ≠ 0 → (ρ k).1 ≠ 0 ∨ w.heap.size ≤ k
theorem Grow.refl (w : World) (ρ : Nat → Nat × Nat) : Grow w ρ ρ := fun _ h => .inl h
theorem Grow.trans {w w' : World} {ρ ρ' ρ'' : Nat → Nat × Nat} (h : Grow w ρ ρ') (hs : w.heap.size ≤ w'.heap.size) (h' : Grow w' ρ' ρ'') : Grow w ρ ρ'' := fun k hk => by
  rcases h' k hk with q | q
  · exact h k q
  · exact .inr (by omega)
theorem Grow.upd {w : World} {ρ ρ' : Nat → Nat × Nat} (h : Grow w ρ ρ') {k : Nat} (hk : w.heap.size ≤ k) (x : Nat × Nat) : Grow w ρ (upd ρ' k x) := fun q hq => by
  unfold Go.Proofs.YtaelaldmibgibaaGreatDoor.upd at hq
  by_cases e : q = k
  · exact .inr (by omega)
  · rw [if_neg e] at hq; exact h q hq
theorem RefRep.free {w : World} {b : Nat} {ρ : Nat → Nat × Nat} {S : RS} (h : RefRep w b ρ S) {k : Nat} (hk : w.heap.size ≤ k) : (ρ k).1 = 0 := by
  by_cases e : (ρ k).1 = 0
  · exact e
  · have := h.lt k e; omega

end Go.Proofs.YtaelaldmibgibaaGreatDoor

namespace Go.Proofs.YtaelaldmibgibaaGreatDoor
open Go.RowKit
attribute [local go_sem ↓] Go.wp_at_zero Go.wp_at_succ
/-- a store of a whole spot, kept from the walk's own way of storing -/
def stM (t : TypeId) (p v : Value) : Sem Unit := Instr.storeAt t p v
theorem stSpot (p v : Value) : Instr.storeAt 117 p v = stM 117 p v := rfl
theorem run_stSpot (w : World) (b : Nat) (x0 : Bool) (x1 : ByteArray) (x2 x3 : Int) (a4 a5 : Option Addr) (n4 c4 n5 c5 : Nat) (ht : w.there b 0 6) :
    (stM 117 (.pointer (some ⟨b, 0, none⟩)) (.agg #[.bool x0, .string x1, .int .i64 x2, .int .i64 x3, .slice a4 n4 c4, .slice a5 n5 c5])).run Tryz.prog w =
      .ok () (w.setCells b 0 [.bool x0, .string x1, .int .i64 x2, .int .i64 x3, .slice a4 n4 c4, .slice a5 n5 c5]) :=
  run_storeAt_mid w b 0 _ #[.bool x0, .string x1, .int .i64 x2, .int .i64 x3, .slice a4 n4 c4, .slice a5 n5 c5] ht size_Spot (by simp [Value.oneCell'])
attribute [local go_sem ↓] stSpot
attribute [local go_sem] run_stSpot

theorem bcell {W w1 : World} (hb : Below W.heap.size W w1) : (∀ b o, b < W.heap.size → w1.cell? ⟨b, o, none⟩ = W.cell? ⟨b, o, none⟩) ∧ (∀ b o, b < W.heap.size → w1.frozen? ⟨b, o, none⟩ = W.frozen? ⟨b, o, none⟩) :=
  ⟨fun b o h => hb.cell (p := ⟨b, o, none⟩) h, fun b o h => hb.frozen (p := ⟨b, o, none⟩) h⟩

/-- the count of a replica -/
def RS.count (S : RS) (r : Nat) : Int := ((S.coms[r]?.getD (.slice none 0 0, [])).2).getD r 0

set_option maxHeartbeats 400000 in
theorem spent_any (b r : Nat) (ρ : Nat → Nat × Nat) (S : RS) (w : World) (h : RefRep w b ρ S) (hr : r < S.n) :
    Calls Tryz.prog 151 #[.pointer (some ⟨b, 0, none⟩), .int .i64 r] w fun e w' => e = .returned (.bool (decide (1000000000 ≤ S.count r))) ∧ w' = w := by
  obtain ⟨cg, cc, g, cap, l, ec, hc, hx, hl, _, hg, _, _, hcell, _⟩ := h.common r hr
  have h2 := h.c2
  rw [ec] at h2
  have h6 := h.n6
  have hq := hcell r hr
  have hcount : S.count r = l.getD r 0 := by unfold RS.count; rw [hx]; rfl
  rw [hcount]
  clear hcount hcell hx h
  generalize l.getD r 0 = q at *
  generalize S.n = n at *
  clear ec hl
  go_enter Tryz.func151, Tryz.ntmps151
  go_wp2
  go_ret
  exact ⟨rfl, rfl⟩

set_option maxRecDepth 100000 in
set_option maxHeartbeats 300000 in
theorem fresh_any (b r : Nat) (ρ : Nat → Nat × Nat) (S : RS) (w : World) (h : RefRep w b ρ S) (hr : r < S.n) :
    Calls Tryz.prog 102 #[.pointer (some ⟨b, 0, none⟩), .int .i64 r] w fun e w' => ∃ chv tmv l x, S.coms[r]? = some (x, l) ∧
      e = .returned (.agg #[.bool false, .string .empty, .int .i64 0, .int .i64 0, chv, tmv]) ∧ w'.ownsRow w.heap.size 3 1 chv S.n (ivs (List.replicate S.n 0)) ∧
      w'.ownsRow w.heap.size 3 1 tmv l.length (ivs l) ∧ (∀ k, chv.ownBlock = some k → tmv.ownBlock ≠ some k) ∧ Below w.heap.size w w' := by
  obtain ⟨cg, cc, g, cap, l, ec, hc, hx, hl, _, hg, hcg, _, hcell, _⟩ := h.common r hr
  have h2 := h.c2
  rw [ec] at h2
  have h0 := h.c0
  have h6 := h.n6
  have h1 := h.n1
  have hrow : intRow w (.slice (some ⟨g, 0, none⟩) S.n cap) l := (h.com r _ hx).1
  have hb : b < w.heap.size := h.lt b (by rw [h.rb]; decide)
  have keepS : ∀ w', Mine w w.heap.size 6 w' → (Mine w w.heap.size 6 w' ∧ w'.cell? ⟨b, 0, none⟩ = some (.int .i64 S.n) ∧ w'.cell? ⟨b, 2, none⟩ = some (.slice (some ⟨cg, 0, none⟩) S.n cc) ∧ w'.cell? ⟨cg, r, none⟩ = some (.slice (some ⟨g, 0, none⟩) S.n cap) ∧ w'.there w.heap.size 0 6) := fun w' hm => by
    have hb' := hm.below
    exact ⟨hm, (hb'.cell (p := ⟨b, 0, none⟩) hb).trans h0, (hb'.cell (p := ⟨b, 2, none⟩) hb).trans h2, (hb'.cell (p := ⟨cg, r, none⟩) hcg).trans hc, hm.there⟩
  have HK := hide keepS
  have keepR : ∀ w', Mine w w.heap.size 6 w' → intRow w' (.slice (some ⟨g, 0, none⟩) S.n cap) l := fun w' hb' => ownsRow_keep hrow (fun k e => hb'.below.block k (by simp [Value.ownBlock] at e; omega))
  have HR := hide keepR
  have HX := hide hx
  clear keepS keepR hrow hx hcell
  generalize S.n = n at *
  clear h
  have hsz := size_Spot
  go_enter Tryz.func102, Tryz.ntmps102
  go_wp2
  have start := unhide HK _ (Mine.made' w #[.bool false, .string ⟨#[]⟩, .int .i64 0, .int .i64 0, .slice none 0 0, .slice none 0 0] 117 (n := 6) rfl).drew
  go_region_held3 (fun w' => Mine w w.heap.size 6 w' ∧ w'.cell? ⟨b, 0, none⟩ = some (.int .i64 n) ∧ w'.cell? ⟨b, 2, none⟩ = some (.slice (some ⟨cg, 0, none⟩) n cc) ∧ w'.cell? ⟨cg, r, none⟩ = some (.slice (some ⟨g, 0, none⟩) n cap) ∧ w'.there w.heap.size 0 6)
    (first | (refine unhide HK _ ?_; first | with_reducible exact Mine.setCells (by assumption) _ _ | with_reducible exact Mine.set6 (by assumption) _ _ _ _ _ _ | with_reducible exact Mine.call (by assumption) hb2 | with_reducible exact Mine.call (by assumption) hb1 | with_reducible exact And.left (by assumption)))
    (first
      | (go_at_call 49; refine (zeros_form n h1 h6 _).mono ?_; rintro e w1 ⟨g1, c1, rfl, ho1, hg1, hl1, hb1⟩)
      | (go_at_call 153; refine (copied_form _ l _ (unhide HR _ (And.left (by assumption))) (by omega) (by omega)).mono ?_; rintro e w2 ⟨g2, c2, rfl, ho2, hg2, hl2, hb2⟩))
  go_wp2
  have hm : Mine w w.heap.size 6 w2 := Mine.call (p := True) ⟨Mine.call start hb1, trivial⟩ hb2
  have hm1 : Mine w w.heap.size 6 w1 := Mine.call start hb1
  have hne1 : g1 ≠ w.heap.size := by simp at hg1; omega
  have hne2 : g2 ≠ w.heap.size := by have := hm1.lt; omega
  refine bodyPost_ret (ret_cell1 Tryz.results102 (a := ⟨w.heap.size, 0, none⟩) rfl (load_stored (cs := [_, _, _, _, _, _]) hm.there Tryz.underlying117 rfl size_Spot)) rfl ?_
  refine ⟨_, _, l, _, HX.out, rfl, ?_, ?_, ?_, (Mine.setCells (p := True) ⟨hm, trivial⟩ 0 _).below⟩
  · refine ownsRow_base (ownsRow_keep ho1 ?_) ?_
    · intro k hk
      simp [Value.ownBlock] at hk
      subst hk
      rw [heap_setCells_other _ _ _ _ _ hne1]
      exact hb2.block _ hl1
    · intro k hk
      simp [Value.ownBlock] at hk
      subst hk
      simp at hg1; omega
  · rw [hl] at ho2 ⊢
    refine ownsRow_base (ownsRow_keep ho2 ?_) ?_
    · intro k hk
      simp [Value.ownBlock] at hk
      subst hk
      rw [heap_setCells_other _ _ _ _ _ hne2]
    · intro k hk
      simp [Value.ownBlock] at hk
      subst hk
      have := hm1.below.size
      omega
  · intro k hk
    simp [Value.ownBlock] at hk ⊢
    subst hk
    omega

end Go.Proofs.YtaelaldmibgibaaGreatDoor

namespace Go.Proofs.YtaelaldmibgibaaGreatDoor
open Go.RowKit

def setTms (bs : List (Option Nat)) (r : Nat) (x : Int) (s : SP) : SP := if s.tmv.ownBlock ∈ bs then { s with tm := s.tm.set r x } else s
theorem setTms_nil (r : Nat) (x : Int) (l : List SP) : l.map (setTms [] r x) = l := by
  have : setTms [] r x = id := by funext s; simp [setTms]
  rw [this, List.map_id]
theorem setTms_snoc (bs : List (Option Nat)) (g r : Nat) (x : Int) (l : List SP) : (l.map (setTms bs r x)).map (setTm g r x) = l.map (setTms (bs ++ [some g]) r x) := by
  rw [List.map_map]
  apply List.map_congr_left
  intro s _
  show setTm g r x (setTms bs r x s) = setTms (bs ++ [some g]) r x s
  by_cases h1 : s.tmv.ownBlock ∈ bs
  · have e : setTms bs r x s = { s with tm := s.tm.set r x } := if_pos h1
    have e' : setTms (bs ++ [some g]) r x s = { s with tm := s.tm.set r x } := if_pos (List.mem_append_left _ h1)
    rw [e, e']
    unfold setTm
    split
    · simp
    · rfl
  · have e : setTms bs r x s = s := if_neg h1
    rw [e]
    by_cases h2 : s.tmv.ownBlock = some g
    · have e' : setTms (bs ++ [some g]) r x s = { s with tm := s.tm.set r x } := if_pos (by rw [h2]; simp)
      rw [e']; exact if_pos h2
    · have e' : setTms (bs ++ [some g]) r x s = s := if_neg (by simp [h1, h2])
      rw [e']; exact if_neg h2
theorem setTms_all (r : Nat) (x : Int) (l : List SP) : l.map (setTms (l.map (·.tmv.ownBlock)) r x) = l.map (fun s => { s with tm := s.tm.set r x }) := by
  apply List.map_congr_left
  intro s hs
  unfold setTms
  rw [if_pos (List.mem_map.2 ⟨s, hs, rfl⟩)]
theorem setTms_tmv (bs : List (Option Nat)) (r : Nat) (x : Int) (s : SP) : (setTms bs r x s).tmv = s.tmv := by unfold setTms; split <;> rfl

/-- behind acts -/
def RS.acted (S : RS) (r : Nat) (x : Int) (cw : Value) (cl : List Int) (v : Value) (l : List SP) (bs : List (Option Nat)) : RS :=
  { S with coms := S.coms.set r (cw, cl.set r x), rows := S.rows.set r (v, l.map (setTms bs r x)) }

theorem acted_zero {S : RS} {r : Nat} {x : Int} {cw : Value} {cl : List Int} {v : Value} {l : List SP} (hx : S.rows[r]? = some (v, l)) : S.acted r x cw cl v l [] = { S with coms := S.coms.set r (cw, cl.set r x) } := by
  unfold RS.acted
  rw [setTms_nil]
  congr 1
  apply List.ext_getElem?
  intro i
  by_cases e : i = r
  · subst e
    have hi : i < S.rows.length := (List.getElem?_eq_some_iff.1 hx).1
    simp [hi]
    exact ((List.getElem?_eq_some_iff.1 hx).2).symm
  · rw [List.getElem?_set_ne (Ne.symm e)]

/-- the loop's end -/
theorem acts_len {w : World} {b : Nat} {ρ : Nat → Nat × Nat} {S : RS} {r : Nat} {x : Int} {cw : Value} {cl : List Int} {v : Value} {l : List SP} {bs : List (Option Nat)} (hr : r < S.rows.length)
    (h : RefRep w b ρ (S.acted r x cw cl v l bs)) (hrn : r < S.n) : ∃ sg sc a cap, w.cell? ⟨b, 3, none⟩ = some (.slice (some ⟨sg, 0, none⟩) S.n sc) ∧ w.cell? ⟨sg, r, none⟩ = some (.slice a l.length cap) := by
  obtain ⟨sg, sc, v', l', es, hs, hx, hrow, hro, _, _, _⟩ := h.theRow r hrn
  have hx' : (v', l') = (v, l.map (setTms bs r x)) := by
    have : (S.acted r x cw cl v l bs).rows[r]? = some (v, l.map (setTms bs r x)) := by
      simp [RS.acted, hr]
    rw [this] at hx
    simpa using hx.symm
  simp only [Prod.mk.injEq] at hx'
  obtain ⟨rfl, rfl⟩ := hx'
  have hf : ∃ a cap, v' = .slice a (l.map (setTms bs r x)).length cap := by
    rcases hrow.2 with ⟨rfl, h0⟩ | ⟨g, cap, cur, rfl, _⟩
    · exact ⟨none, 0, by rw [h0]⟩
    · exact ⟨_, _, rfl⟩
  obtain ⟨a, cap, ev⟩ := hf
  rw [List.length_map] at ev
  exact ⟨sg, sc, a, cap, by rw [h.c3, es]; rfl, by rw [hs, ev]⟩

/-- what the round reads and writes -/
theorem acts_round {w : World} {b : Nat} {ρ : Nat → Nat × Nat} {S : RS} {r : Nat} {x : Int} {cw : Value} {cl : List Int} {v : Value} {l : List SP} (hr : r < S.rows.length) (k : Nat) (hk : k < l.length)
    (h : RefRep w b ρ (S.acted r x cw cl v l ((l.take k).map (·.tmv.ownBlock)))) (hrn : r < S.n) :
    ∃ sg sc g cap gt ct, w.cell? ⟨b, 3, none⟩ = some (.slice (some ⟨sg, 0, none⟩) S.n sc) ∧ w.cell? ⟨sg, r, none⟩ = some (.slice (some ⟨g, 0, none⟩) l.length cap) ∧
      w.cell? ⟨g, k * 6 + 5, none⟩ = some (.slice (some ⟨gt, 0, none⟩) S.n ct) ∧ (∃ y, w.cell? ⟨gt, r, none⟩ = some (.int .i64 y)) ∧ w.frozen? ⟨gt, r, none⟩ = false ∧ ρ gt = (7, r) ∧
      RefRep (w.setCell ⟨gt, r, none⟩ (.int .i64 x)) b ρ (S.acted r x cw cl v l ((l.take (k + 1)).map (·.tmv.ownBlock))) := by
  obtain ⟨sg, sc, v', l', es, hs, hx, hrow, hro, _, _, _⟩ := h.theRow r hrn
  have hx' : (v', l') = (v, l.map (setTms ((l.take k).map (·.tmv.ownBlock)) r x)) := by
    have : (S.acted r x cw cl v l ((l.take k).map (·.tmv.ownBlock))).rows[r]? = some (v, l.map (setTms ((l.take k).map (·.tmv.ownBlock)) r x)) := by
      simp [RS.acted, hr]
    rw [this] at hx
    simpa using hx.symm
  simp only [Prod.mk.injEq] at hx'
  obtain ⟨rfl, rfl⟩ := hx'
  have hks : (l.map (setTms ((l.take k).map (·.tmv.ownBlock)) r x))[k]? = some (setTms ((l.take k).map (·.tmv.ownBlock)) r x l[k]) := by simp [hk]
  obtain ⟨g, cap, ev, hg, _, hcell, _⟩ := spot_cells hrow k _ hks
  have hsp := h.sp r _ hx _ (List.mem_of_getElem? hks)
  obtain ⟨gt, ct, et, hgt, htc, htf, _⟩ := hsp.tm.form (by rw [hsp.tml]; have := h.n1; omega)
  rw [hsp.tml] at et htc
  have hρ : ρ gt = (7, r) := hsp.tmr gt (by rw [et]; rfl)
  refine ⟨sg, sc, g, cap, gt, ct, ?_, ?_, ?_, ⟨_, htc r hrn⟩, htf _, hρ, ?_⟩
  · rw [h.c3, es]; rfl
  · rw [hs, ev]; simp
  · rw [hcell 5 (by omega)]
    simp only [SP.cells]
    rw [et]; rfl
  · have hset := h.setTime r _ _ hx gt hρ r x
    have e1 : { S.acted r x cw cl v' l ((l.take k).map (·.tmv.ownBlock)) with rows := (S.acted r x cw cl v' l ((l.take k).map (·.tmv.ownBlock))).rows.set r (v', (l.map (setTms ((l.take k).map (·.tmv.ownBlock)) r x)).map (setTm gt r x)) } =
        S.acted r x cw cl v' l ((l.take (k + 1)).map (·.tmv.ownBlock)) := by
      rw [setTms_snoc]
      have e2 : (l.take (k + 1)).map (·.tmv.ownBlock) = (l.take k).map (·.tmv.ownBlock) ++ [some gt] := by
        rw [List.take_succ_eq_append_getElem hk, List.map_append]
        have : l[k].tmv.ownBlock = some gt := by
          rw [setTms_tmv] at et; rw [et]; rfl
        simp [this]
      rw [e2]
      simp [RS.acted]
    rw [e1] at hset
    exact hset

set_option maxHeartbeats 600000 in
theorem acts_any (b r : Nat) (ρ : Nat → Nat × Nat) (S : RS) (w : World) (h : RefRep w b ρ S) (hr : r < S.n) (h0 : 0 ≤ S.count r) (hcn : S.count r < 1000000000) :
    Calls Tryz.prog 152 #[.pointer (some ⟨b, 0, none⟩), .int .i64 r] w fun e w' => ∃ cw cl v l, S.coms[r]? = some (cw, cl) ∧ S.rows[r]? = some (v, l) ∧ e = .returned (.int .i64 (S.count r + 1)) ∧
      RefRep w' b ρ { S with coms := S.coms.set r (cw, cl.set r (S.count r + 1)), rows := S.rows.set r (v, l.map (fun s => { s with tm := s.tm.set r (S.count r + 1) })) } ∧ Fr (fun k => (ρ k).1 ≠ 0) w w' ∧ w'.heap.size = w.heap.size := by
  obtain ⟨cg, cc, g, cap, cl, ec, hc, hx, hl, hρ, hg, hcg, hρc, hcell, hfz⟩ := h.common r hr
  obtain ⟨sg, sc, v, l, es, hs, hxr, hrow, hro, hsg, hρs, _⟩ := h.theRow r hr
  have hml : l.length ≤ 9223372036854775807 := by
    rcases hrow.2 with ⟨rfl, h0⟩ | ⟨g, cap, cur, rfl, _, hg, hc, hm, _⟩
    · omega
    · unfold maxLen at hm; omega
  have h2 := h.c2
  rw [ec] at h2
  have h6 := h.n6
  have hq := hcell r hr
  have hf := hfz r
  have hcount : S.count r = cl.getD r 0 := by unfold RS.count; rw [hx]; rfl
  have hrl : r < S.rows.length := by have := h.rowl; omega
  have hb : b < w.heap.size := h.lt b (by rw [h.rb]; decide)
  generalize hX : S.count r + 1 = x at *
  -- behind the first store
  have hset := h.setCom r _ cl hx g rfl r x
  rw [← acted_zero (x := x) (cw := .slice (some ⟨g, 0, none⟩) S.n cap) (cl := cl) hxr] at hset
  have hfr : Fr (fun k => (ρ k).1 ≠ 0) w (w.setCell ⟨g, r, none⟩ (.int .i64 x)) := (Fr.refl _ _).setCell (.inl (by rw [hρ]; simp)) _
  have hend : ∀ w', RefRep w' b ρ (S.acted r x (.slice (some ⟨g, 0, none⟩) S.n cap) cl v l ((l.take l.length).map (·.tmv.ownBlock))) →
      RefRep w' b ρ { S with coms := S.coms.set r (.slice (some ⟨g, 0, none⟩) S.n cap, cl.set r x), rows := S.rows.set r (v, l.map (fun s => { s with tm := s.tm.set r x })) } := by
    intro w' hw'
    rw [List.take_length] at hw'
    unfold RS.acted at hw'
    rw [setTms_all] at hw'
    exact hw'
  have HS := hide hset
  have HF := hide hfr
  have HE := hide hend
  have HX := hide hx
  have HXR := hide hxr
  have hcgb : cg ≠ g := by rintro rfl; rw [hρ] at hρc; simp at hρc
  have hbg : b ≠ g := by rintro rfl; rw [h.rb] at hρ; simp at hρ
  have HCX : Hid (S.count r + 1 = x) := hX
  rw [hcount] at h0 hcn hX
  generalize cl.getD r 0 = q at *
  subst hX
  clear hset hfr hend hx hxr hcell hfz hrow hro h ec es hl hcount hs
  go_enter Tryz.func152, Tryz.ntmps152
  go_wp2
  generalize hcw : Value.slice (some ⟨g, 0, none⟩) S.n cap = cw at HS HE HX
  go_loopw [6] (fun i wr => ∃ k : Nat, k ≤ l.length ∧ i = .int .i64 k ∧ Hid (RefRep wr b ρ (S.acted r (q + 1) cw cl v l ((l.take k).map (·.tmv.ownBlock)))) ∧ Hid (Fr (fun k => (ρ k).1 ≠ 0) w wr) ∧ Hid (wr.heap.size = w.heap.size)) (fun i _ => l.length - (intOf i).toNat)
  case atStart => exact ⟨0, Nat.zero_le _, rfl, by rw [List.take_zero]; exact HS, HF, size_setCell _ _ _⟩
  case round =>
    obtain ⟨k, hk, rfl, hR, hF, hZ⟩ := hrel
    have HCW := hide hcw
    by_cases hlt : k < l.length
    · obtain ⟨sg', sc', g', cap', gt, ct, e1, e2, e3, ⟨y, e4⟩, e5, e6, e7⟩ := acts_round hrl k hlt hR.out hr
      have R := hide e7
      have F := hide (hF.out.setCell (p := ⟨gt, r, none⟩) (.inl (by simp only; rw [e6]; simp)) (.int .i64 (q + 1)))
      have Z : Hid ((wr.setCell ⟨gt, r, none⟩ (.int .i64 (q + 1))).heap.size = w.heap.size) := (size_setCell _ _ _).trans hZ.out
      clear e6 e7 hR hF hZ hcw hq hf h2 hc
      generalize S.n = n at *
      go_wp2
      go_roundw
      case rel => exact ⟨k + 1, by omega, by go_num, R, F, Z⟩
      case measure => simp [intOf]; omega
    · obtain ⟨sg', sc', a', cap', e1, e2⟩ := acts_len hrl hR.out hr
      have ek : k = l.length := by omega
      have R := hide (HE.out wr (by rw [← ek]; exact hR.out))
      clear hcw hq hf h2 hc ek
      go_wp2
      go_ret
      exact ⟨cw, cl, v, l, HX.out, HXR.out, rfl, R.out, hF.out, hZ.out⟩

end Go.Proofs.YtaelaldmibgibaaGreatDoor
