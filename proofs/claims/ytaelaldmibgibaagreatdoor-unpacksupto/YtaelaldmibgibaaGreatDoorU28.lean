/- The document's reader over lists of bytes: what it takes, and that it takes it. What stands behind a path in a text: what the document's reader takes, and that it takes it. Records in a text: what the document's reader takes, and that it takes it. A whole text: what the document's reader takes, and that it takes it. A whole text and its sum; a net without memory, and the text of it. -/
import Derived.Test.YtaelaldmibgibaaGreatDoorU27
import Derived.Test.YtaelaldmibgibaaGreatDoorU01
import Derived.Lib.Strings
import Derived.Test.YtaelaldmibgibaaGreatDoorU08

set_option linter.unusedVariables false
set_option linter.unusedSimpArgs false

namespace Go.Proofs.YtaelaldmibgibaaGreatDoor
open Go.Lib

/-- what is left to read -/
def rest (s : ByteArray) (a : Nat) : Bs := s.data.toList.drop a
theorem rest_at (s : ByteArray) (a : Nat) (h : a < s.size) : rest s a = s[a] :: rest s (a + 1) := by
  unfold rest
  exact List.drop_eq_getElem_cons (l := s.data.toList) (i := a) (by simpa using h)
theorem rest_end (s : ByteArray) (a : Nat) (h : ¬ a < s.size) : rest s a = [] := by
  unfold rest
  exact List.drop_eq_nil_iff.2 (by rw [Array.length_toList]; exact Nat.le_of_not_lt h)
theorem rest_lt {s : ByteArray} {a : Nat} (h : rest s a ≠ []) : a < s.size := by
  by_cases q : a < s.size
  · exact q
  · exact absurd (rest_end s a q) h
theorem rest_drop (s : ByteArray) (a k : Nat) : (rest s a).drop k = rest s (a + k) := by unfold rest; rw [List.drop_drop]
theorem rest_step {s : ByteArray} {a : Nat} {t R : Bs} (h : rest s a = t ++ R) : rest s (a + t.length) = R := by
  rw [← rest_drop, h, List.drop_left]
theorem rest_len (s : ByteArray) (a : Nat) : (rest s a).length = s.size - a := by
  unfold rest
  rw [List.length_drop, Array.length_toList]
  rfl
/-- a piece is read -/
def Got (s : ByteArray) (x : Nat × Bool) (t : Bs) (y : Nat × Bool) : Prop := x.2 = false ∧ y = (x.1 + t.length, false) ∧ rest s x.1 = t ++ rest s (x.1 + t.length)
theorem Got.trans {s : ByteArray} {x y z : Nat × Bool} {t u : Bs} (h : Got s x t y) (g : Got s y u z) : Got s x (t ++ u) z := by
  obtain ⟨h1, rfl, h3⟩ := h
  obtain ⟨_, rfl, g3⟩ := g
  refine ⟨h1, by simp [Nat.add_assoc], ?_⟩
  rw [h3, g3, List.append_assoc, List.length_append, Nat.add_assoc]
theorem Got.refl {s : ByteArray} {x : Nat × Bool} (h : x.2 = false) : Got s x [] x := ⟨h, by rw [← h]; rfl, rfl⟩
theorem Got.of {s : ByteArray} {x : Nat × Bool} {t R : Bs} (h : x.2 = false) (e : rest s x.1 = t ++ R) : Got s x t (x.1 + t.length, false) := ⟨h, rfl, by rw [rest_step e]; exact e⟩
theorem Got.next {s : ByteArray} {x y : Nat × Bool} {t R : Bs} (h : Got s x t y) (e : rest s x.1 = t ++ R) : y.2 = false ∧ rest s y.1 = R := by
  obtain ⟨_, rfl, _⟩ := h
  exact ⟨rfl, rest_step e⟩

theorem numRun_eq (s : ByteArray) (f : Nat) : ∀ m n, numRun s f m n = (m + (((rest s m).take f).takeWhile isD).length, valD n (((rest s m).take f).takeWhile isD)) := by
  induction f with
  | zero => intro m n; simp [numRun, valD]
  | succ f ih =>
    intro m n
    rw [numRun]
    by_cases h : m < s.size
    · rw [dif_pos h, rest_at s m h, List.take_succ_cons, List.takeWhile_cons]
      by_cases hd : 48 ≤ s[m].toNat ∧ s[m].toNat ≤ 57
      · rw [if_pos hd, ih, if_pos (by unfold isD; exact decide_eq_true hd)]
        simp only [List.length_cons, Prod.mk.injEq]
        exact ⟨by omega, rfl⟩
      · rw [if_neg hd, if_neg (by unfold isD; simp only [decide_eq_true_eq]; exact hd)]
        simp [valD]
    · rw [dif_neg h, rest_end s m h]
      simp [valD]
theorem takeWhile_all {α : Type} (p : α → Bool) (l : List α) : ∀ c ∈ l.takeWhile p, p c = true := by
  induction l with
  | nil => intro c h; simp at h
  | cons x l ih =>
    intro c h
    rw [List.takeWhile_cons] at h
    split at h
    · rename_i hx
      rcases List.mem_cons.1 h with rfl | h
      · exact hx
      · exact ih c h
    · simp at h
theorem num_got (s : ByteArray) (x : Nat × Bool) (h : (numS s x).2 = false) : Got s x (decDigits (numVal s x.1)) (numS s x) ∧ numVal s x.1 ≤ 1000000000 := by
  obtain ⟨a, no⟩ := x
  unfold numS at h ⊢
  simp only [Bool.or_eq_false_iff] at h
  obtain ⟨h1, h2⟩ := h
  simp only at h1 h2 ⊢
  have hv : numVal s a = (numRun s 11 a 0).2 := by unfold numVal; rw [if_neg (by rw [h2]; simp)]
  unfold numNo at h2
  have ha : numAt s a = (numRun s 11 a 0).1 := rfl
  have hr : rest s a = ((rest s a).take 11).takeWhile isD ++ rest s (a + (((rest s a).take 11).takeWhile isD).length) := by
    obtain ⟨u, hu⟩ := List.IsPrefix.trans (List.takeWhile_prefix isD (l := (rest s a).take 11)) (List.take_prefix 11 (rest s a))
    have := rest_step hu.symm
    rw [this, hu]
  rw [numRun_eq] at hv ha h2
  have hall := takeWhile_all isD ((rest s a).take 11)
  have hhd : (((rest s a).take 11).takeWhile isD).head? = some 48 → (s.data.getD a 0).toNat = 48 := fun q => by
    cases hq : rest s a with
    | nil => rw [hq] at q; simp at q
    | cons c r =>
      rw [hq, List.take_succ_cons, List.takeWhile_cons] at q
      have hlt : a < s.size := rest_lt (by rw [hq]; simp)
      rw [rest_at s a hlt] at hq
      have e : s.data.getD a 0 = s[a] := (Array.getElem_eq_getD (h := hlt) 0).symm
      split at q
      · simp only [List.head?_cons, Option.some.injEq] at q
        rw [e, (List.cons.inj hq).1, q]; rfl
      · simp at q
  generalize hds : ((rest s a).take 11).takeWhile isD = ds at *
  unfold numBad at h2
  simp only [Bool.or_eq_false_iff, Bool.and_eq_false_iff, beq_eq_false_iff_ne, decide_eq_false_iff_not] at h2
  obtain ⟨b1, b2, b3⟩ := h2
  have hne : ds ≠ [] := fun q => by subst q; exact b1 (by simp)
  have hdig : decDigits (valD 0 ds) = ds := by
    refine dig_of_val _ ds rfl hall hne fun q => ?_
    have l1 : 0 < ds.length := List.length_pos_iff.2 hne
    rcases b3 with b3 | b3
    · exact absurd (hhd q) b3
    · omega
  rw [hv]
  refine ⟨⟨h1, ?_, ?_⟩, by omega⟩
  · rw [ha, hdig]
    simp only [Prod.mk.injEq]
    refine ⟨trivial, ?_⟩
    unfold numNo numBad
    rw [numRun_eq, hds]
    simp only [Bool.or_eq_false_iff, Bool.and_eq_false_iff, beq_eq_false_iff_ne, decide_eq_false_iff_not]
    exact ⟨h1, b1, b2, b3⟩
  · rw [hdig]; exact hr
theorem dig_len (k : Nat) : ∀ v, v < 10 ^ (k + 1) → (decDigits v).length ≤ k + 1 := by
  induction k with
  | zero => intro v h; rw [dig_small (by simpa using h)]; simp
  | succ k ih =>
    intro v h
    by_cases hv : v < 10
    · rw [dig_small hv]; simp
    · rw [dig_big hv, List.length_append]
      have := ih (v / 10) (by rw [Nat.pow_succ] at h; omega)
      simp only [List.length_singleton]
      omega
def noDig (R : Bs) : Prop := ∀ c, R.head? = some c → isD c = false
theorem num_of (s : ByteArray) (x : Nat × Bool) (v : Nat) (R : Bs) (h : x.2 = false) (e : rest s x.1 = decDigits v ++ R) (hv : v ≤ 1000000000) (hR : noDig R) : numVal s x.1 = v ∧ numS s x = (x.1 + (decDigits v).length, false) := by
  obtain ⟨a, no⟩ := x
  simp only at h e ⊢
  subst h
  have hl : (decDigits v).length ≤ 10 := dig_len 9 v (by omega)
  have hl1 : 0 < (decDigits v).length := List.length_pos_iff.2 (dig_ne v)
  have ht : ((rest s a).take 11).takeWhile isD = decDigits v := by
    rw [e, List.take_append, List.take_of_length_le (by omega), List.takeWhile_append_of_pos (dig_digits v)]
    have : (R.take (11 - (decDigits v).length)).takeWhile isD = [] := by
      cases R with
      | nil => simp
      | cons c R =>
        rw [show 11 - (decDigits v).length = (10 - (decDigits v).length) + 1 by omega, List.take_succ_cons, List.takeWhile_cons, if_neg (by rw [hR c rfl]; simp)]
    rw [this, List.append_nil]
  have hb : numNo s a = false := by
    unfold numNo numBad
    rw [numRun_eq, ht, dig_val]
    simp only [Bool.or_eq_false_iff, Bool.and_eq_false_iff, beq_eq_false_iff_ne, decide_eq_false_iff_not]
    refine ⟨by omega, by omega, ?_⟩
    by_cases q : (decDigits v).length = 1
    · exact .inr (by omega)
    · left
      intro q2
      have hlt : a < s.size := rest_lt (by rw [e]; intro q3; exact dig_ne v (List.append_eq_nil_iff.1 q3).1)
      have e2 : s.data.getD a 0 = s[a] := (Array.getElem_eq_getD (h := hlt) 0).symm
      have hh : (decDigits v).head? = some 48 := by
        rw [← head_append (b := R) (dig_ne v), ← e, rest_at s a hlt]
        rw [e2] at q2
        simp only [List.head?_cons, Option.some.injEq]
        exact UInt8.toNat_inj.1 q2
      have := dig_head v hh
      subst this
      rw [dig_zero] at q
      exact q rfl
  unfold numS numVal
  simp only [hb, Bool.or_false]
  unfold numAt
  rw [numRun_eq, ht, dig_val]
  simp

theorem hasAt_iff (s : ByteArray) (a : Nat) (no : Bool) (p : ByteArray) (ha : a ≤ s.size) : hasAt s a no p = true ↔ no = false ∧ ∃ R, rest s a = p.data.toList ++ R := by
  have hp : p.toList = p.data.toList := by obtain ⟨⟨l⟩⟩ := p; simp
  have hz : p.data.toList.length = p.size := by rw [Array.length_toList]; rfl
  have hl := rest_len s a
  unfold hasAt
  rw [extract_toList, hp]
  simp only [Bool.and_eq_true, Bool.not_eq_true', decide_eq_true_eq, beq_iff_eq]
  rw [show a + p.size - a = p.size by omega]
  constructor
  · rintro ⟨rfl, h1, h2⟩
    refine ⟨rfl, (rest s a).drop p.size, ?_⟩
    rw [← h2]
    exact (List.take_append_drop p.size (rest s a)).symm
  · rintro ⟨rfl, R, h⟩
    refine ⟨rfl, ?_, ?_⟩
    · rw [h, List.length_append, hz] at hl
      by_cases q : p.size = 0
      · omega
      · omega
    · show (rest s a).take p.size = _
      rw [h, ← hz, List.take_left]
theorem want_got (s p : ByteArray) (x : Nat × Bool) (ha : x.1 ≤ s.size) (h : (wantS s p x).2 = false) : Got s x p.data.toList (wantS s p x) := by
  unfold wantS at h ⊢
  simp only [Bool.not_eq_false'] at h
  obtain ⟨h1, R, h2⟩ := (hasAt_iff s x.1 x.2 p ha).1 h
  have hz : p.data.toList.length = p.size := by rw [Array.length_toList]; rfl
  have := Got.of (s := s) h1 h2
  unfold passed
  rw [if_pos h, h, ← hz]
  exact this
theorem want_of (s p : ByteArray) (x : Nat × Bool) (R : Bs) (ha : x.1 ≤ s.size) (h : x.2 = false) (e : rest s x.1 = p.data.toList ++ R) : wantS s p x = (x.1 + p.data.toList.length, false) := by
  have q := (hasAt_iff s x.1 x.2 p ha).2 ⟨h, R, e⟩
  have hz : p.data.toList.length = p.size := by rw [Array.length_toList]; rfl
  unfold wantS passed
  rw [if_pos q, q, hz]; rfl
theorem Got.le {s : ByteArray} {x y : Nat × Bool} {t : Bs} (h : Got s x t y) (ha : x.1 ≤ s.size) : y.1 ≤ s.size := by
  obtain ⟨_, rfl, h3⟩ := h
  have h1 := rest_len s x.1
  have h2 := rest_len s (x.1 + t.length)
  rw [h3, List.length_append, h2] at h1
  show x.1 + t.length ≤ s.size
  omega

/-- the numbers of a time, as the reader has them -/
def ints (l : List Nat) : List Int := l.map (fun (v : Nat) => (v : Int))
theorem want_no (s p : ByteArray) (x : Nat × Bool) (h : (wantS s p x).2 = false) : x.2 = false := by
  unfold wantS hasAt at h
  simp only [Bool.not_eq_false', Bool.and_eq_true, Bool.not_eq_true'] at h
  exact h.1
theorem num_no (s : ByteArray) (x : Nat × Bool) (h : (numS s x).2 = false) : x.2 = false := by
  unfold numS at h
  simp only [Bool.or_eq_false_iff] at h
  exact h.1
theorem timeStep_no (s : ByteArray) (i : Nat) (x : Nat × Bool) (h : (timeStep s i x).2 = false) : x.2 = false := by
  unfold timeStep at h
  split at h
  · exact h
  · exact want_no _ _ _ h
theorem time_no (s : ByteArray) (n : Nat) (x : Nat × Bool) (h : (timeS s n x).1.2 = false) : x.2 = false := by
  induction n with
  | zero => exact h
  | succ n ih => exact ih (timeStep_no _ _ _ (num_no _ _ h))
theorem time_got (s : ByteArray) (n : Nat) (x : Nat × Bool) (ha : x.1 ≤ s.size) (h : (timeS s n x).1.2 = false) :
    ∃ l : List Nat, l.length = n ∧ (timeS s n x).2 = ints l ∧ (∀ v ∈ l, v ≤ 1000000000) ∧ Got s x (timeT l) (timeS s n x).1 := by
  induction n with
  | zero => exact ⟨[], rfl, rfl, by simp, Got.refl h⟩
  | succ n ih =>
    have h1 := num_no _ _ h
    have h2 := timeStep_no _ _ _ h1
    obtain ⟨l, hl, hv, hb, hg⟩ := ih h2
    obtain ⟨g1, g2⟩ := num_got s (timeStep s n (timeS s n x).1) h
    refine ⟨l ++ [numVal s (timeStep s n (timeS s n x).1).1], by simp [hl], by simp [timeS, hv, ints], ?_, ?_⟩
    · intro v hv
      rcases List.mem_append.1 hv with q | q
      · exact hb v q
      · simp only [List.mem_singleton] at q
        subst q
        exact g2
    · rw [timeT_snoc]
      show Got s x _ (numS s (timeStep s n (timeS s n x).1))
      by_cases hn : n = 0
      · have e : timeStep s n (timeS s n x).1 = (timeS s n x).1 := by unfold timeStep; rw [if_pos hn]
        have el : l = [] := List.length_eq_zero_iff.1 (hl.trans hn)
        rw [if_pos el]
        rw [e] at g1 ⊢
        rw [el] at hg
        exact hg.trans g1
      · have e : timeStep s n (timeS s n x).1 = wantS s comma (timeS s n x).1 := by unfold timeStep; rw [if_neg hn]
        have el : l ≠ [] := fun q => hn (by rw [← hl, q]; rfl)
        rw [if_neg el]
        rw [e] at h1 g1 ⊢
        have := (hg.trans (want_got s comma _ (hg.le ha) h1)).trans g1
        rw [List.append_assoc] at this
        exact this
theorem time_of (s : ByteArray) (l : List Nat) : ∀ (x : Nat × Bool) (R : Bs), x.1 ≤ s.size → x.2 = false → (∀ v ∈ l, v ≤ 1000000000) → rest s x.1 = timeT l ++ R → noDig R → timeS s l.length x = ((x.1 + (timeT l).length, false), ints l) := by
  have key : ∀ n, ∀ l : List Nat, l.length = n → ∀ (x : Nat × Bool) (R : Bs), x.1 ≤ s.size → x.2 = false → (∀ v ∈ l, v ≤ 1000000000) → rest s x.1 = timeT l ++ R → noDig R → timeS s n x = ((x.1 + (timeT l).length, false), ints l) := by
    intro n
    induction n with
    | zero =>
      intro l hl x R ha hx _ _ _
      have := List.length_eq_zero_iff.1 hl
      subst this
      obtain ⟨a, no⟩ := x
      simp only at hx
      subst hx
      rfl
    | succ n ih =>
      intro l hl x R ha hx hb e hR
      have h0 : l ≠ [] := fun q => by rw [q] at hl; simp at hl
      obtain ⟨l', v, rfl⟩ : ∃ l' v, l = l' ++ [v] := ⟨l.dropLast, l.getLast h0, (List.dropLast_concat_getLast h0).symm⟩
      have hl' : l'.length = n := by simpa using hl
      have hb' : ∀ u ∈ l', u ≤ 1000000000 := fun u hu => hb u (List.mem_append_left _ hu)
      have hbv : v ≤ 1000000000 := hb v (by simp)
      rw [timeT_snoc] at e ⊢
      by_cases hn : n = 0
      · have el : l' = [] := List.length_eq_zero_iff.1 (hl'.trans hn)
        subst el
        rw [if_pos rfl] at e ⊢
        subst hn
        obtain ⟨q1, q2⟩ := num_of s x v R hx e hbv hR
        show (numS s x, [] ++ [(numVal s x.1 : Int)]) = _
        rw [q1, q2]
        rfl
      · have el : l' ≠ [] := fun q => hn (by rw [← hl', q]; rfl)
        rw [if_neg el] at e ⊢
        have I := ih l' hl' x (44 :: (decDigits v ++ R)) ha hx hb' (by rw [e]; simp) (fun c hc => by simp only [List.head?_cons, Option.some.injEq] at hc; subst hc; rfl)
        have e1 : rest s (x.1 + (timeT l').length) = comma.data.toList ++ (decDigits v ++ R) := rest_step (by rw [e]; simp [comma])
        have ha1 : x.1 + (timeT l').length ≤ s.size := by
          have := Got.le (Got.of (s := s) (t := timeT l') hx (by rw [e, List.append_assoc])) ha
          exact this
        have W := want_of s comma (x.1 + (timeT l').length, false) (decDigits v ++ R) ha1 rfl e1
        have e2 := rest_step e1
        obtain ⟨q1, q2⟩ := num_of s (x.1 + (timeT l').length + comma.data.toList.length, false) v R rfl e2 hbv hR
        show (numS s (timeStep s n (timeS s n x).1), (timeS s n x).2 ++ [(numVal s (timeStep s n (timeS s n x).1).1 : Int)]) = _
        rw [I]
        unfold timeStep
        rw [if_neg hn]
        dsimp only
        rw [W, q1, q2]
        simp [ints, comma, Nat.add_assoc, Nat.add_comm, Nat.add_left_comm]
  intro x R
  exact key l.length l rfl x R

end Go.Proofs.YtaelaldmibgibaaGreatDoor

namespace Go.Proofs.YtaelaldmibgibaaGreatDoor
open Go.Lib

def hexd (k : Nat) : UInt8 := digs.data.getD k 0
def hexT (t : Bs) : Bs := (t.map (fun c => [hexd (c.toNat / 16), hexd (c.toNat % 16)])).flatten
theorem hexT_nil : hexT [] = [] := rfl
theorem hexT_cons (c : UInt8) (t : Bs) : hexT (c :: t) = hexd (c.toNat / 16) :: hexd (c.toNat % 16) :: hexT t := rfl
theorem hexT_len (t : Bs) : (hexT t).length = 2 * t.length := by
  induction t with
  | nil => rfl
  | cons c t ih => rw [hexT_cons]; simp only [List.length_cons, ih]; omega
theorem valOf_hexd : ∀ k : Fin 16, valOf ((hexd k.val).toNat : Int) = (k.val : Int) := by decide
theorem hexd_ne : ∀ k : Fin 16, (hexd k.val).toNat ≠ 10 ∧ (hexd k.val).toNat ≠ 32 := by decide
theorem valFrom_spec (b : Int) (m : Nat) : ∀ k, k + m = 16 → 0 ≤ valFrom m k b → ∃ j : Nat, valFrom m k b = j ∧ j < 16 ∧ ((hexd j).toNat : Int) = b := by
  induction m with
  | zero => intro k _ h; simp [valFrom] at h
  | succ m ih =>
    intro k hk h
    rw [valFrom] at h ⊢
    by_cases e : ((digs.data.getD k 0).toNat : Int) = b
    · rw [if_pos e]
      exact ⟨k, rfl, by omega, e⟩
    · rw [if_neg e] at h ⊢
      exact ih (k + 1) (by omega) h
theorem valOf_spec (b : Int) (h : 0 ≤ valOf b) : ∃ j : Nat, valOf b = j ∧ j < 16 ∧ ((hexd j).toNat : Int) = b := valFrom_spec b 16 0 rfl h

def byteAt (s : ByteArray) (a : Nat) : Int := ((s.data.getD a 0).toNat : Int)
/-- the bytes of a text, read by two digits each -/
def hexS (s : ByteArray) : Nat → Nat → Bs → (Nat × Bool) × Bs
  | 0, a, t => ((a, false), t)
  | f + 1, a, t => if a + 1 < s.size ∧ byteAt s a ≠ 10 then
      (if valOf (byteAt s a) < 0 ∨ valOf (byteAt s (a + 1)) < 0 ∨ 60 ≤ t.length then ((a, true), t)
       else hexS s f (a + 2) (t ++ [UInt8.ofNat (16 * (valOf (byteAt s a)).toNat + (valOf (byteAt s (a + 1))).toNat)]))
    else ((a, false), t)
theorem byteAt_eq (s : ByteArray) (a : Nat) (h : a < s.size) : byteAt s a = (s[a].toNat : Int) := by
  unfold byteAt
  rw [show s.data.getD a 0 = s[a] from (Array.getElem_eq_getD (h := h) 0).symm]
theorem rest_two (s : ByteArray) (a : Nat) (h : a + 1 < s.size) : rest s a = s[a] :: s[a + 1] :: rest s (a + 2) := by
  rw [rest_at s a (by omega), rest_at s (a + 1) h]
theorem hex_got (s : ByteArray) (f : Nat) : ∀ a t, t.length ≤ 60 → (hexS s f a t).1.2 = false → ∃ u, (hexS s f a t).2 = t ++ u ∧ (t ++ u).length ≤ 60 ∧ Got s (a, false) (hexT u) (hexS s f a t).1 := by
  induction f with
  | zero => intro a t ht _; exact ⟨[], by simp [hexS], by simpa using ht, Got.refl rfl⟩
  | succ f ih =>
    intro a t ht h
    rw [hexS] at h ⊢
    by_cases h1 : a + 1 < s.size ∧ byteAt s a ≠ 10
    · rw [if_pos h1] at h ⊢
      by_cases h2 : valOf (byteAt s a) < 0 ∨ valOf (byteAt s (a + 1)) < 0 ∨ 60 ≤ t.length
      · rw [if_pos h2] at h
        cases h
      · rw [if_neg h2] at h ⊢
        obtain ⟨x, e1, l1, b1⟩ := valOf_spec (byteAt s a) (by omega)
        obtain ⟨y, e2, l2, b2⟩ := valOf_spec (byteAt s (a + 1)) (by omega)
        rw [e1, e2] at h ⊢
        simp only [Int.toNat_natCast] at h ⊢
        have hl : (t ++ [UInt8.ofNat (16 * x + y)]).length ≤ 60 := by simp; omega
        obtain ⟨u, q1, q2, q3⟩ := ih (a + 2) _ hl h
        refine ⟨UInt8.ofNat (16 * x + y) :: u, by rw [q1]; simp, by simpa using q2, ?_⟩
        have hn : (UInt8.ofNat (16 * x + y)).toNat = 16 * x + y := by rw [UInt8.toNat_ofNat']; omega
        rw [hexT_cons, hn, show (16 * x + y) / 16 = x by omega, show (16 * x + y) % 16 = y by omega]
        rw [byteAt_eq s a (by omega)] at b1
        rw [byteAt_eq s (a + 1) h1.1] at b2
        have c1 : hexd x = s[a] := UInt8.toNat_inj.1 (by omega)
        have c2 : hexd y = s[a + 1] := UInt8.toNat_inj.1 (by omega)
        have g : Got s (a, false) [hexd x, hexd y] (a + 2, false) := ⟨rfl, rfl, by rw [c1, c2]; exact rest_two s a h1.1⟩
        exact g.trans q3
    · rw [if_neg h1]
      exact ⟨[], by simp, by simpa using ht, Got.refl rfl⟩
theorem hex_of (s : ByteArray) (u : Bs) : ∀ f a t R, s.size - a ≤ f → (t ++ u).length ≤ 60 → rest s a = hexT u ++ 10 :: R → hexS s f a t = ((a + (hexT u).length, false), t ++ u) := by
  induction u with
  | nil =>
    intro f a t R hf ht e
    cases f with
    | zero => simp [hexS, hexT]
    | succ f =>
      rw [hexS, if_neg]
      · simp [hexT]
      · rintro ⟨h1, h2⟩
        rw [hexT_nil, List.nil_append, rest_at s a (by omega)] at e
        rw [byteAt_eq s a (by omega), (List.cons.inj e).1] at h2
        exact h2 rfl
  | cons c u ih =>
    intro f a t R hf ht e
    rw [hexT_cons] at e
    have hl := rest_len s a
    rw [e] at hl
    simp only [List.length_cons, List.length_append, List.cons_append] at hl
    have h1 : a + 1 < s.size := by omega
    cases f with
    | zero => omega
    | succ f =>
      rw [rest_two s a h1] at e
      simp only [List.cons_append, List.cons.injEq] at e
      obtain ⟨e1, e2, e3⟩ := e
      have hc : c.toNat < 256 := c.toNat_lt
      have n1 := hexd_ne ⟨c.toNat / 16, by omega⟩
      have v1 := valOf_hexd ⟨c.toNat / 16, by omega⟩
      have v2 := valOf_hexd ⟨c.toNat % 16, by omega⟩
      simp only at n1 v1 v2
      have d1 : valOf (byteAt s a) = ((c.toNat / 16 : Nat) : Int) := by rw [byteAt_eq s a (by omega), e1, v1]
      have d2 : valOf (byteAt s (a + 1)) = ((c.toNat % 16 : Nat) : Int) := by rw [byteAt_eq s (a + 1) h1, e2, v2]
      have d3 : byteAt s a ≠ 10 := by rw [byteAt_eq s a (by omega), e1]; have := n1.1; omega
      have ht1 : t.length < 60 := by simp at ht; omega
      rw [hexS, if_pos ⟨h1, d3⟩, d1, d2, if_neg (by omega)]
      simp only [Int.toNat_natCast]
      rw [show 16 * (c.toNat / 16) + c.toNat % 16 = c.toNat by omega, ofNat_toNat, ih f (a + 2) (t ++ [c]) R (by omega) (by simpa using ht) e3, hexT_cons]
      simp only [List.length_cons, List.append_assoc, List.singleton_append, Prod.mk.injEq, and_true]
      omega

def blank : ByteArray := ⟨#[32]⟩
def dashNl : ByteArray := ⟨#[45, 10]⟩
def colon : ByteArray := ⟨#[58]⟩
def blankEq : ByteArray := ⟨#[32, 61]⟩
def newl : ByteArray := ⟨#[10]⟩
/-- what is read behind a path -/
structure SpR where
  st : Nat × Bool
  there : Bool
  text : Bs
  by_ : Nat
  num : Nat
  ch : List Int
  tm : List Int
def spotHex (s : ByteArray) (x : Nat × Bool) : (Nat × Bool) × Bs := if x.2 = true then (x, []) else hexS s (s.size - x.1) x.1 []
/-- it is there: from its birth on -/
def spotB (s : ByteArray) (n : Nat) (tm : List Int) (y : Nat × Bool) : SpR :=
  ⟨wantS s newl (spotHex s (wantS s blankEq (timeS s n (wantS s blank (numS s (wantS s colon ((numS s y).1, (numS s y).2 || decide (n ≤ numVal s y.1))))) ).1)).1,
   true,
   (spotHex s (wantS s blankEq (timeS s n (wantS s blank (numS s (wantS s colon ((numS s y).1, (numS s y).2 || decide (n ≤ numVal s y.1))))) ).1)).2,
   numVal s y.1,
   numVal s (wantS s colon ((numS s y).1, (numS s y).2 || decide (n ≤ numVal s y.1))).1,
   (timeS s n (wantS s blank (numS s (wantS s colon ((numS s y).1, (numS s y).2 || decide (n ≤ numVal s y.1)))))).2,
   tm⟩
def spotS (s : ByteArray) (n : Nat) (x : Nat × Bool) : SpR :=
  if hasAt s (wantS s blank (timeS s n (wantS s blank x)).1).1 (wantS s blank (timeS s n (wantS s blank x)).1).2 dashNl = true then ⟨((wantS s blank (timeS s n (wantS s blank x)).1).1 + 2, false), false, [], 0, 0, List.replicate n 0, (timeS s n (wantS s blank x)).2⟩
  else if (wantS s blank (timeS s n (wantS s blank x)).1).2 = true then ⟨wantS s blank (timeS s n (wantS s blank x)).1, false, [], 0, 0, List.replicate n 0, (timeS s n (wantS s blank x)).2⟩
  else spotB s n (timeS s n (wantS s blank x)).2 (wantS s blank (timeS s n (wantS s blank x)).1)

/-- a record without its path -/
structure DS where
  known : List Nat
  there : Bool
  by_ : Nat
  num : Nat
  chg : List Nat
  text : Bs
def DS.tail (d : DS) : Bs := decDigits d.by_ ++ (58 :: (decDigits d.num ++ (32 :: (timeT d.chg ++ (32 :: 61 :: (hexT d.text ++ [10]))))))
def DS.T (d : DS) : Bs := 32 :: (timeT d.known ++ (32 :: (if d.there = true then d.tail else [45, 10])))
structure DS.ok (n : Nat) (d : DS) : Prop where
  kl : d.known.length = n
  kb : ∀ v ∈ d.known, v ≤ 1000000000
  yes : d.there = true → d.by_ < n ∧ d.num ≤ 1000000000 ∧ d.chg.length = n ∧ (∀ v ∈ d.chg, v ≤ 1000000000) ∧ d.text.length ≤ 60
  none : d.there = false → d.by_ = 0 ∧ d.num = 0 ∧ d.chg = List.replicate n 0 ∧ d.text = []
/-- what was read is this record -/
def SpR.is (r : SpR) (d : DS) : Prop := r.there = d.there ∧ r.text = d.text ∧ r.by_ = d.by_ ∧ r.num = d.num ∧ r.ch = ints d.chg ∧ r.tm = ints d.known
theorem ints_zero (n : Nat) : ints (List.replicate n 0) = List.replicate n 0 := by simp [ints]
theorem noDig_cons (c : UInt8) (R : Bs) (h : isD c = false) : noDig (c :: R) := fun x hx => by
  simp only [List.head?_cons, Option.some.injEq] at hx
  subst hx
  exact h

theorem Got.pair {s : ByteArray} {x y : Nat × Bool} {t : Bs} (h : x.2 = false) (g : Got s (x.1, false) t y) : Got s x t y := ⟨h, g.2.1, g.2.2⟩

theorem spotB_got (s : ByteArray) (n : Nat) (l : List Nat) (hl : l.length = n) (hb : ∀ v ∈ l, v ≤ 1000000000) (y : Nat × Bool) (hy : y.1 ≤ s.size) (h : (spotB s n (ints l) y).st.2 = false) :
    ∃ d : DS, d.ok n ∧ d.there = true ∧ d.known = l ∧ (spotB s n (ints l) y).is d ∧ Got s y d.tail (spotB s n (ints l) y).st := by
  unfold spotB at h ⊢
  simp only at h ⊢
  have a1 := want_no _ _ _ h
  generalize hyc : ((numS s y).1, (numS s y).2 || decide (n ≤ numVal s y.1)) = yc at *
  have hx2 : (wantS s blankEq (timeS s n (wantS s blank (numS s (wantS s colon yc)))).1).2 = false := by
    unfold spotHex at a1
    split at a1
    · rename_i q
      rw [q] at a1
      cases a1
    · rename_i q
      simpa using q
  have a3 := want_no _ _ _ hx2
  have a4 := time_no _ _ _ a3
  have a5 := want_no _ _ _ a4
  have a6 := num_no _ _ a5
  have a7 := want_no _ _ _ a6
  have a8 : (numS s y).2 = false ∧ numVal s y.1 < n := by
    rw [← hyc] at a7
    simp only [Bool.or_eq_false_iff, decide_eq_false_iff_not] at a7
    exact ⟨a7.1, by omega⟩
  obtain ⟨g1, v1⟩ := num_got s y a8.1
  have eyc : yc = numS s y := by
    rw [← hyc]
    refine Prod.ext rfl ?_
    simp only [decide_eq_false (Nat.not_le.2 a8.2), Bool.or_false]
  clear hyc
  subst eyc
  have g2 := want_got s colon _ (g1.le hy) a6
  have g12 := g1.trans g2
  obtain ⟨g3, v3⟩ := num_got s _ a5
  have g13 := g12.trans g3
  have g4 := want_got s blank _ (g13.le hy) a4
  have g14 := g13.trans g4
  obtain ⟨lc, c1, c2, c3, g5⟩ := time_got s n _ (g14.le hy) a3
  have g15 := g14.trans g5
  have g6 := want_got s blankEq _ (g15.le hy) hx2
  have g16 := g15.trans g6
  have esp : spotHex s (wantS s blankEq (timeS s n (wantS s blank (numS s (wantS s colon (numS s y))))).1) = hexS s (s.size - (wantS s blankEq (timeS s n (wantS s blank (numS s (wantS s colon (numS s y))))).1).1) (wantS s blankEq (timeS s n (wantS s blank (numS s (wantS s colon (numS s y))))).1).1 [] := by
    unfold spotHex
    rw [if_neg (by rw [hx2]; simp)]
  rw [esp] at h a1 ⊢
  obtain ⟨u, u1, u2, g7⟩ := hex_got s _ _ [] (by simp) a1
  have g7' := Got.pair hx2 g7
  have g17 := g16.trans g7'
  have g8 := want_got s newl _ (g17.le hy) h
  have g18 := g17.trans g8
  refine ⟨⟨l, true, numVal s y.1, numVal s (wantS s colon (numS s y)).1, lc, u⟩, ⟨hl, hb, fun _ => ⟨a8.2, v3, c1, c3, by simpa using u2⟩, fun q => by cases q⟩, rfl, rfl, ⟨rfl, by rw [u1]; rfl, rfl, rfl, c2, rfl⟩, ?_⟩
  have et : DS.tail ⟨l, true, numVal s y.1, numVal s (wantS s colon (numS s y)).1, lc, u⟩ = decDigits (numVal s y.1) ++ colon.data.toList ++ decDigits (numVal s (wantS s colon (numS s y)).1) ++ blank.data.toList ++ timeT lc ++ blankEq.data.toList ++ hexT u ++ newl.data.toList := by
    simp [DS.tail, colon, blank, blankEq, newl]
  rw [et]
  exact g18
theorem spot_got (s : ByteArray) (n : Nat) (x : Nat × Bool) (hx : x.1 ≤ s.size) (h : (spotS s n x).st.2 = false) :
    ∃ d : DS, d.ok n ∧ (spotS s n x).is d ∧ Got s x d.T (spotS s n x).st := by
  have step : (wantS s blank (timeS s n (wantS s blank x)).1).2 = false → ∃ l : List Nat, l.length = n ∧ (timeS s n (wantS s blank x)).2 = ints l ∧ (∀ v ∈ l, v ≤ 1000000000) ∧ Got s x (32 :: (timeT l ++ [32])) (wantS s blank (timeS s n (wantS s blank x)).1) := fun q => by
    have a1 := want_no _ _ _ q
    have a2 := time_no _ _ _ a1
    have g1 := want_got s blank x hx a2
    obtain ⟨l, c1, c2, c3, g2⟩ := time_got s n _ (g1.le hx) a1
    have g12 := g1.trans g2
    have g3 := want_got s blank _ (g12.le hx) q
    refine ⟨l, c1, c2, c3, ?_⟩
    have := g12.trans g3
    have e : blank.data.toList ++ timeT l ++ blank.data.toList = 32 :: (timeT l ++ [32]) := by simp [blank]
    rw [e] at this
    exact this
  unfold spotS at h ⊢
  split
  · rename_i q
    rw [if_pos q] at h
    have hb : (wantS s blank (timeS s n (wantS s blank x)).1).2 = false := by
      unfold hasAt at q
      simp only [Bool.and_eq_true, Bool.not_eq_true'] at q
      exact q.1
    obtain ⟨l, c1, c2, c3, g⟩ := step hb
    obtain ⟨_, R, e⟩ := (hasAt_iff s _ _ dashNl (g.le hx)).1 q
    have g2 := Got.of (s := s) hb e
    refine ⟨⟨l, false, 0, 0, List.replicate n 0, []⟩, ⟨c1, c3, (fun q => by cases q), fun _ => ⟨rfl, rfl, rfl, rfl⟩⟩, ⟨rfl, rfl, rfl, rfl, (ints_zero n).symm, c2⟩, ?_⟩
    have := g.trans g2
    have et : DS.T ⟨l, false, 0, 0, List.replicate n 0, []⟩ = 32 :: (timeT l ++ [32]) ++ dashNl.data.toList := by simp [DS.T, dashNl]
    rw [et]
    exact this
  · rename_i q
    rw [if_neg q] at h
    split
    · rename_i q2
      rw [if_pos q2] at h
      simp only at h
      rw [h] at q2
      cases q2
    · rename_i q2
      rw [if_neg q2] at h
      have hb : (wantS s blank (timeS s n (wantS s blank x)).1).2 = false := by simpa using q2
      obtain ⟨l, c1, c2, c3, g⟩ := step hb
      rw [c2] at h ⊢
      obtain ⟨d, d1, d2, d3, d4, d5⟩ := spotB_got s n l c1 c3 _ (g.le hx) h
      refine ⟨d, d1, d4, ?_⟩
      have := g.trans d5
      have et : d.T = 32 :: (timeT l ++ [32]) ++ d.tail := by unfold DS.T; rw [if_pos d2, d3]; simp
      rw [et]
      exact this

theorem Got.at {s : ByteArray} {x y : Nat × Bool} {t : Bs} (h : Got s x t y) : y = (x.1 + t.length, false) := h.2.1
/-- a sign is read, and what is left -/
theorem want_on {s : ByteArray} {x : Nat × Bool} {R : Bs} (p : ByteArray) (ha : x.1 ≤ s.size) (h : x.2 = false) (e : rest s x.1 = p.data.toList ++ R) : Got s x p.data.toList (wantS s p x) ∧ (wantS s p x).2 = false ∧ rest s (wantS s p x).1 = R := by
  have g := want_got s p x ha (by rw [want_of s p x R ha h e])
  have := g.next e
  exact ⟨g, this.1, this.2⟩
theorem num_on {s : ByteArray} {x : Nat × Bool} {v : Nat} {R : Bs} (h : x.2 = false) (e : rest s x.1 = decDigits v ++ R) (hv : v ≤ 1000000000) (hR : noDig R) : numVal s x.1 = v ∧ Got s x (decDigits v) (numS s x) ∧ (numS s x).2 = false ∧ rest s (numS s x).1 = R := by
  obtain ⟨q1, q2⟩ := num_of s x v R h e hv hR
  have g := (num_got s x (by rw [q2])).1
  rw [q1] at g
  have := g.next e
  exact ⟨q1, g, this.1, this.2⟩
theorem time_on {s : ByteArray} {x : Nat × Bool} {l : List Nat} {R : Bs} {n : Nat} (hl : l.length = n) (ha : x.1 ≤ s.size) (h : x.2 = false) (hb : ∀ v ∈ l, v ≤ 1000000000) (e : rest s x.1 = timeT l ++ R) (hR : noDig R) : (timeS s n x).2 = ints l ∧ Got s x (timeT l) (timeS s n x).1 ∧ (timeS s n x).1.2 = false ∧ rest s (timeS s n x).1.1 = R := by
  have q := time_of s l x R ha h hb e hR
  rw [hl] at q
  have g := Got.of (s := s) h e
  rw [q]
  exact ⟨rfl, g, rfl, rest_step e⟩
theorem hex_on {s : ByteArray} {x : Nat × Bool} {u R : Bs} (h : x.2 = false) (hu : u.length ≤ 60) (e : rest s x.1 = hexT u ++ 10 :: R) : (spotHex s x).2 = u ∧ Got s x (hexT u) (spotHex s x).1 ∧ (spotHex s x).1.2 = false ∧ rest s (spotHex s x).1.1 = 10 :: R := by
  have q := hex_of s u (s.size - x.1) x.1 [] R (Nat.le_refl _) (by simpa using hu) e
  have g := Got.of (s := s) h e
  unfold spotHex
  rw [if_neg (by rw [h]; simp), q]
  exact ⟨rfl, g, rfl, rest_step e⟩
theorem spotB_of (s : ByteArray) (n : Nat) (hn : n ≤ 6) (d : DS) (hd : d.ok n) (ht : d.there = true) (y : Nat × Bool) (R : Bs) (hy : y.1 ≤ s.size) (h : y.2 = false) (e : rest s y.1 = d.tail ++ R) :
    (spotB s n (ints d.known) y).is d ∧ Got s y d.tail (spotB s n (ints d.known) y).st := by
  obtain ⟨d1, d2, d3, d4, d5⟩ := hd.yes ht
  have e0 : rest s y.1 = decDigits d.by_ ++ (58 :: (decDigits d.num ++ (32 :: (timeT d.chg ++ (32 :: 61 :: (hexT d.text ++ (10 :: R))))))) := by rw [e]; simp [DS.tail]
  obtain ⟨p1, g1, a1, r1⟩ := num_on h e0 (by omega) (noDig_cons 58 _ rfl)
  have eyc : ((numS s y).1, (numS s y).2 || decide (n ≤ numVal s y.1)) = numS s y := Prod.ext rfl (by simp only [p1, decide_eq_false (Nat.not_le.2 d1), Bool.or_false])
  obtain ⟨g2, a2, r2⟩ := want_on colon (g1.le hy) a1 r1
  have g12 := g1.trans g2
  obtain ⟨p3, g3, a3, r3⟩ := num_on a2 r2 d2 (noDig_cons 32 _ rfl)
  have g13 := g12.trans g3
  obtain ⟨g4, a4, r4⟩ := want_on blank (g13.le hy) a3 r3
  have g14 := g13.trans g4
  obtain ⟨p5, g5, a5, r5⟩ := time_on d3 (g14.le hy) a4 d4 r4 (noDig_cons 32 _ rfl)
  have g15 := g14.trans g5
  obtain ⟨g6, a6, r6⟩ := want_on (R := hexT d.text ++ (10 :: R)) blankEq (g15.le hy) a5 r5
  have g16 := g15.trans g6
  obtain ⟨p7, g7, a7, r7⟩ := hex_on a6 d5 r6
  have g17 := g16.trans g7
  obtain ⟨g8, a8, r8⟩ := want_on newl (g17.le hy) a7 r7
  have g18 := g17.trans g8
  unfold spotB
  rw [eyc]
  refine ⟨⟨ht.symm, p7, p1, p3, p5, rfl⟩, ?_⟩
  have et : d.tail = decDigits d.by_ ++ colon.data.toList ++ decDigits d.num ++ blank.data.toList ++ timeT d.chg ++ blankEq.data.toList ++ hexT d.text ++ newl.data.toList := by simp [DS.tail, colon, blank, blankEq, newl]
  rw [et]
  exact g18
theorem spot_of (s : ByteArray) (n : Nat) (hn : n ≤ 6) (d : DS) (hd : d.ok n) (x : Nat × Bool) (R : Bs) (hx : x.1 ≤ s.size) (h : x.2 = false) (e : rest s x.1 = d.T ++ R) :
    (spotS s n x).is d ∧ Got s x d.T (spotS s n x).st := by
  have e0 : rest s x.1 = 32 :: (timeT d.known ++ (32 :: ((if d.there = true then d.tail else [45, 10]) ++ R))) := by rw [e]; simp [DS.T]
  obtain ⟨g1, a1, r1⟩ := want_on blank hx h e0
  obtain ⟨p2, g2, a2, r2⟩ := time_on hd.kl (g1.le hx) a1 hd.kb r1 (noDig_cons 32 _ rfl)
  have g12 := g1.trans g2
  obtain ⟨g3, a3, r3⟩ := want_on blank (g12.le hx) a2 r2
  have g13 := g12.trans g3
  have hle := g13.le hx
  unfold spotS
  generalize wantS s blank (timeS s n (wantS s blank x)).1 = y at *
  cases ht : d.there with
  | false =>
    rw [ht] at r3
    have q := (hasAt_iff s y.1 y.2 dashNl hle).2 ⟨a3, R, by rw [r3]; rfl⟩
    rw [if_pos q]
    have g4 := Got.of (s := s) (t := [45, 10]) a3 r3
    obtain ⟨z1, z2, z3, z4⟩ := hd.none ht
    refine ⟨⟨ht.symm, z4.symm, z1.symm, z2.symm, by rw [z3, ints_zero], p2⟩, ?_⟩
    have et : d.T = blank.data.toList ++ timeT d.known ++ blank.data.toList ++ [45, 10] := by simp [DS.T, ht, blank]
    rw [et]
    exact g13.trans g4
  | true =>
    rw [ht, if_pos rfl] at r3
    have q : hasAt s y.1 y.2 dashNl = false := by
      by_cases q : hasAt s y.1 y.2 dashNl = true
      · obtain ⟨_, R', e'⟩ := (hasAt_iff s y.1 y.2 dashNl hle).1 q
        rw [r3] at e'
        have hh : (d.tail ++ R).head? = (decDigits d.by_).head? := by
          unfold DS.tail
          rw [List.append_assoc]
          exact head_append (dig_ne _)
        rw [show d.tail ++ R = dashNl.data.toList ++ R' from e'] at hh
        have h45 : (decDigits d.by_).head? = some 45 := hh.symm
        have := dig_digits d.by_ 45 (List.mem_of_mem_head? h45)
        cases this
      · simpa using q
    rw [if_neg (by rw [q]; simp), if_neg (by rw [a3]; simp), p2]
    obtain ⟨b1, b2⟩ := spotB_of s n hn d hd ht y R hle a3 r3
    refine ⟨b1, ?_⟩
    have et : d.T = blank.data.toList ++ timeT d.known ++ blank.data.toList ++ d.tail := by simp [DS.T, ht, blank]
    rw [et]
    exact g13.trans b2

end Go.Proofs.YtaelaldmibgibaaGreatDoor

namespace Go.Proofs.YtaelaldmibgibaaGreatDoor
open Go.Lib

def bs (p : ByteArray) : Bs := p.data.toList
theorem bs_len (p : ByteArray) : (bs p).length = p.size := by unfold bs; rw [Array.length_toList]; rfl
theorem bs_inj {p q : ByteArray} (h : bs p = bs q) : p = q := by
  obtain ⟨⟨l⟩⟩ := p
  obtain ⟨⟨m⟩⟩ := q
  have : l = m := h
  rw [this]
theorem bs_extract (s : ByteArray) (a b : Nat) : bs (s.extract a b) = (rest s a).take (b - a) := by
  have h := extract_toList s a b
  have hp : (s.extract a b).toList = (s.extract a b).data.toList := by generalize s.extract a b = p; obtain ⟨⟨l⟩⟩ := p; simp
  rw [hp] at h
  exact h
theorem wordRun_bounds (s : ByteArray) (f : Nat) : ∀ a, a ≤ s.size → a ≤ wordRun s f a ∧ wordRun s f a ≤ s.size := by
  induction f with
  | zero => intro a h; exact ⟨Nat.le_refl _, h⟩
  | succ f ih =>
    intro a h
    rw [wordRun]
    split
    · rename_i h1
      split
      · have := ih (a + 1) (by omega); omega
      · omega
    · omega
theorem path_got (s : ByteArray) (a : Nat) (ha : a ≤ s.size) : Got s (a, false) (bs (pathText s a)) (pathAt s a, false) := by
  obtain ⟨h1, h2⟩ := wordRun_bounds s 13 a ha
  have hl := rest_len s a
  have e : bs (pathText s a) = (rest s a).take (pathAt s a - a) := bs_extract s a _
  have hz : (bs (pathText s a)).length = pathAt s a - a := by
    rw [e, List.length_take, hl]
    unfold pathAt
    omega
  refine ⟨rfl, ?_, ?_⟩
  · rw [hz]
    unfold pathAt
    simp only [Prod.mk.injEq, and_true]
    omega
  · show rest s a = _ ++ rest s (a + (bs (pathText s a)).length)
    rw [← rest_drop, hz, e, List.take_append_drop]
theorem wordRun_of (s : ByteArray) (t : Bs) : ∀ f a R, (∀ c ∈ t, c.toNat ≠ 32) → t.length < f → rest s a = t ++ 32 :: R → wordRun s f a = a + t.length := by
  induction t with
  | nil =>
    intro f a R _ hf e
    refine wordRun_end s f a fun h _ => ?_
    rw [List.nil_append, rest_at s a h] at e
    rw [show s.data.getD a 0 = s[a] from (Array.getElem_eq_getD (h := h) 0).symm, (List.cons.inj e).1]
    rfl
  | cons c t ih =>
    intro f a R hc hf e
    have h : a < s.size := rest_lt (by rw [e]; simp)
    rw [rest_at s a h] at e
    obtain ⟨e1, e2⟩ := List.cons.inj e
    cases f with
    | zero => simp at hf
    | succ f =>
      rw [wordRun_go s f a h (by rw [e1]; exact hc c (by simp)), ih f (a + 1) R (fun x hx => hc x (by simp [hx])) (by simpa using hf) e2]
      simp only [List.length_cons]
      omega
theorem pathByte_ne (c : UInt8) (h : pathByte c = true) : c.toNat ≠ 32 ∧ c.toNat ≠ 10 := by
  constructor
  · intro e
    have : c = 32 := UInt8.toNat_inj.1 e
    subst this
    cases h
  · intro e
    have : c = 10 := UInt8.toNat_inj.1 e
    subst this
    cases h
theorem path_of (s : ByteArray) (a : Nat) (p : ByteArray) (R : Bs) (hp : pathOk p = true) (e : rest s a = bs p ++ 32 :: R) : pathText s a = p ∧ pathAt s a = a + (bs p).length := by
  unfold pathOk at hp
  simp only [Bool.and_eq_true, decide_eq_true_eq, List.all_eq_true] at hp
  have hl := bs_len p
  have e1 : pathAt s a = a + (bs p).length := wordRun_of s (bs p) 13 a R (fun c hc => (pathByte_ne c (hp.2 c hc)).1) (by omega) e
  refine ⟨bs_inj ?_, e1⟩
  unfold pathText
  rw [bs_extract, e1, show a + (bs p).length - a = (bs p).length by omega, e, List.take_left]

theorem gaps_eq (s : ByteArray) (f : Nat) : ∀ m, gaps s f m = (((rest s m).take f).takeWhile (fun c => c != 10)).count 32 := by
  induction f with
  | zero => intro m; simp [gaps]
  | succ f ih =>
    intro m
    rw [gaps]
    by_cases h : m < s.size
    · rw [dif_pos h, rest_at s m h, List.take_succ_cons, List.takeWhile_cons]
      by_cases q : s[m].toNat = 10
      · have : s[m] = 10 := UInt8.toNat_inj.1 q
        rw [if_pos q, this]
        simp
      · have q' : (s[m] != 10) = true := by
          rw [bne_iff_ne]
          intro e
          rw [e] at q
          exact q rfl
        rw [if_neg q, if_pos q', ih, List.count_cons]
        by_cases q2 : s[m].toNat = 32
        · have : s[m] = 32 := UInt8.toNat_inj.1 q2
          rw [if_pos q2, this]
          simp [Nat.add_comm]
        · have : (s[m] == 32) = false := by
            rw [beq_eq_false_iff_ne]
            intro e
            rw [e] at q2
            exact q2 rfl
          rw [if_neg q2, this]
          simp
    · rw [dif_neg h, rest_end s m h]
      simp
def blanks (t : Bs) : Nat := (t.takeWhile (fun c => c != 10)).count 32
theorem lineB_eq (s : ByteArray) (a : Nat) : lineB s a = decide (2 ≤ blanks (rest s a)) := by
  unfold lineB blanks
  rw [gaps_eq, List.take_of_length_le (by rw [rest_len]; exact Nat.le_refl _)]
  exact decide_eq_decide.2 (by omega)
def noNl (t : Bs) : Prop := ∀ c ∈ t, (c != 10) = true
theorem blanks_append (t R : Bs) (h : noNl t) : blanks (t ++ R) = t.count 32 + blanks R := by
  unfold blanks
  rw [List.takeWhile_append_of_pos h, List.count_append]
theorem blanks_nl (R : Bs) : blanks (10 :: R) = 0 := by simp [blanks]
theorem noNl_append {t u : Bs} (h : noNl t) (g : noNl u) : noNl (t ++ u) := fun c hc => by
  rcases List.mem_append.1 hc with q | q
  · exact h c q
  · exact g c q
theorem isD_ne (c : UInt8) (h : isD c = true) : (c != 10) = true ∧ c ≠ 32 ∧ c ≠ 44 ∧ c ≠ 58 := by
  unfold isD at h
  simp only [decide_eq_true_eq] at h
  refine ⟨?_, ?_, ?_, ?_⟩
  · rw [bne_iff_ne]; rintro rfl; exact absurd h (by decide)
  · rintro rfl; exact absurd h (by decide)
  · rintro rfl; exact absurd h (by decide)
  · rintro rfl; exact absurd h (by decide)
theorem timeT_mem (l : List Nat) (c : UInt8) (h : c ∈ timeT l) : c = 44 ∨ isD c = true := by
  have key : ∀ (L : List Bs), (∀ t ∈ L, ∀ c ∈ t, isD c = true) → ∀ c ∈ sepBy 44 L, c = 44 ∨ isD c = true := by
    intro L hL c hc
    cases L with
    | nil => simp [sepBy] at hc
    | cons x L =>
      unfold sepBy at hc
      rcases List.mem_append.1 hc with q | q
      · exact .inr (hL x (by simp) c q)
      · obtain ⟨t, ht, hct⟩ := List.mem_flatten.1 q
        obtain ⟨y, hy, rfl⟩ := List.mem_map.1 ht
        rcases List.mem_cons.1 hct with rfl | q2
        · exact .inl rfl
        · exact .inr (hL y (by simp [hy]) c q2)
  refine key (l.map decDigits) ?_ c h
  intro t ht
  obtain ⟨v, _, rfl⟩ := List.mem_map.1 ht
  exact dig_digits v
theorem timeT_plain (l : List Nat) : noNl (timeT l) ∧ (timeT l).count 32 = 0 := by
  constructor
  · intro c hc
    rcases timeT_mem l c hc with rfl | q
    · rfl
    · exact (isD_ne c q).1
  · rw [List.count_eq_zero]
    intro hc
    rcases timeT_mem l 32 hc with q | q
    · cases q
    · cases q
theorem path_plain (p : ByteArray) (h : pathOk p = true) : noNl (bs p) ∧ (bs p).count 32 = 0 := by
  unfold pathOk at h
  simp only [Bool.and_eq_true, List.all_eq_true] at h
  constructor
  · intro c hc
    have := pathByte_ne c (h.2 c hc)
    rw [bne_iff_ne]
    rintro rfl
    exact this.2 rfl
  · rw [List.count_eq_zero]
    intro hc
    exact (pathByte_ne 32 (h.2 32 hc)).1 rfl
theorem line_rec (p : ByteArray) (d : DS) (R : Bs) (hp : pathOk p = true) : 2 ≤ blanks (bs p ++ (d.T ++ R)) := by
  obtain ⟨h1, h2⟩ := path_plain p hp
  obtain ⟨h3, h4⟩ := timeT_plain d.known
  have e : bs p ++ (d.T ++ R) = (bs p ++ ([32] ++ (timeT d.known ++ [32]))) ++ ((if d.there = true then d.tail else [45, 10]) ++ R) := by simp [DS.T]
  have hn : noNl (bs p ++ ([32] ++ (timeT d.known ++ [32]))) := noNl_append h1 (noNl_append (fun c hc => by simp at hc; subst hc; rfl) (noNl_append h3 (fun c hc => by simp at hc; subst hc; rfl)))
  rw [e, blanks_append _ _ hn]
  simp only [List.count_append]
  have : List.count (32 : UInt8) [32] = 1 := rfl
  omega

/-- one record: its path, and what is behind it -/
def recS (s : ByteArray) (n : Nat) (x : Nat × Bool) : SpR := spotS s n (pathAt s x.1, x.2 || !pathOk (pathText s x.1))
abbrev Rds := List (ByteArray × SpR)
/-- is the path not behind the last one? -/
def notBehind (L : Rds) (p : ByteArray) : Bool := match L.getLast? with
  | none => false
  | some y => !slt y.1 p
def recsS (s : ByteArray) (n : Nat) : Nat → Nat × Bool → Rds → (Nat × Bool) × Rds
  | 0, x, L => (x, L)
  | f + 1, x, L => if lineB s x.1 = true ∧ x.2 = false then recsS s n f ((recS s n x).st.1, (recS s n x).st.2 || notBehind L (pathText s x.1)) (L ++ [(pathText s x.1, recS s n x)]) else (x, L)
theorem recsS_no (s : ByteArray) (n f : Nat) (a : Nat) (L : Rds) : recsS s n f (a, true) L = ((a, true), L) := by
  cases f with
  | zero => rfl
  | succ f => rw [recsS, if_neg (by simp)]

abbrev Drs := List (ByteArray × DS)
def drsT (D : Drs) : Bs := (D.map (fun r => bs r.1 ++ r.2.T)).flatten
def isDrs (L : Rds) (D : Drs) : Prop := L.map (·.1) = D.map (·.1) ∧ ∀ (i : Nat) a b, L[i]? = some a → D[i]? = some b → a.2.is b.2
structure okDrs (n : Nat) (D : Drs) : Prop where
  paths : ∀ r ∈ D, pathOk r.1 = true
  oks : ∀ r ∈ D, r.2.ok n
  rise : D.Pairwise (fun x y => slt x.1 y.1 = true)
theorem drsT_snoc (D : Drs) (p : ByteArray) (d : DS) : drsT (D ++ [(p, d)]) = drsT D ++ (bs p ++ d.T) := by simp [drsT]
theorem drsT_cons (D : Drs) (p : ByteArray) (d : DS) : drsT ((p, d) :: D) = bs p ++ (d.T ++ drsT D) := by simp [drsT]
theorem spotS_no (s : ByteArray) (n : Nat) (x : Nat × Bool) (h : (spotS s n x).st.2 = false) (hx : x.1 ≤ s.size) : x.2 = false := by
  obtain ⟨d, _, _, g⟩ := spot_got s n x hx h
  exact g.1
theorem rec_got (s : ByteArray) (n : Nat) (x : Nat × Bool) (hx : x.1 ≤ s.size) (h : (recS s n x).st.2 = false) : x.2 = false ∧ pathOk (pathText s x.1) = true ∧ ∃ d : DS, d.ok n ∧ (recS s n x).is d ∧ Got s x (bs (pathText s x.1) ++ d.T) (recS s n x).st := by
  have hb := wordRun_bounds s 13 x.1 hx
  have h1 := spotS_no s n _ h hb.2
  simp only [Bool.or_eq_false_iff, Bool.not_eq_false'] at h1
  have g1 := Got.pair h1.1 (path_got s x.1 hx)
  have ex : (pathAt s x.1, x.2 || !pathOk (pathText s x.1)) = (pathAt s x.1, false) := by rw [h1.1, h1.2]; rfl
  obtain ⟨d, d1, d2, d3⟩ := spot_got s n _ hb.2 h
  refine ⟨h1.1, h1.2, d, d1, d2, ?_⟩
  refine g1.trans ?_
  have : Got s (pathAt s x.1, x.2 || !pathOk (pathText s x.1)) d.T (recS s n x).st := d3
  rw [ex] at this
  exact this
theorem isDrs_snoc {L : Rds} {D : Drs} (h : isDrs L D) (p : ByteArray) (r : SpR) (d : DS) (hr : r.is d) : isDrs (L ++ [(p, r)]) (D ++ [(p, d)]) := by
  have hl : L.length = D.length := by simpa using congrArg List.length h.1
  refine ⟨by simp [h.1], ?_⟩
  intro i a b ha hb
  by_cases hi : i < L.length
  · rw [List.getElem?_append_left hi] at ha
    rw [List.getElem?_append_left (by omega)] at hb
    exact h.2 i a b ha hb
  · rw [List.getElem?_append_right (by omega)] at ha hb
    have hi2 : i - L.length = 0 := by
      by_cases q : i - L.length = 0
      · exact q
      · rw [List.getElem?_eq_none (by simp; omega)] at ha
        cases ha
    rw [hi2] at ha
    rw [← hl, hi2] at hb
    simp at ha hb
    subst ha hb
    exact hr
theorem rise_snoc {D : Drs} {p : ByteArray} {d : DS} (h : D.Pairwise (fun x y => slt x.1 y.1 = true)) (hl : ∀ y, D.getLast? = some y → slt y.1 p = true) : (D ++ [(p, d)]).Pairwise (fun x y => slt x.1 y.1 = true) := by
  rw [List.pairwise_append]
  refine ⟨h, by simp, ?_⟩
  intro a ha b hb
  simp only [List.mem_singleton] at hb
  subst hb
  have hne : D ≠ [] := fun q => by rw [q] at ha; simp at ha
  have hlast := hl (D.getLast hne) (List.getLast?_eq_some_getLast hne)
  by_cases q : a = D.getLast hne
  · rw [q]; exact hlast
  · have e : D = D.dropLast ++ [D.getLast hne] := (List.dropLast_concat_getLast hne).symm
    rw [e] at ha h
    rw [List.pairwise_append] at h
    rcases List.mem_append.1 ha with r | r
    · exact slt_trans (h.2.2 a r _ (by simp)) hlast
    · simp only [List.mem_singleton] at r
      exact absurd r q
theorem last_is {L : Rds} {D : Drs} (h : isDrs L D) {p : ByteArray} (hb : notBehind L p = false) : ∀ y, D.getLast? = some y → slt y.1 p = true := by
  intro y hy
  have e : (L.map (·.1)).getLast? = (D.map (·.1)).getLast? := by rw [h.1]
  rw [List.getLast?_map, List.getLast?_map, hy] at e
  unfold notBehind at hb
  cases hq : L.getLast? with
  | none => rw [hq] at e; cases e
  | some z =>
    rw [hq] at e hb
    simp only [Option.map_some, Option.some.injEq] at e
    simp only [Bool.not_eq_false'] at hb
    rw [← e]
    exact hb
theorem recs_got (s : ByteArray) (n : Nat) (f : Nat) : ∀ (x : Nat × Bool) (L : Rds) (D : Drs), x.1 ≤ s.size → isDrs L D → okDrs n D → (recsS s n f x L).1.2 = false → ∃ D' : Drs, isDrs (recsS s n f x L).2 (D ++ D') ∧ okDrs n (D ++ D') ∧ Got s x (drsT D') (recsS s n f x L).1 := by
  induction f with
  | zero => intro x L D _ hi ho h; exact ⟨[], by simpa [recsS] using hi, by simpa using ho, Got.refl h⟩
  | succ f ih =>
    intro x L D hx hi ho h
    rw [recsS] at h ⊢
    by_cases hc : lineB s x.1 = true ∧ x.2 = false
    · rw [if_pos hc] at h ⊢
      have hno : ((recS s n x).st.2 || notBehind L (pathText s x.1)) = false := by
        cases q : ((recS s n x).st.2 || notBehind L (pathText s x.1)) with
        | false => rfl
        | true => rw [q, recsS_no] at h; cases h
      have hno2 := hno
      simp only [Bool.or_eq_false_iff] at hno2
      obtain ⟨h1, h2, d, d1, d2, g⟩ := rec_got s n x hx hno2.1
      have ho' : okDrs n (D ++ [(pathText s x.1, d)]) := by
        refine ⟨?_, ?_, rise_snoc ho.rise (last_is hi hno2.2)⟩
        · intro r hr
          rcases List.mem_append.1 hr with q | q
          · exact ho.paths r q
          · simp only [List.mem_singleton] at q; subst q; exact h2
        · intro r hr
          rcases List.mem_append.1 hr with q | q
          · exact ho.oks r q
          · simp only [List.mem_singleton] at q; subst q; exact d1
      have est : ((recS s n x).st.1, (recS s n x).st.2 || notBehind L (pathText s x.1)) = (recS s n x).st := Prod.ext rfl (by rw [hno, hno2.1])
      rw [est] at h ⊢
      obtain ⟨D', e1, e2, e3⟩ := ih (recS s n x).st _ _ (g.le hx) (isDrs_snoc hi (pathText s x.1) (recS s n x) d d2) ho' h
      refine ⟨(pathText s x.1, d) :: D', by simpa using e1, by simpa using e2, ?_⟩
      have := g.trans e3
      rw [drsT_cons]
      simpa using this
    · rw [if_neg hc] at h ⊢
      exact ⟨[], by simpa using hi, by simpa using ho, Got.refl h⟩

end Go.Proofs.YtaelaldmibgibaaGreatDoor

namespace Go.Proofs.YtaelaldmibgibaaGreatDoor
open Go.Lib

theorem Got.lt {s : ByteArray} {x y : Nat × Bool} {t : Bs} (h : Got s x t y) (ht : t ≠ []) : x.1 < y.1 := by
  have := List.length_pos_iff.2 ht
  rw [h.2.1]
  show x.1 < x.1 + t.length
  omega
theorem recs_of (s : ByteArray) (n : Nat) (hn : n ≤ 6) (D : Drs) : ∀ (f : Nat) (x : Nat × Bool) (L : Rds) (D0 : Drs) (R : Bs), x.1 ≤ s.size → x.2 = false → s.size - x.1 < f → isDrs L D0 → okDrs n (D0 ++ D) → rest s x.1 = drsT D ++ R → blanks R < 2 →
    isDrs (recsS s n f x L).2 (D0 ++ D) ∧ Got s x (drsT D) (recsS s n f x L).1 := by
  induction D with
  | nil =>
    intro f x L D0 R hx h hf hi ho e hR
    have hl : lineB s x.1 = false := by
      rw [lineB_eq, e]
      exact decide_eq_false (by show ¬ 2 ≤ blanks ([] ++ R); rw [List.nil_append]; omega)
    have : recsS s n f x L = (x, L) := by
      cases f with
      | zero => rfl
      | succ f => rw [recsS, if_neg (by rw [hl]; simp)]
    rw [this]
    exact ⟨by simpa using hi, Got.refl h⟩
  | cons r D ih =>
    obtain ⟨p, d⟩ := r
    intro f x L D0 R hx h hf hi ho e hR
    have hp : pathOk p = true := ho.paths (p, d) (by simp)
    have hd : d.ok n := ho.oks (p, d) (by simp)
    have e0 : rest s x.1 = bs p ++ (d.T ++ (drsT D ++ R)) := by rw [e, drsT_cons]; simp
    have hl : lineB s x.1 = true := by
      rw [lineB_eq, e0]
      exact decide_eq_true (line_rec p d _ hp)
    have e1 : rest s x.1 = bs p ++ 32 :: ((timeT d.known ++ (32 :: (if d.there = true then d.tail else [45, 10]))) ++ (drsT D ++ R)) := by rw [e0]; simp [DS.T]
    obtain ⟨q1, q2⟩ := path_of s x.1 p _ hp e1
    have ep : (pathAt s x.1, x.2 || !pathOk (pathText s x.1)) = (x.1 + (bs p).length, false) := by rw [q1, q2, h, hp]; rfl
    have e2 : rest s (x.1 + (bs p).length) = d.T ++ (drsT D ++ R) := rest_step e0
    have g1 := Got.of (s := s) h e0
    have hle := g1.le hx
    obtain ⟨i1, g2⟩ := spot_of s n hn d hd (x.1 + (bs p).length, false) (drsT D ++ R) hle rfl e2
    have er : recS s n x = spotS s n (x.1 + (bs p).length, false) := by unfold recS; rw [ep]
    rw [← er] at i1 g2
    have g12 := g1.trans g2
    have hst : (recS s n x).st.2 = false := by rw [g2.2.1]
    have hnb : notBehind L p = false := by
      unfold notBehind
      cases hq : L.getLast? with
      | none => rfl
      | some z =>
        have e : (L.map (·.1)).getLast? = (D0.map (·.1)).getLast? := by rw [hi.1]
        rw [List.getLast?_map, List.getLast?_map, hq] at e
        cases hq2 : D0.getLast? with
        | none => rw [hq2] at e; cases e
        | some y =>
          rw [hq2] at e
          simp only [Option.map_some, Option.some.injEq] at e
          have hr := ho.rise
          rw [List.pairwise_append] at hr
          have := hr.2.2 y (List.mem_of_getLast? hq2) (p, d) (by simp)
          simp only [Bool.not_eq_false']
          rw [e]
          exact this
    cases f with
    | zero => omega
    | succ f =>
      rw [recsS, if_pos ⟨hl, h⟩, q1, hnb, Bool.or_false]
      have hne : bs p ++ d.T ≠ [] := by simp [DS.T]
      have hlt := g12.lt hne
      have hsz := g12.le hx
      have hf' : s.size - (recS s n x).st.1 < f := by omega
      have e3 : rest s (recS s n x).st.1 = drsT D ++ R := (g12.next (by rw [e0]; simp)).2
      obtain ⟨j1, j2⟩ := ih f (recS s n x).st (L ++ [(p, recS s n x)]) (D0 ++ [(p, d)]) R (g12.le hx) hst hf' (isDrs_snoc hi p _ d i1) (by simpa using ho) e3 hR
      refine ⟨by simpa using j1, ?_⟩
      rw [drsT_cons]
      have := g12.trans j2
      simpa using this

def replicaW : ByteArray := ⟨#[114, 101, 112, 108, 105, 99, 97, 32]⟩
def reunionW : ByteArray := ⟨#[114, 101, 117, 110, 105, 111, 110, 32]⟩
def sumW : ByteArray := ⟨#[115, 117, 109, 32]⟩
/-- a replica: where the reader stands behind it, its common time, its records -/
def repS (s : ByteArray) (n : Nat) (x : Nat × Bool) : (Nat × Bool) × List Int × Rds :=
  ((recsS s n (s.size - (wantS s newl (timeS s n (wantS s replicaW x)).1).1 + 1) (wantS s newl (timeS s n (wantS s replicaW x)).1) []).1, (timeS s n (wantS s replicaW x)).2, (recsS s n (s.size - (wantS s newl (timeS s n (wantS s replicaW x)).1).1 + 1) (wantS s newl (timeS s n (wantS s replicaW x)).1) []).2)
def repsS (s : ByteArray) (n : Nat) : Nat → Nat × Bool → (Nat × Bool) × List (List Int × Rds)
  | 0, x => (x, [])
  | k + 1, x => ((repS s n (repsS s n k x).1).1, (repsS s n k x).2 ++ [(repS s n (repsS s n k x).1).2])
/-- a replica, without a reader -/
structure DR where
  com : List Nat
  recs : Drs
def DR.T (d : DR) : Bs := bs replicaW ++ (timeT d.com ++ (10 :: drsT d.recs))
structure DR.ok (n : Nat) (d : DR) : Prop where
  cl : d.com.length = n
  cb : ∀ v ∈ d.com, v ≤ 1000000000
  recs : okDrs n d.recs
def isDR (r : List Int × Rds) (d : DR) : Prop := r.1 = ints d.com ∧ isDrs r.2 d.recs
def repsT (l : List DR) : Bs := (l.map DR.T).flatten
def isDRs (l : List (List Int × Rds)) (m : List DR) : Prop := l.length = m.length ∧ ∀ (i : Nat) a b, l[i]? = some a → m[i]? = some b → isDR a b
theorem recsS_no2 (s : ByteArray) (n f : Nat) (x : Nat × Bool) (L : Rds) (h : (recsS s n f x L).1.2 = false) : x.2 = false := by
  obtain ⟨a, no⟩ := x
  cases no with
  | false => rfl
  | true => rw [recsS_no] at h; cases h
theorem repS_no (s : ByteArray) (n : Nat) (x : Nat × Bool) (h : (repS s n x).1.2 = false) : x.2 = false := want_no _ _ _ (time_no _ _ _ (want_no _ _ _ (recsS_no2 _ _ _ _ _ h)))
theorem isDrs_nil : isDrs [] [] := ⟨rfl, fun i a b ha _ => by simp at ha⟩
theorem okDrs_nil (n : Nat) : okDrs n [] := ⟨by simp, by simp, List.Pairwise.nil⟩
theorem rep_got (s : ByteArray) (n : Nat) (x : Nat × Bool) (hx : x.1 ≤ s.size) (h : (repS s n x).1.2 = false) : ∃ d : DR, d.ok n ∧ isDR (repS s n x).2 d ∧ Got s x d.T (repS s n x).1 := by
  unfold repS at h ⊢
  simp only at h ⊢
  have a1 := recsS_no2 _ _ _ _ _ h
  have a2 := want_no _ _ _ a1
  have a3 := time_no _ _ _ a2
  have g1 := want_got s replicaW x hx a3
  obtain ⟨l, l1, l2, l3, g2⟩ := time_got s n _ (g1.le hx) a2
  have g12 := g1.trans g2
  have g3 := want_got s newl _ (g12.le hx) a1
  have g13 := g12.trans g3
  obtain ⟨D, i1, i2, g4⟩ := recs_got s n _ _ [] [] (g13.le hx) isDrs_nil (okDrs_nil n) h
  rw [List.nil_append] at i1 i2
  refine ⟨⟨l, D⟩, ⟨l1, l3, i2⟩, ⟨l2, i1⟩, ?_⟩
  have := g13.trans g4
  have e : DR.T ⟨l, D⟩ = replicaW.data.toList ++ timeT l ++ newl.data.toList ++ drsT D := by simp [DR.T, bs, newl]
  rw [e]
  exact this
theorem rep_of (s : ByteArray) (n : Nat) (hn : n ≤ 6) (d : DR) (hd : d.ok n) (x : Nat × Bool) (R : Bs) (hx : x.1 ≤ s.size) (h : x.2 = false) (e : rest s x.1 = d.T ++ R) (hR : blanks R < 2) : isDR (repS s n x).2 d ∧ Got s x d.T (repS s n x).1 := by
  have e0 : rest s x.1 = replicaW.data.toList ++ (timeT d.com ++ (10 :: (drsT d.recs ++ R))) := by rw [e]; simp [DR.T, bs]
  obtain ⟨g1, a1, r1⟩ := want_on replicaW hx h e0
  obtain ⟨p2, g2, a2, r2⟩ := time_on hd.cl (g1.le hx) a1 hd.cb r1 (noDig_cons 10 _ rfl)
  have g12 := g1.trans g2
  obtain ⟨g3, a3, r3⟩ := want_on newl (g12.le hx) a2 r2
  have g13 := g12.trans g3
  have hle := g13.le hx
  obtain ⟨j1, j2⟩ := recs_of s n hn d.recs _ _ [] [] R hle a3 (Nat.lt_succ_self _) isDrs_nil (by simpa using hd.recs) r3 hR
  rw [List.nil_append] at j1
  refine ⟨⟨p2, j1⟩, ?_⟩
  have := g13.trans j2
  have e : d.T = replicaW.data.toList ++ timeT d.com ++ newl.data.toList ++ drsT d.recs := by simp [DR.T, bs, newl]
  rw [e]
  exact this
theorem isDRs_snoc {l : List (List Int × Rds)} {m : List DR} (h : isDRs l m) (r : List Int × Rds) (d : DR) (hr : isDR r d) : isDRs (l ++ [r]) (m ++ [d]) := by
  refine ⟨by simp [h.1], ?_⟩
  intro i a b ha hb
  by_cases hi : i < l.length
  · rw [List.getElem?_append_left hi] at ha
    rw [List.getElem?_append_left (by rw [← h.1]; exact hi)] at hb
    exact h.2 i a b ha hb
  · rw [List.getElem?_append_right (by omega)] at ha
    rw [List.getElem?_append_right (by rw [← h.1]; omega)] at hb
    have hi2 : i - l.length = 0 := by
      by_cases q : i - l.length = 0
      · exact q
      · rw [List.getElem?_eq_none (by simp; omega)] at ha
        cases ha
    rw [hi2] at ha
    rw [← h.1, hi2] at hb
    simp at ha hb
    subst ha hb
    exact hr
theorem reps_got (s : ByteArray) (n : Nat) (k : Nat) (x : Nat × Bool) (hx : x.1 ≤ s.size) (h : (repsS s n k x).1.2 = false) : ∃ m : List DR, m.length = k ∧ (∀ d ∈ m, d.ok n) ∧ isDRs (repsS s n k x).2 m ∧ Got s x (repsT m) (repsS s n k x).1 := by
  induction k with
  | zero => exact ⟨[], rfl, by simp, ⟨rfl, fun i a b ha _ => by simp [repsS] at ha⟩, Got.refl h⟩
  | succ k ih =>
    have h1 := repS_no s n _ h
    obtain ⟨m, m1, m2, m3, g⟩ := ih h1
    obtain ⟨d, d1, d2, g2⟩ := rep_got s n _ (g.le hx) h
    refine ⟨m ++ [d], by simp [m1], ?_, isDRs_snoc m3 _ d d2, ?_⟩
    · intro e he
      rcases List.mem_append.1 he with q | q
      · exact m2 e q
      · simp only [List.mem_singleton] at q; subst q; exact d1
    · have := g.trans g2
      have e : repsT (m ++ [d]) = repsT m ++ d.T := by simp [repsT]
      rw [e]
      exact this
theorem repsT_cons (d : DR) (m : List DR) : repsT (d :: m) = d.T ++ repsT m := by simp [repsT]
theorem blanks_rep (d : DR) (R : Bs) : blanks (d.T ++ R) < 2 := by
  obtain ⟨h3, h4⟩ := timeT_plain d.com
  have e : d.T ++ R = (bs replicaW ++ timeT d.com) ++ (10 :: (drsT d.recs ++ R)) := by simp [DR.T]
  have hn : noNl (bs replicaW) := by unfold noNl; decide
  rw [e, blanks_append _ _ (noNl_append hn h3), blanks_nl, List.count_append, h4]
  have : (bs replicaW).count 32 = 1 := by decide
  omega
theorem reps_of (s : ByteArray) (n : Nat) (hn : n ≤ 6) (R : Bs) (hR : blanks R < 2) (m2 : List DR) : ∀ (m : List DR) (k : Nat) (x : Nat × Bool), x.1 ≤ s.size → (∀ d ∈ m2, d.ok n) → isDRs (repsS s n k x).2 m → Got s x (repsT m) (repsS s n k x).1 → rest s x.1 = repsT m ++ (repsT m2 ++ R) →
    isDRs (repsS s n (k + m2.length) x).2 (m ++ m2) ∧ Got s x (repsT (m ++ m2)) (repsS s n (k + m2.length) x).1 := by
  induction m2 with
  | nil => intro m k x hx _ hi g e; simpa using ⟨hi, g⟩
  | cons d m2 ih =>
    intro m k x hx hok hi g e
    obtain ⟨a1, r1⟩ := g.next e
    have r2 : rest s (repsS s n k x).1.1 = d.T ++ (repsT m2 ++ R) := by rw [r1, repsT_cons]; simp
    have hb : blanks (repsT m2 ++ R) < 2 := by
      cases m2 with
      | nil => simpa [repsT] using hR
      | cons d2 m2 => rw [repsT_cons, List.append_assoc]; exact blanks_rep d2 _
    obtain ⟨j1, j2⟩ := rep_of s n hn d (hok d (by simp)) _ _ (g.le hx) a1 r2 hb
    have e1 : repsT (m ++ [d]) = repsT m ++ d.T := by simp [repsT]
    have := ih (m ++ [d]) (k + 1) x hx (fun q hq => hok q (by simp [hq])) (isDRs_snoc hi _ d j1) (by rw [e1]; exact g.trans j2) (by rw [e, e1, repsT_cons]; simp)
    rw [show k + (d :: m2).length = k + 1 + m2.length by simp; omega]
    simpa using this

end Go.Proofs.YtaelaldmibgibaaGreatDoor

namespace Go.Proofs.YtaelaldmibgibaaGreatDoor
open Go.Lib

def ofBs (l : Bs) : ByteArray := ⟨l.toArray⟩
theorem bs_ofBs (l : Bs) : bs (ofBs l) = l := by simp [bs, ofBs]
theorem ofBs_bs (s : ByteArray) : ofBs (bs s) = s := bs_inj (bs_ofBs _)
theorem ofBs_size (l : Bs) : (ofBs l).size = l.length := by rw [← bs_len, bs_ofBs]
def sumL (l : Bs) : Nat := sumTo (ofBs l) l.length
theorem sumL_bs (s : ByteArray) : sumL (bs s) = sumTo s s.size := by unfold sumL; rw [ofBs_bs, bs_len]
theorem bs_append (a b : ByteArray) : bs (a ++ b) = bs a ++ bs b := by simp [bs]
theorem bs_dig1 (n : Nat) : bs (dig1 n) = [UInt8.ofNat (48 + n % 10)] := by
  have key : ∀ k : Fin 10, bs ((⟨#[48, 49, 50, 51, 52, 53, 54, 55, 56, 57]⟩ : ByteArray).extract k.val (k.val + 1)) = [UInt8.ofNat (48 + k.val)] := by
    intro k
    rw [bs_extract]
    unfold rest
    revert k
    decide
  exact key ⟨n % 10, Nat.mod_lt _ (by omega)⟩
theorem bs_decF (f : Nat) : ∀ n, n < f → bs (decF f n) = decDigits n := by
  induction f with
  | zero => intro n h; omega
  | succ f ih =>
    intro n h
    rw [decF]
    by_cases h10 : n < 10
    · rw [if_pos h10, bs_dig1, dig_small h10, Nat.mod_eq_of_lt h10]
    · rw [if_neg h10, bs_append, ih (n / 10) (by omega), bs_dig1, dig_big h10]

/-- the text of a net, but for its last line -/
def bodyT (m : List DR) : Bs := bs reunionW ++ (decDigits m.length ++ (10 :: repsT m))
def lastT (l : Bs) : Bs := bs sumW ++ (decDigits (sumL l) ++ [10])
def packT (m : List DR) : Bs := bodyT m ++ lastT (bodyT m)
structure okNet (m : List DR) : Prop where
  n1 : 1 ≤ m.length
  n6 : m.length ≤ 6
  oks : ∀ d ∈ m, d.ok m.length

def headS (s : ByteArray) : Nat × Bool := wantS s newl (numS s (wantS s reunionW (0, false)))
def headN (s : ByteArray) : Nat := numVal s (wantS s reunionW (0, false)).1
/-- all lines but the last one: where the reader stands, what it read -/
def allS (s : ByteArray) : (Nat × Bool) × List (List Int × Rds) := repsS s (headN s) (headN s) (headS s)
def headOk (s : ByteArray) : Bool := !(headS s).2 && (decide (1 ≤ headN s) && decide (headN s ≤ 6))
def textOk (s : ByteArray) : Bool := headOk s && (!(allS s).1.2 && (rest s (allS s).1.1 == lastT (bs (s.extract 0 (allS s).1.1))))
theorem rest_zero (s : ByteArray) : rest s 0 = bs s := rfl
theorem text_got (s : ByteArray) (h : textOk s = true) : ∃ m : List DR, okNet m ∧ m.length = headN s ∧ bs s = packT m ∧ isDRs (allS s).2 m := by
  unfold textOk headOk at h
  simp only [Bool.and_eq_true, Bool.not_eq_true', decide_eq_true_eq, beq_iff_eq] at h
  obtain ⟨⟨h1, h2, h3⟩, h4, h5⟩ := h
  have a2 := want_no _ _ _ h1
  have a3 := num_no _ _ a2
  have g1 := want_got s reunionW (0, false) (Nat.zero_le _) a3
  obtain ⟨g2, v2⟩ := num_got s _ a2
  have g12 := g1.trans g2
  have g3 := want_got s newl _ (g12.le (Nat.zero_le _)) h1
  have g13 := g12.trans g3
  obtain ⟨m, m1, m2, m3, g4⟩ := reps_got s (headN s) (headN s) (headS s) (g13.le (Nat.zero_le _)) h4
  have g14 := g13.trans g4
  refine ⟨m, ⟨by omega, by omega, by rw [m1]; exact m2⟩, m1, ?_, m3⟩
  have e := g14.2.2
  have eb : reunionW.data.toList ++ decDigits (numVal s (wantS s reunionW (0, false)).1) ++ newl.data.toList ++ repsT m = bodyT m := by
    unfold bodyT
    rw [m1]
    simp [bs, newl, headN]
  rw [eb] at e g14
  have ep : (allS s).1.1 = (bodyT m).length := by
    have := g14.2.1
    unfold allS
    rw [this]
    simp
  rw [show (0 : Nat) + (bodyT m).length = (allS s).1.1 by rw [ep]; omega] at e
  have e0 : bs s = bodyT m ++ rest s (allS s).1.1 := e
  have eh : bs (s.extract 0 (allS s).1.1) = bodyT m := by
    rw [bs_extract, rest_zero, e0, ep, Nat.sub_zero, List.take_left]
  rw [e0, h5, eh]
  rfl
theorem blanks_last (l : Bs) : blanks (lastT l) < 2 := by
  have e : lastT l = (bs sumW ++ decDigits (sumL l)) ++ (10 :: []) := by simp [lastT]
  have h1 : noNl (bs sumW) := by unfold noNl; decide
  have h2 : noNl (decDigits (sumL l)) := fun c hc => (isD_ne c (dig_digits _ c hc)).1
  have h3 : (decDigits (sumL l)).count 32 = 0 := by
    rw [List.count_eq_zero]
    intro hc
    exact (isD_ne 32 (dig_digits _ _ hc)).2.1 rfl
  rw [e, blanks_append _ _ (noNl_append h1 h2), blanks_nl, List.count_append, h3]
  have : (bs sumW).count 32 = 1 := by decide
  omega
theorem text_of (s : ByteArray) (m : List DR) (hm : okNet m) (e : bs s = packT m) : textOk s = true ∧ headN s = m.length ∧ isDRs (allS s).2 m := by
  have hn := hm.n1
  have hn6 := hm.n6
  have e0 : rest s 0 = reunionW.data.toList ++ (decDigits m.length ++ (10 :: (repsT m ++ lastT (bodyT m)))) := by
    rw [rest_zero, e]
    simp [packT, bodyT, bs]
  obtain ⟨g1, a1, r1⟩ := want_on (x := (0, false)) reunionW (Nat.zero_le _) rfl e0
  obtain ⟨p2, g2, a2, r2⟩ := num_on a1 r1 (by omega) (noDig_cons 10 _ rfl)
  have g12 := g1.trans g2
  obtain ⟨g3, a3, r3⟩ := want_on newl (g12.le (Nat.zero_le _)) a2 r2
  have g13 := g12.trans g3
  have hN : headN s = m.length := p2
  have hle : (headS s).1 ≤ s.size := g13.le (Nat.zero_le _)
  have g0 : Got s (headS s) (repsT []) (repsS s m.length 0 (headS s)).1 := Got.refl a3
  obtain ⟨j1, j2⟩ := reps_of s m.length hn6 (lastT (bodyT m)) (blanks_last _) m [] 0 (headS s) hle hm.oks ⟨rfl, fun i a b ha _ => by simp [repsS] at ha⟩ g0 (by rw [show rest s (headS s).1 = _ from r3]; simp [repsT])
  rw [List.nil_append, Nat.zero_add] at j1 j2
  have ea : allS s = repsS s m.length m.length (headS s) := by unfold allS; rw [hN]
  rw [← ea] at j1 j2
  refine ⟨?_, hN, j1⟩
  have g14 := g13.trans j2
  have eb : reunionW.data.toList ++ decDigits m.length ++ newl.data.toList ++ repsT m = bodyT m := by simp [bodyT, bs, newl]
  rw [eb] at g14
  have ep : (allS s).1.1 = (bodyT m).length := by rw [g14.2.1]; simp
  have hno : (allS s).1.2 = false := by rw [g14.2.1]
  have er : rest s (allS s).1.1 = lastT (bodyT m) := (g14.next (by rw [rest_zero, e]; rfl)).2
  have eh : bs (s.extract 0 (allS s).1.1) = bodyT m := by
    rw [bs_extract, rest_zero, e, ep, Nat.sub_zero]
    unfold packT
    rw [List.take_left]
  unfold textOk headOk
  rw [hno, er, eh, hN]
  have : (headS s).2 = false := a3
  rw [this]
  simp
  omega

end Go.Proofs.YtaelaldmibgibaaGreatDoor
