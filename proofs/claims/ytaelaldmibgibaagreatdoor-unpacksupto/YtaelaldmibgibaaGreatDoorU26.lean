/- The document's text: a number. -/
import Derived.Test.YtaelaldmibgibaaGreatDoorU25

set_option linter.unusedVariables false
set_option linter.unusedSimpArgs false

namespace Go.Proofs.YtaelaldmibgibaaGreatDoor
open Go.RowKit

/-- the digits that follow, at most so many of them: where they end, what they say -/
def numRun (s : ByteArray) : Nat → Nat → Nat → Nat × Nat
  | 0, m, n => (m, n)
  | f + 1, m, n => if h : m < s.size then (if 48 ≤ s[m].toNat ∧ s[m].toNat ≤ 57 then numRun s f (m + 1) (10 * n + s[m].toNat - 48) else (m, n)) else (m, n)
theorem numRun_go (s : ByteArray) (f m n : Nat) (h : m < s.size) (hd : 48 ≤ s[m].toNat ∧ s[m].toNat ≤ 57) : numRun s (f + 1) m n = numRun s f (m + 1) (10 * n + s[m].toNat - 48) := by
  rw [numRun, dif_pos h, if_pos hd]
theorem numRun_end (s : ByteArray) (f m n : Nat) (h : m < s.size → f ≠ 0 → ¬ (48 ≤ (s.data.getD m 0).toNat ∧ (s.data.getD m 0).toNat ≤ 57)) : numRun s f m n = (m, n) := by
  cases f with
  | zero => rfl
  | succ f =>
    rw [numRun]
    split
    · next hm =>
      have e : s.data.getD m 0 = s[m] := (Array.getElem_eq_getD (h := hm) 0).symm
      have := h hm (by omega)
      rw [e] at this
      rw [if_neg this]
    · rfl
def numBad (s : ByteArray) (a : Nat) (r : Nat × Nat) : Bool := r.1 == a || (decide (1000000000 < r.2) || ((s.data.getD a 0).toNat == 48 && decide (a + 1 < r.1)))
def numAt (s : ByteArray) (a : Nat) : Nat := (numRun s 11 a 0).1
def numNo (s : ByteArray) (a : Nat) : Bool := numBad s a (numRun s 11 a 0)
def numVal (s : ByteArray) (a : Nat) : Nat := if numNo s a = true then 0 else (numRun s 11 a 0).2
theorem pow_step (n k d : Nat) (h : n < 10 ^ k) (h1 : 48 ≤ d) (h2 : d ≤ 57) : 10 * n + d - 48 < 10 ^ (k + 1) := by rw [Nat.pow_succ]; omega
theorem pow_small (n k : Nat) (h : n < 10 ^ k) (hk : k ≤ 11) : n < 100000000000 := Nat.lt_of_lt_of_le h (Nat.le_trans (Nat.pow_le_pow_right (by omega) hk) (by decide))

set_option maxRecDepth 100000 in
set_option maxHeartbeats 4000000 in
theorem number_any (b : Nat) (s : ByteArray) (a : Nat) (no : Bool) (w : World) (h : Rd w b s a no) :
    Calls Tryz.prog 51 #[.pointer (some ⟨b, 0, none⟩)] w fun e w' => e = .returned (.int .i64 (numVal s a)) ∧ Rd w' b s (numAt s a) (no || numNo s a) ∧ Fr (fun k => k = b) w w' := by
  have c1 := h.c1
  have H := hide h
  have hs := h.hs
  have ha := h.ha
  clear h
  go_enter Tryz.func51, Tryz.ntmps51
  go_wp2
  clear c1
  go_loopw [4] (fun v wr => ∃ m n : Nat, a ≤ m ∧ m ≤ a + 11 ∧ v = .int .i64 n ∧ Hid (n < 10 ^ (m - a)) ∧ Hid (Rd wr b s m no) ∧ Hid (Fr (fun k => k = b) w wr) ∧ Hid (numRun s 11 a 0 = numRun s (11 - (m - a)) m n)) (fun _ wr => a + 11 - (intOf (cv wr b 1)).toNat)
  case atStart => exact ⟨a, 0, by omega, by omega, rfl, by unfold Hid; simp, H, Fr.refl _ _, by unfold Hid; simp⟩
  case round =>
    obtain ⟨m, n, h1, h2, rfl, hp, hR, hF, hE⟩ := hrel
    have c0 := hR.out.c0
    have c1 := hR.out.c1
    have c2 := hR.out.c2
    have f1 := hR.out.fz 1
    have f2 := hR.out.fz 2
    have hm := hR.out.ha
    have hn := pow_small n (m - a) hp.out (by omega)
    have hcv : cv wr b 1 = .int .i64 m := by simp [cv, c1]
    clear H
    by_cases hgo : ∃ hx : m < s.size, (48 ≤ s[m].toNat ∧ s[m].toNat ≤ 57) ∧ m - a < 11
    · obtain ⟨hx, ⟨g1, g2⟩, g3⟩ := hgo
      have d1 : decide ((m : Int) < s.size) = true := by simp; omega
      have d2 : decide ((48 : Int) ≤ (s[m].toNat : Int)) = true := by simp; omega
      have d3 : decide ((s[m].toNat : Int) ≤ 57) = true := by simp; omega
      have d4 : decide ((m : Int) - (a : Int) < 11) = true := by simp; omega
      have E' : Hid (numRun s 11 a 0 = numRun s (11 - (m + 1 - a)) (m + 1) (10 * n + s[m].toNat - 48)) := by
        refine hE.out.trans ?_
        rw [show 11 - (m - a) = (11 - (m + 1 - a)) + 1 by omega]
        exact numRun_go s _ m n hx ⟨g1, g2⟩
      have P' : Hid (10 * n + s[m].toNat - 48 < 10 ^ (m + 1 - a)) := by
        have := pow_step n (m - a) _ hp.out g1 g2
        rwa [show m - a + 1 = m + 1 - a by omega] at this
      have R' : Hid (∀ q, Rd ((wr.drewN q).setCell ⟨b, 1, none⟩ (.int .i64 ((m : Int) + 1))) b s (m + 1) no) := fun q => by
        have := (hR.out.keep (w' := wr.drewN q) rfl).setAt (m + 1) (by omega)
        rwa [Int.natCast_add] at this
      have F' : Hid (∀ q, Fr (fun k => k = b) w ((wr.drewN q).setCell ⟨b, 1, none⟩ (.int .i64 ((m : Int) + 1)))) := fun q => (hF.out.drewN q).setCell (.inl rfl) _
      have M' : Hid (∀ q, cv ((wr.drewN q).setCell ⟨b, 1, none⟩ (.int .i64 ((m : Int) + 1))) b 1 = .int .i64 ((m + 1 : Nat) : Int)) := fun q => by simp only [cv, (R'.out q).c1, Option.getD_some]
      clear hE hp hR hF
      go_wp2_with fail
      go_quiet (fail)
      go_wp2
      go_quiet (fail)
      go_wp2
      go_roundw
      case rel => exact ⟨m + 1, _, by omega, by omega, by congr 1; omega, P', R'.out _, F'.out _, E'⟩
      case measure => rw [M'.out, hcv]; simp [intOf]; omega
    · have E : Hid (numRun s 11 a 0 = (m, n)) := by
        refine hE.out.trans (numRun_end s _ m n fun hx hf hd => hgo ⟨hx, ?_, by omega⟩)
        have e : s.data.getD m 0 = s[m] := (Array.getElem_eq_getD (h := hx) 0).symm
        rwa [e] at hd
      have A : Hid (numAt s a = m) := by unfold Hid numAt; rw [E.out]
      have NB : Hid (numNo s a = numBad s a (m, n)) := by unfold Hid numNo; rw [E.out]
      have VY : Hid (numBad s a (m, n) = true → numVal s a = 0) := fun q => by unfold numVal; rw [NB.out, if_pos q]
      have VN : Hid (numBad s a (m, n) = false → numVal s a = n) := fun q => by unfold numVal; rw [NB.out, if_neg (by rw [q]; simp), E.out]
      have RY : Hid (∀ q, numBad s a (m, n) = true → Rd ((wr.drewN q).setCell ⟨b, 2, none⟩ (.bool true)) b s (numAt s a) (no || numNo s a)) := fun q e => by
        rw [A.out, NB.out, e, Bool.or_true]
        exact (hR.out.keep (w' := wr.drewN q) rfl).setNo true
      have RN : Hid (∀ q, numBad s a (m, n) = false → Rd (wr.drewN q) b s (numAt s a) (no || numNo s a)) := fun q e => by
        rw [A.out, NB.out, e, Bool.or_false]
        exact hR.out.keep rfl
      have FY : Hid (∀ q, Fr (fun k => k = b) w ((wr.drewN q).setCell ⟨b, 2, none⟩ (.bool true))) := fun q => (hF.out.drewN q).setCell (.inl rfl) _
      have FN : Hid (∀ q, Fr (fun k => k = b) w (wr.drewN q)) := fun q => hF.out.drewN q
      have how : (decide (m < s.size) = false) ∨ ∃ hx : m < s.size, decide (m < s.size) = true ∧ ((decide ((48 : Int) ≤ (s[m].toNat : Int)) = false ∧ decide (48 ≤ s[m].toNat) = false) ∨
          ((decide ((48 : Int) ≤ (s[m].toNat : Int)) = true ∧ decide (48 ≤ s[m].toNat) = true) ∧ ((decide ((s[m].toNat : Int) ≤ 57) = false ∧ decide (s[m].toNat ≤ 57) = false) ∨ ((decide ((s[m].toNat : Int) ≤ 57) = true ∧ decide (s[m].toNat ≤ 57) = true) ∧ decide ((m : Int) - (a : Int) < 11) = false)))) := by
        by_cases hx : m < s.size
        · refine .inr ⟨hx, by simp; omega, ?_⟩
          by_cases g1 : 48 ≤ s[m].toNat
          · refine .inr ⟨⟨by simp; omega, by simp; omega⟩, ?_⟩
            by_cases g2 : s[m].toNat ≤ 57
            · refine .inr ⟨⟨by simp; omega, by simp; omega⟩, ?_⟩
              have : ¬ (m - a < 11) := fun g3 => hgo ⟨hx, ⟨g1, g2⟩, g3⟩
              simp; omega
            · exact .inl ⟨by simp; omega, by simp; omega⟩
          · exact .inl ⟨by simp; omega, by simp; omega⟩
        · exact .inl (by simp; omega)
      have HOW := hide how
      clear how hgo hE hp hR hF A NB E hcv
      by_cases t1 : m = a
      · have B : Hid (numBad s a (m, n) = true) := by unfold Hid numBad; simp [t1]
        have VY' := hide (VY.out B.out)
        have RY' : Hid (∀ q, _) := fun q => RY.out q B.out
        clear VY VN RN RY B FN
        have d5 : ((m : Int) == (a : Int)) = true := by simp [t1]
        clear t1
        rcases HOW.out with x1 | ⟨hx, x1, ⟨x2, y2⟩ | ⟨⟨x2, y2⟩, ⟨x3, y3⟩ | ⟨⟨x3, y3⟩, x4⟩⟩⟩
        all_goals
          clear HOW
          go_wp2_with fail
          go_quiet (fail)
          go_wp2
          go_ret
          exact ⟨by rw [VY'.out]; rfl, RY'.out _, FY.out _⟩
      · have hxa : a < s.size := by omega
        have ea : s.data.getD a 0 = s[a] := (Array.getElem_eq_getD (h := hxa) 0).symm
        have d5 : ((m : Int) == (a : Int)) = false := by simp; omega
        have b0 : (m == a) = false := by simp [t1]
        by_cases t2 : 1000000000 < n
        · have B : Hid (numBad s a (m, n) = true) := by unfold Hid numBad; simp [t2]
          have VY' := hide (VY.out B.out)
          have RY' : Hid (∀ q, _) := fun q => RY.out q B.out
          have d6 : decide ((1000000000 : Int) < (n : Int)) = true := by simp; omega
          clear VY VN RN RY B FN b0 ea
          rcases HOW.out with x1 | ⟨hx, x1, ⟨x2, y2⟩ | ⟨⟨x2, y2⟩, ⟨x3, y3⟩ | ⟨⟨x3, y3⟩, x4⟩⟩⟩
          all_goals
            clear HOW
            go_wp2_with fail
            go_quiet (fail)
            go_wp2
            go_ret
            exact ⟨by rw [VY'.out]; rfl, RY'.out _, FY.out _⟩
        · have d6 : decide ((1000000000 : Int) < (n : Int)) = false := by simp; omega
          by_cases t3 : s[a].toNat = 48
          · have d7 : ((s[a].toNat : Int) == 48) = true := by simp [t3]
            by_cases t4 : a + 1 < m
            · have B : Hid (numBad s a (m, n) = true) := by unfold Hid numBad; rw [ea]; simp [t3, t4]
              have VY' := hide (VY.out B.out)
              have RY' : Hid (∀ q, _) := fun q => RY.out q B.out
              have d8 : decide ((a : Int) + 1 < (m : Int)) = true := by simp; omega
              clear VY VN RN RY B FN b0 ea
              rcases HOW.out with x1 | ⟨hx, x1, ⟨x2, y2⟩ | ⟨⟨x2, y2⟩, ⟨x3, y3⟩ | ⟨⟨x3, y3⟩, x4⟩⟩⟩
              all_goals
                clear HOW
                go_wp2_with fail
                go_quiet (fail)
                go_wp2
                go_ret
                exact ⟨by rw [VY'.out]; rfl, RY'.out _, FY.out _⟩
            · have B : Hid (numBad s a (m, n) = false) := by unfold Hid numBad; rw [ea]; simp [t1, t2, t4]
              have VN' := hide (VN.out B.out)
              have RN' : Hid (∀ q, _) := fun q => RN.out q B.out
              have d8 : decide ((a : Int) + 1 < (m : Int)) = false := by simp; omega
              clear VY VN RN RY B FY b0 ea
              rcases HOW.out with x1 | ⟨hx, x1, ⟨x2, y2⟩ | ⟨⟨x2, y2⟩, ⟨x3, y3⟩ | ⟨⟨x3, y3⟩, x4⟩⟩⟩
              all_goals
                clear HOW
                go_wp2_with fail
                go_quiet (fail)
                go_wp2
                go_ret
                exact ⟨by rw [VN'.out]; rfl, RN'.out _, FN.out _⟩
          · have d7 : ((s[a].toNat : Int) == 48) = false := by simp; omega
            have B : Hid (numBad s a (m, n) = false) := by unfold Hid numBad; rw [ea]; simp [t1, t2, t3]
            have VN' := hide (VN.out B.out)
            have RN' : Hid (∀ q, _) := fun q => RN.out q B.out
            clear VY VN RN RY B FY b0 ea
            rcases HOW.out with x1 | ⟨hx, x1, ⟨x2, y2⟩ | ⟨⟨x2, y2⟩, ⟨x3, y3⟩ | ⟨⟨x3, y3⟩, x4⟩⟩⟩
            all_goals
              clear HOW
              go_wp2_with fail
              go_quiet (fail)
              go_wp2
              go_ret
              exact ⟨by rw [VN'.out]; rfl, RN'.out _, FN.out _⟩

end Go.Proofs.YtaelaldmibgibaaGreatDoor
