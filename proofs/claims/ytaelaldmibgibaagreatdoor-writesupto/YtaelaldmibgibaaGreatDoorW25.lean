/- The program's replica: Write, where there is room. -/
import Derived.Test.YtaelaldmibgibaaGreatDoorW24

set_option linter.unusedVariables false
set_option linter.unusedSimpArgs false

namespace Go.Proofs.YtaelaldmibgibaaGreatDoor
open Go.RowKit Go.Maps

/-- the event, read -/
theorem St.evCells {w V : World} {rb s mb b : Nat} {c : Int} {E : Recs} {R : Rec} {eb : Nat} {x : Int} (S : St w V rb s mb b c E R eb (some (.cells #[.int .i64 s, .int .i64 x] 191))) :
    V.cell? ⟨eb, 0, none⟩ = some (.int .i64 s) ∧ V.cell? ⟨eb, 1, none⟩ = some (.int .i64 x) := by
  have h := (S.ev _ rfl).1
  constructor
  · simp only [World.cell?, h]; rfl
  · simp only [World.cell?, h]; rfl

/-- the record that Write keeps -/
def written (s : Nat) (c : Int) (t : ByteArray) (o : Option Rec) : Rec := ⟨t, (wrote s (c + 1) t (recOf s c o)).br, (wrote s (c + 1) t (recOf s c o)).bn, (wrote s (c + 1) t (recOf s c o)).ch, gboth (recOf s c o).kn (tf s (c + 1))⟩

set_option maxRecDepth 100000 in
set_option maxHeartbeats 2000000 in
theorem pwrite_ok (rb s mb : Nat) (c : Int) (E : Recs) (w : World) (h : PRep w rb s mb c E) (p t : ByteArray) (hp : p.size ≤ 1000000000000) (ht : t.size ≤ 1000000000000) (hc : c < 1000000000) (hr : getE p E ≠ none ∨ E.length < 20) :
    Calls Tryz.prog 62 #[.pointer (some ⟨rb, 0, none⟩), .string p, .string t] w fun e w' => e = .returned (.int .i64 0) ∧ Fr (fun k => k = rb ∨ k = mb) w w' ∧ PRep w' rb s mb (c + 1) (putE p (written s c t (getE p E)) E) := by
  have C := recordOf_any rb s mb c E w h p (by unfold maxLen; omega)
  have H := hide h
  have hc0 := h.c0
  obtain ⟨hb0, hth⟩ := recOf_bn h p
  have hkn := recOf_kn h p
  have hlen : (putE p (written s c t (getE p E)) E).length ≤ 20 := by
    rcases hr with hr | hr
    · obtain ⟨R0, hR0⟩ := Option.ne_none_iff_exists'.1 hr
      rw [len_putE_some h.ris hR0]
      exact h.len
    · exact Nat.le_trans (len_putE_le E p _ h.ris) (by omega)
  have HLEN := hide hlen
  have hd : decide (1000000000 ≤ c) = false := by simp; omega
  have hfl : (getE p E).isSome = false → decide ((20 : Int) ≤ (E.length : Int)) = false := by
    intro e
    rcases hr with hr | hr
    · rw [Option.isSome_eq_false_iff] at e; simp at e; exact absurd e hr
    · simp; omega
  have HW : Hid (written s c t (getE p E) = ⟨t, (wrote s (c + 1) t (recOf s c (getE p E))).br, (wrote s (c + 1) t (recOf s c (getE p E))).bn, (wrote s (c + 1) t (recOf s c (getE p E))).ch, gboth (recOf s c (getE p E)).kn (tf s (c + 1))⟩) := rfl
  generalize recOf s c (getE p E) = R1 at C hb0 hth hkn HW
  simp only [recVal] at C
  have CH := hide C
  have HKN := hide hkn
  have HB0 := hide hb0
  have KI : Hid (∀ V b eb eo, St w V rb s mb b (c + 1) E ⟨(wrote s (c + 1) t R1).text, (wrote s (c + 1) t R1).br, (wrote s (c + 1) t R1).bn, (wrote s (c + 1) t R1).ch, gboth (wrote s (c + 1) t R1).kn (tf s (c + 1))⟩ eb eo → Calls Tryz.prog 112 #[.pointer (some ⟨rb, 0, none⟩), .string p, .agg #[.string (wrote s (c + 1) t R1).text, .int .i64 (wrote s (c + 1) t R1).br, .int .i64 (wrote s (c + 1) t R1).bn, .int .i64 ((wrote s (c + 1) t R1).ch 0), .int .i64 ((wrote s (c + 1) t R1).ch 1), .int .i64 ((wrote s (c + 1) t R1).ch 2), .int .i64 ((wrote s (c + 1) t R1).ch 3), .int .i64 ((wrote s (c + 1) t R1).ch 4), .int .i64 ((wrote s (c + 1) t R1).ch 5), .int .i64 (gboth (wrote s (c + 1) t R1).kn (tf s (c + 1)) 0), .int .i64 (gboth (wrote s (c + 1) t R1).kn (tf s (c + 1)) 1), .int .i64 (gboth (wrote s (c + 1) t R1).kn (tf s (c + 1)) 2), .int .i64 (gboth (wrote s (c + 1) t R1).kn (tf s (c + 1)) 3), .int .i64 (gboth (wrote s (c + 1) t R1).kn (tf s (c + 1)) 4), .int .i64 (gboth (wrote s (c + 1) t R1).kn (tf s (c + 1)) 5)]] V fun e w' => e = .returned (.tuple #[]) ∧ PRep w' rb s mb (c + 1) (putE p (written s c t (getE p E)) E) ∧ Fr (fun k => k = rb ∨ k = mb) w w') := by
    intro V b eb eo S
    rw [HW.out] at hlen ⊢
    refine S.keepIn H.out p hp ?_ ?_ hlen (by omega)
    · show 0 < (if 0 < R1.bn then R1.bn else c + 1)
      split <;> omega
    · intro j hj hs
      exact gboth_zero _ _ j (hkn j hj hs) (tf_other s _ j hs)
  clear C h hkn hb0 hlen HLEN HW
  generalize putE p (written s c t (getE p E)) E = E' at KI ⊢
  have hrm : (!decide (0 < R1.bn) && decide ((20 : Int) ≤ (E.length : Int))) = false := by
    rw [hth]
    cases hg : (getE p E).isSome
    · rw [hfl hg]; rfl
    · rfl
  clear hth hfl hr
  go_enter Tryz.func62, Tryz.ntmps62
  go_wp2_with (first
    | (go_at_call 104; refine CH.out.mono ?_; rintro e w1 ⟨rfl, hb1r⟩; have S1 := hide (St.start H.out hb1r R1); clear hb1r)
    | (go_at_call 105; refine S1.out.full.mono ?_; rintro e w2 ⟨rfl, S2r⟩; have S2 := hide S2r; obtain ⟨k0, k1, k2, k3, k4, k5, k6, k7, k8, k9, k10, k11, k12, k13, k14⟩ := S2r.rc.cells; clear S2r)
    | (go_at_call 106; refine (S2.out.room H.out false hrm).mono ?_; rintro e w4 ⟨rfl, S4r⟩; have S4 := hide S4r; clear S4r)
    | (go_at_call 107; refine (S4.out.next hc0 hc).mono ?_; rintro e w5 ⟨rfl, S5r⟩; have S5 := hide S5r; clear S5r))
  clear k0 k1 k2 k3 k4 k5 k6 k7 k8 k9 k10 k11 k12 k13 k14 hrm
  have SE := hide ((S5.out.alloc_ev (.cells #[.int .i64 s, .int .i64 (c + 1)] 191)).drewN 1)
  have hbn1 := HB0.out
  go_region_law (first
    | (go_simp; go_at_call 109; refine (SE.out.clone t ht).mono ?_; rintro e w6 ⟨rfl, S6r⟩; have S6 := hide S6r; obtain ⟨f0, f1⟩ := S6r.evCells; clear S6r; dsimp only)
    | (go_simp; go_at_call 108; refine (S6.out.write (c + 1) t hbn1).mono ?_; rintro e w7 ⟨rfl, S7r⟩; have S7 := hide S7r; obtain ⟨g0, g1⟩ := S7r.evCells; clear S7r; dsimp only))
  all_goals
    clear f0 f1
    go_wp2_with (first
      | (go_at_call 111; refine (S7.out.alone (c + 1)).mono ?_; rintro e w8 ⟨rfl, S8r⟩; have S8 := hide S8r; clear S8r)
      | (go_at_call 110; refine (S8.out.hear (tf s (c + 1)) _).mono ?_; rintro e w9 ⟨rfl, S9r⟩; have S9 := hide S9r; obtain ⟨k0, k1, k2, k3, k4, k5, k6, k7, k8, k9, k10, k11, k12, k13, k14⟩ := S9r.rc.cells; dsimp only at k0 k1 k2 k3 k4 k5 k6 k7 k8 k9 k10 k11 k12 k13 k14; clear S9r)
      | (go_at_call 112; refine (KI.out _ _ _ _ S9.out).mono ?_; rintro e w10 ⟨rfl, hPr, hFr⟩; have HP := hide hPr; have HF := hide hFr; clear hPr hFr))
    go_ret
    exact ⟨rfl, HF.out, HP.out⟩

end Go.Proofs.YtaelaldmibgibaaGreatDoor
