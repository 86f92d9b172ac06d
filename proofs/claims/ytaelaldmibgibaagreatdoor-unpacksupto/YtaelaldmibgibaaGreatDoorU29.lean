/- The program's replica: Remove. -/
import Derived.Test.YtaelaldmibgibaaGreatDoorU28

set_option linter.unusedVariables false
set_option linter.unusedSimpArgs false

namespace Go.Proofs.YtaelaldmibgibaaGreatDoor
open Go.RowKit Go.Maps

theorem eqT_of {t u : Nat → Int} (h : ∀ j, j < 6 → t j = u j) : eqT t u = true := by
  unfold eqT
  rw [h 0 (by omega), h 1 (by omega), h 2 (by omega), h 3 (by omega), h 4 (by omega), h 5 (by omega)]
  simp
theorem gone_kn {w : World} {rb s mb : Nat} {c : Int} {E : Recs} (h : PRep w rb s mb c E) (p : ByteArray) : eqT (gboth (recOf s c (getE p E)).kn (tf s (c + 1))) (tf s (c + 1)) = true := by
  apply eqT_of
  intro j hj
  by_cases hs : j = s
  · subst hs
    have hc := h.c0
    have e : (recOf j c (getE p E)).kn j = c := by
      cases getE p E with
      | none => exact tf_self j c hj
      | some R =>
        show upT R.kn j c j = c
        unfold upT
        rw [if_pos rfl]
    unfold gboth g1 zer
    rw [e, tf_self j (c + 1) hj]
    (repeat' split) <;> omega
  · rw [gboth_zero _ _ j (recOf_kn h p j hj hs) (tf_other s _ j hs), tf_other s _ j hs]

set_option maxRecDepth 100000 in
set_option maxHeartbeats 1000000 in
theorem premove_none (rb s mb : Nat) (c : Int) (E : Recs) (w : World) (h : PRep w rb s mb c E) (p : ByteArray) (hp : p.size ≤ 1000000000000) (hn : getE p E = none) :
    Calls Tryz.prog 64 #[.pointer (some ⟨rb, 0, none⟩), .string p] w fun e w' => e = .returned (.int .i64 4) ∧ Fr (fun k => k = rb ∨ k = mb) w w' ∧ PRep w' rb s mb c E := by
  have C := recordOf_any rb s mb c E w h p (by unfold maxLen; omega)
  have fin : Hid (∀ V b R eb eo, St w V rb s mb b c E R eb eo → Fr (fun k => k = rb ∨ k = mb) w V ∧ PRep V rb s mb c E) := fun V b R eb eo S => ⟨S.fr, ⟨S.rep, S.own, h.ris, h.bn, h.kn, h.len, h.c0⟩⟩
  have H := hide h
  have hth := (recOf_bn h p).2
  rw [hn] at hth C
  simp only [Option.isSome_none] at hth
  generalize recOf s c none = R1 at C hth
  simp only [recVal] at C
  have CH := hide C
  clear C h hn
  go_enter Tryz.func64, Tryz.ntmps64
  go_wp2_with (first
    | (go_at_call 104; refine CH.out.mono ?_; rintro e w1 ⟨rfl, hb1r⟩; have S1 := hide (St.start H.out hb1r R1); clear hb1r)
    | (go_at_call 113; refine S1.out.there.mono ?_; rintro e w3 ⟨rfl, S3r⟩; have S3 := hide S3r; clear S3r))
  go_ret
  exact ⟨rfl, fin.out _ _ _ _ _ S3.out⟩

set_option maxRecDepth 100000 in
set_option maxHeartbeats 1000000 in
theorem premove_full (rb s mb : Nat) (c : Int) (E : Recs) (w : World) (h : PRep w rb s mb c E) (p : ByteArray) (hp : p.size ≤ 1000000000000) (hn : (getE p E).isSome = true) (hc : 1000000000 ≤ c) :
    Calls Tryz.prog 64 #[.pointer (some ⟨rb, 0, none⟩), .string p] w fun e w' => e = .returned (.int .i64 5) ∧ Fr (fun k => k = rb ∨ k = mb) w w' ∧ PRep w' rb s mb c E := by
  have C := recordOf_any rb s mb c E w h p (by unfold maxLen; omega)
  have fin : Hid (∀ V b R eb eo, St w V rb s mb b c E R eb eo → Fr (fun k => k = rb ∨ k = mb) w V ∧ PRep V rb s mb c E) := fun V b R eb eo S => ⟨S.fr, ⟨S.rep, S.own, h.ris, h.bn, h.kn, h.len, h.c0⟩⟩
  have H := hide h
  have hth := (recOf_bn h p).2
  rw [hn] at hth
  generalize recOf s c (getE p E) = R1 at C hth
  simp only [recVal] at C
  have CH := hide C
  have hd : decide (1000000000 ≤ c) = true := by simp [hc]
  clear C h hn
  go_enter Tryz.func64, Tryz.ntmps64
  go_wp2_with (first
    | (go_at_call 104; refine CH.out.mono ?_; rintro e w1 ⟨rfl, hb1r⟩; have S1 := hide (St.start H.out hb1r R1); clear hb1r)
    | (go_at_call 113; refine S1.out.there.mono ?_; rintro e w3 ⟨rfl, S3r⟩; have S3 := hide S3r; clear S3r)
    | (go_at_call 105; refine S3.out.full.mono ?_; rintro e w2 ⟨rfl, S2r⟩; have S2 := hide S2r; clear S2r))
  go_ret
  exact ⟨rfl, fin.out _ _ _ _ _ S2.out⟩

set_option maxRecDepth 100000 in
set_option maxHeartbeats 2000000 in
theorem premove_ok (rb s mb : Nat) (c : Int) (E : Recs) (w : World) (h : PRep w rb s mb c E) (p : ByteArray) (hp : p.size ≤ 1000000000000) (hn : (getE p E).isSome = true) (hc : c < 1000000000) :
    Calls Tryz.prog 64 #[.pointer (some ⟨rb, 0, none⟩), .string p] w fun e w' => e = .returned (.int .i64 0) ∧ Fr (fun k => k = rb ∨ k = mb) w w' ∧ PRep w' rb s mb (c + 1) (delE p E) := by
  have C := recordOf_any rb s mb c E w h p (by unfold maxLen; omega)
  have H := hide h
  have hc0 := h.c0
  have hth := (recOf_bn h p).2
  have hgk := gone_kn h p
  rw [hn] at hth
  generalize recOf s c (getE p E) = R1 at C hth hgk
  simp only [recVal] at C
  have CH := hide C
  have hd : decide (1000000000 ≤ c) = false := by simp; omega
  have KO : Hid (∀ V b eb eo, St w V rb s mb b (c + 1) E ⟨⟨#[]⟩, 0, 0, fun _ => 0, gboth R1.kn (tf s (c + 1))⟩ eb eo → Calls Tryz.prog 112 #[.pointer (some ⟨rb, 0, none⟩), .string p, .agg #[.string ⟨#[]⟩, .int .i64 0, .int .i64 0, .int .i64 0, .int .i64 0, .int .i64 0, .int .i64 0, .int .i64 0, .int .i64 0, .int .i64 (gboth R1.kn (tf s (c + 1)) 0), .int .i64 (gboth R1.kn (tf s (c + 1)) 1), .int .i64 (gboth R1.kn (tf s (c + 1)) 2), .int .i64 (gboth R1.kn (tf s (c + 1)) 3), .int .i64 (gboth R1.kn (tf s (c + 1)) 4), .int .i64 (gboth R1.kn (tf s (c + 1)) 5)]] V fun e w' => e = .returned (.tuple #[]) ∧ PRep w' rb s mb (c + 1) (delE p E) ∧ Fr (fun k => k = rb ∨ k = mb) w w') :=
    fun V b eb eo S => S.keepOut H.out p hp rfl hgk (by omega)
  clear C h hn hgk
  go_enter Tryz.func64, Tryz.ntmps64
  go_wp2_with (first
    | (go_at_call 104; refine CH.out.mono ?_; rintro e w1 ⟨rfl, hb1r⟩; have S1 := hide (St.start H.out hb1r R1); clear hb1r)
    | (go_at_call 113; refine S1.out.there.mono ?_; rintro e w3 ⟨rfl, S3r⟩; have S3 := hide S3r; clear S3r)
    | (go_at_call 105; refine S3.out.full.mono ?_; rintro e w2 ⟨rfl, S2r⟩; have S2 := hide S2r; clear S2r)
    | (go_at_call 107; refine (S2.out.next hc0 hc).mono ?_; rintro e w5 ⟨rfl, S5r⟩; have S5 := hide S5r; have SE := hide (S5r.alloc_ev (.cells #[.int .i64 s, .int .i64 (c + 1)] 191)); clear S5r)
    | (go_at_call 114; refine SE.out.remove.mono ?_; rintro e w7 ⟨rfl, S7r⟩; have S7 := hide S7r; obtain ⟨g0, g1⟩ := S7r.evCells; clear S7r)
    | (go_at_call 111; refine (S7.out.alone (c + 1)).mono ?_; rintro e w8 ⟨rfl, S8r⟩; have S8 := hide S8r; clear S8r)
    | (go_at_call 110; refine (S8.out.hear (tf s (c + 1)) _).mono ?_; rintro e w9 ⟨rfl, S9r⟩; have S9 := hide S9r; obtain ⟨k0, k1, k2, k3, k4, k5, k6, k7, k8, k9, k10, k11, k12, k13, k14⟩ := S9r.rc.cells; dsimp only at k0 k1 k2 k3 k4 k5 k6 k7 k8 k9 k10 k11 k12 k13 k14; clear S9r)
    | (go_at_call 112; refine (KO.out _ _ _ _ S9.out).mono ?_; rintro e w10 ⟨rfl, hPr, hFr⟩; have HP := hide hPr; have HF := hide hFr; clear hPr hFr))
  go_ret
  exact ⟨rfl, HF.out, HP.out⟩

end Go.Proofs.YtaelaldmibgibaaGreatDoor
