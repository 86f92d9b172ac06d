/- The program's couldKeep. -/
import Derived.Test.YtaelaldmibgibaaGreatDoorU41
import Derived.Deep.RegionHeld3

set_option linter.unusedVariables false
set_option linter.unusedSimpArgs false

namespace Go.Proofs.YtaelaldmibgibaaGreatDoor
open Go.RowKit Go.Lib

/-- a record's copy in a new block, the replica beside it -/
structure Ck (w V : World) (rb s : Nat) (cm : Nat → Int) (mb : Nat) (R : Rec) : Prop where
  rc : RecAt V w.heap.size R
  rep : RepAt V rb s cm mb
  bel : Below w.heap.size w V
  size : w.heap.size < V.heap.size
theorem Ck.more {w V V' : World} {rb s mb : Nat} {cm : Nat → Int} {R : Rec} (h : Ck w V rb s cm mb R) (hb : Below V.heap.size V V') : Ck w V' rb s cm mb R :=
  ⟨⟨by rw [hb.block _ h.size]; exact h.rc.blk⟩, h.rep.keep (hb.block _ h.rep.lt), h.bel.trans (hb.mono h.bel.size), Nat.lt_of_lt_of_le h.size hb.size⟩
theorem Ck.made {w : World} {rb s mb : Nat} {cm : Nat → Int} (h : RepAt w rb s cm mb) (R : Rec) : Ck w (w.alloc (.cells #[.string R.text, .int .i64 R.br, .int .i64 R.bn, .int .i64 (R.ch 0), .int .i64 (R.ch 1), .int .i64 (R.ch 2), .int .i64 (R.ch 3), .int .i64 (R.ch 4), .int .i64 (R.ch 5), .int .i64 (R.kn 0), .int .i64 (R.kn 1), .int .i64 (R.kn 2), .int .i64 (R.kn 3), .int .i64 (R.kn 4), .int .i64 (R.kn 5)] 197)) rb s cm mb R :=
  ⟨⟨heap_alloc_new _ _⟩, h.keep (Below.heap_alloc _ _ _ h.lt), (Below.refl _ _).alloc (Nat.le_refl _) _, by simp⟩
abbrev CkC (V : World) (b : Nat) (R : Rec) : Prop := V.cell? ⟨b, 0, none⟩ = some (.string R.text) ∧ V.cell? ⟨b, 1, none⟩ = some (.int .i64 R.br) ∧ V.cell? ⟨b, 2, none⟩ = some (.int .i64 R.bn) ∧ V.cell? ⟨b, 3, none⟩ = some (.int .i64 (R.ch 0)) ∧ V.cell? ⟨b, 4, none⟩ = some (.int .i64 (R.ch 1)) ∧ V.cell? ⟨b, 5, none⟩ = some (.int .i64 (R.ch 2)) ∧ V.cell? ⟨b, 6, none⟩ = some (.int .i64 (R.ch 3)) ∧ V.cell? ⟨b, 7, none⟩ = some (.int .i64 (R.ch 4)) ∧ V.cell? ⟨b, 8, none⟩ = some (.int .i64 (R.ch 5)) ∧ V.cell? ⟨b, 9, none⟩ = some (.int .i64 (R.kn 0)) ∧ V.cell? ⟨b, 10, none⟩ = some (.int .i64 (R.kn 1)) ∧ V.cell? ⟨b, 11, none⟩ = some (.int .i64 (R.kn 2)) ∧ V.cell? ⟨b, 12, none⟩ = some (.int .i64 (R.kn 3)) ∧ V.cell? ⟨b, 13, none⟩ = some (.int .i64 (R.kn 4)) ∧ V.cell? ⟨b, 14, none⟩ = some (.int .i64 (R.kn 5))
theorem Ck.cells {w V : World} {rb s mb : Nat} {cm : Nat → Int} {R : Rec} (h : Ck w V rb s cm mb R) : CkC V w.heap.size R := h.rc.cells
theorem must_any (R : Rec) (u : Nat → Int) (w : World) :
    Calls Tryz.prog 170 #[.agg #[.string R.text, .int .i64 R.br, .int .i64 R.bn, .int .i64 (R.ch 0), .int .i64 (R.ch 1), .int .i64 (R.ch 2), .int .i64 (R.ch 3), .int .i64 (R.ch 4), .int .i64 (R.ch 5), .int .i64 (R.kn 0), .int .i64 (R.kn 1), .int .i64 (R.kn 2), .int .i64 (R.kn 3), .int .i64 (R.kn 4), .int .i64 (R.kn 5)], .agg #[.int .i64 (u 0), .int .i64 (u 1), .int .i64 (u 2), .int .i64 (u 3), .int .i64 (u 4), .int .i64 (u 5)]] w fun e w' => e = .returned (.bool (decide (0 < R.bn) || !eqT R.kn u)) ∧ Below w.heap.size w w' := by
  by_cases h : 0 < R.bn
  · rw [decide_eq_true h, Bool.true_or]
    exact mustBeKept_yes R.text R.br R.bn R.ch R.kn u w h
  · rw [decide_eq_false h, Bool.false_or]
    exact mustBeKept_no R.text R.br R.bn R.ch R.kn u w h

set_option maxHeartbeats 4000000 in
theorem couldKeep_any (rb s : Nat) (cm : Nat → Int) (mb : Nat) (w : World) (h : RepAt w rb s cm mb) (R : Rec) :
    Calls Tryz.prog 197 #[.pointer (some ⟨rb, 0, none⟩), recVal R] w fun e w' => e = .returned (.bool (couldB s cm R)) ∧ Below w.heap.size w w' := by
  unfold recVal
  have K0 := hide (Ck.made h R)
  have hs := h.hs
  have CN : Hid (∀ V, Ck w V rb s cm mb R → Calls Tryz.prog 168 #[.pointer (some ⟨rb, 0, none⟩)] V fun e w' => e = .returned (.int .i64 (cm s)) ∧ ∃ nq, w' = V.drewN nq) := fun V hV => count_any rb s cm mb V hV.rep
  have HC : Hid (∀ V, Calls Tryz.prog 223 #[.agg #[.int .i64 (R.kn 0), .int .i64 (R.kn 1), .int .i64 (R.kn 2), .int .i64 (R.kn 3), .int .i64 (R.kn 4), .int .i64 (R.kn 5)], .agg #[.string R.text, .int .i64 R.br, .int .i64 R.bn, .int .i64 (R.ch 0), .int .i64 (R.ch 1), .int .i64 (R.ch 2), .int .i64 (R.ch 3), .int .i64 (R.ch 4), .int .i64 (R.ch 5)]] V fun e w' => e = .returned (.bool (leB R.ch R.kn)) ∧ Below V.heap.size V w') := fun V => hasChangesOf_any R R.kn V
  have MK := hide (fun V => must_any R cm V)
  have EC : Hid (couldB s cm R = (decide (R.kn s = cm s) && (leB R.ch R.kn && (decide (0 < R.bn) || !eqT R.kn cm)))) := rfl
  rw [EC.out]
  generalize (decide (0 < R.bn) || !eqT R.kn cm) = z3 at *
  generalize leB R.ch R.kn = z2 at *
  clear EC h
  go_enter Tryz.func197, Tryz.ntmps197
  go_wp2_with fail
  generalize w.alloc (.cells #[.string R.text, .int .i64 R.br, .int .i64 R.bn, .int .i64 (R.ch 0), .int .i64 (R.ch 1), .int .i64 (R.ch 2), .int .i64 (R.ch 3), .int .i64 (R.ch 4), .int .i64 (R.ch 5), .int .i64 (R.kn 0), .int .i64 (R.kn 1), .int .i64 (R.kn 2), .int .i64 (R.kn 3), .int .i64 (R.kn 4), .int .i64 (R.kn 5)] 197) = V at *
  have c0 := K0.out.rep.c0
  have kq := K0.out.rc.kn s hs
  have hs1 : (0 : Int) ≤ (s : Int) := by omega
  have hs2 : (s : Int) < 6 := by omega
  go_quiet ((go_at_call 168; exact (CN.out _ (by exact K0.out.more ⟨rfl, rfl, rfl, Nat.le_refl _, fun _ _ => rfl⟩)).mono fun _ _ h => ⟨h.1, by obtain ⟨q, e⟩ := h.2; exact ⟨_, e.trans (by first | exact World.drewN_drewN _ _ _ | rfl)⟩⟩))
  have K1 : Hid (Ck w (V.drewN nq) rb s cm mb R) := K0.out.more ⟨rfl, rfl, rfl, Nat.le_refl _, fun _ _ => rfl⟩
  clear K0 c0 kq CN
  generalize V.drewN nq = U at *
  go_wp2_with fail
  have B1 : Hid (∀ k, Below w.heap.size w (U.drewN k)) := fun k => (K1.out.more (V' := U.drewN k) ⟨rfl, rfl, rfl, Nat.le_refl _, fun _ _ => rfl⟩).bel
  obtain ⟨k0, k1, k2, k3, k4, k5, k6, k7, k8, k9, k10, k11, k12, k13, k14⟩ := K1.out.rc.cells
  have r1 := K1.out.rep.ct 0 (by omega)
  have r2 := K1.out.rep.ct 1 (by omega)
  have r3 := K1.out.rep.ct 2 (by omega)
  have r4 := K1.out.rep.ct 3 (by omega)
  have r5 := K1.out.rep.ct 4 (by omega)
  have r6 := K1.out.rep.ct 5 (by omega)
  simp only [Nat.reduceAdd] at r1 r2 r3 r4 r5 r6
  by_cases hz : R.kn s = cm s
  · simp only [hz, decide_true, Bool.true_and]
    cases z2 with
    | false =>
      first
        | (go_region_law (first
          | (go_simp; go_at_call 223; refine (HC.out _).mono ?_; rintro e w2 ⟨rfl, hb2⟩; have K2 := hide (K1.out.more ⟨hb2.os, hb2.tape, hb2.output, hb2.size, hb2.block⟩); clear hb2; dsimp only)))
        | fail
      all_goals
        go_wp2
        go_ret
        exact ⟨by rw [decide_eq_true hz]; rfl, K2.out.bel⟩
    | true =>
      go_region_law (first
        | (go_simp; go_at_call 223; refine (HC.out _).mono ?_; rintro e w2 ⟨rfl, hb2⟩; have K2 := hide (K1.out.more ⟨hb2.os, hb2.tape, hb2.output, hb2.size, hb2.block⟩); clear hb2; obtain ⟨q0, q1, q2, q3, q4, q5, q6, q7, q8, q9, q10, q11, q12, q13, q14⟩ := K2.out.rc.cells; have p1 := K2.out.rep.ct 0 (by omega); have p2 := K2.out.rep.ct 1 (by omega); have p3 := K2.out.rep.ct 2 (by omega); have p4 := K2.out.rep.ct 3 (by omega); have p5 := K2.out.rep.ct 4 (by omega); have p6 := K2.out.rep.ct 5 (by omega); simp only [Nat.reduceAdd] at p1 p2 p3 p4 p5 p6; dsimp only)
        | (go_simp; go_at_call 170; refine (MK.out _).mono ?_; rintro e w3 ⟨rfl, hb3⟩; have K3 := hide (K2.out.more hb3); clear hb3; dsimp only))
      all_goals
        go_wp2
        go_ret
        exact ⟨by rw [decide_eq_true hz]; rfl, K3.out.bel⟩
  · have hq : (R.kn s == cm s) = false := by simp [hz]
    simp only [hq]
    first
      | go_region
      | fail
    all_goals
      go_wp2
      go_ret
      exact ⟨by rw [decide_eq_false hz]; rfl, K1.out.bel.drew⟩

end Go.Proofs.YtaelaldmibgibaaGreatDoor
