/- Greatest of three times. -/
import Derived.Test.YtaelaldmibgibaaGreatP20

set_option linter.unusedVariables false
set_option linter.unusedSimpArgs false
set_option linter.unusedSectionVars false

namespace Go.Proofs.YtaelaldmibgibaaGreat
open Go.RowKit
attribute [local go_sem ↓] idxTime
attribute [local go_sem] run_idx0 run_idx1 run_idx2 run_idx3 run_idx4 run_idx5
def g3 (a b d : Nat → Int) (j : Nat) : Int := if gboth a b j < d j then d j else gboth a b j
set_option maxRecDepth 100000 in
set_option maxHeartbeats 4000000 in
theorem Greatest_three (g c : Nat) (a b d : Nat → Int) (w : World) (hg : g < w.heap.size) (ha : ∀ j, j < 6 → w.cell? ⟨g, j, none⟩ = some (.int .i64 (a j))) (hb : ∀ j, j < 6 → w.cell? ⟨g, 6 + j, none⟩ = some (.int .i64 (b j))) (hd : ∀ j, j < 6 → w.cell? ⟨g, 12 + j, none⟩ = some (.int .i64 (d j))) :
    Calls Tryz.prog 70 #[.slice (some ⟨g, 0, none⟩) 3 c] w fun e w' => e = .returned (.agg #[.int .i64 (g3 a b d 0), .int .i64 (g3 a b d 1), .int .i64 (g3 a b d 2), .int .i64 (g3 a b d 3), .int .i64 (g3 a b d 4), .int .i64 (g3 a b d 5)]) ∧ Below w.heap.size w w' := by
  have start := hide (Gr.start w)
  have HA := hide ha
  have HB := hide hb
  have HD := hide hd
  clear ha hb hd
  go_enter Tryz.func70, Tryz.ntmps70
  go_wp2
  go_loopw [10] (fun i wr => ∃ k : Nat, k ≤ 3 ∧ i = .int .i64 k ∧ Hid (Gr w wr (if k = 0 then zer else if k = 1 then g1 a else if k = 2 then gboth a b else g3 a b d))) (fun i _ => 3 - (intOf i).toNat)
  case atStart => exact ⟨0, by omega, rfl, start⟩
  case round =>
    obtain ⟨k, hk, rfl, hG⟩ := hrel
    have hsz := hG.out.size
    match k, hk with
    | 0, _ =>
      have hG1 : Hid (Gr w wr (zer)) := hG
      clear hG
      have q0 : wr.cell? ⟨g, 0, none⟩ = some (.int .i64 (a 0)) := (hG1.out.below.cell (p := ⟨g, 0, none⟩) hg).trans (HA.out 0 (by omega))
      have q1 : wr.cell? ⟨g, 1, none⟩ = some (.int .i64 (a 1)) := (hG1.out.below.cell (p := ⟨g, 1, none⟩) hg).trans (HA.out 1 (by omega))
      have q2 : wr.cell? ⟨g, 2, none⟩ = some (.int .i64 (a 2)) := (hG1.out.below.cell (p := ⟨g, 2, none⟩) hg).trans (HA.out 2 (by omega))
      have q3 : wr.cell? ⟨g, 3, none⟩ = some (.int .i64 (a 3)) := (hG1.out.below.cell (p := ⟨g, 3, none⟩) hg).trans (HA.out 3 (by omega))
      have q4 : wr.cell? ⟨g, 4, none⟩ = some (.int .i64 (a 4)) := (hG1.out.below.cell (p := ⟨g, 4, none⟩) hg).trans (HA.out 4 (by omega))
      have q5 : wr.cell? ⟨g, 5, none⟩ = some (.int .i64 (a 5)) := (hG1.out.below.cell (p := ⟨g, 5, none⟩) hg).trans (HA.out 5 (by omega))
      go_wp2
      clear q0 q1 q2 q3 q4 q5
      have hG2 : Hid (Gr w _ (gstep (zer) a 0)) := (hG1.out.more ((Below.refl _ _).alloc (Nat.le_refl _) (.cells #[.int .i64 (a 0), .int .i64 (a 1), .int .i64 (a 2), .int .i64 (a 3), .int .i64 (a 4), .int .i64 (a 5)] 108))).congr (fun j _ => by simp [gstep])
      go_loopw [15] (fun i wi => ∃ k : Nat, k ≤ 6 ∧ i = .int .i64 k ∧ Hid (Gr w wi (gstep (zer) a k))) (fun i _ => 6 - (intOf i).toNat)
      case atStart => exact ⟨0, by omega, rfl, hG2⟩
      case round =>
        obtain ⟨k, hk, rfl, hI⟩ := hrel
        clear hG1 hG2 hsz
        match k, hk with
        | 0, _ =>
          have c1 := hI.out.cur 0 (by omega)
          have f1 := hI.out.fcur 0
          have e1 : gstep (zer) a 0 0 = (zer) 0 := by simp [gstep]
          rw [e1] at c1
          have N : Hid (Gr w _ (gstep (zer) a 1)) := (hI.out.set 0 (by omega) (if zer 0 < a 0 then a 0 else zer 0)).congr (fun j hj => by match j, hj with | 0, _ | 1, _ | 2, _ | 3, _ | 4, _ | 5, _ => simp [gstep])
          clear e1
          go_wp2
          go_roundw
          case rel => exact ⟨1, by omega, by go_num, N⟩
          case measure => simp [intOf]
        | 1, _ =>
          have c1 := hI.out.cur 1 (by omega)
          have f1 := hI.out.fcur 1
          have e1 : gstep (zer) a 1 1 = (zer) 1 := by simp [gstep]
          rw [e1] at c1
          have N : Hid (Gr w _ (gstep (zer) a 2)) := (hI.out.set 1 (by omega) (if zer 1 < a 1 then a 1 else zer 1)).congr (fun j hj => by match j, hj with | 0, _ | 1, _ | 2, _ | 3, _ | 4, _ | 5, _ => simp [gstep])
          clear e1
          go_wp2
          go_roundw
          case rel => exact ⟨2, by omega, by go_num, N⟩
          case measure => simp [intOf]
        | 2, _ =>
          have c1 := hI.out.cur 2 (by omega)
          have f1 := hI.out.fcur 2
          have e1 : gstep (zer) a 2 2 = (zer) 2 := by simp [gstep]
          rw [e1] at c1
          have N : Hid (Gr w _ (gstep (zer) a 3)) := (hI.out.set 2 (by omega) (if zer 2 < a 2 then a 2 else zer 2)).congr (fun j hj => by match j, hj with | 0, _ | 1, _ | 2, _ | 3, _ | 4, _ | 5, _ => simp [gstep])
          clear e1
          go_wp2
          go_roundw
          case rel => exact ⟨3, by omega, by go_num, N⟩
          case measure => simp [intOf]
        | 3, _ =>
          have c1 := hI.out.cur 3 (by omega)
          have f1 := hI.out.fcur 3
          have e1 : gstep (zer) a 3 3 = (zer) 3 := by simp [gstep]
          rw [e1] at c1
          have N : Hid (Gr w _ (gstep (zer) a 4)) := (hI.out.set 3 (by omega) (if zer 3 < a 3 then a 3 else zer 3)).congr (fun j hj => by match j, hj with | 0, _ | 1, _ | 2, _ | 3, _ | 4, _ | 5, _ => simp [gstep])
          clear e1
          go_wp2
          go_roundw
          case rel => exact ⟨4, by omega, by go_num, N⟩
          case measure => simp [intOf]
        | 4, _ =>
          have c1 := hI.out.cur 4 (by omega)
          have f1 := hI.out.fcur 4
          have e1 : gstep (zer) a 4 4 = (zer) 4 := by simp [gstep]
          rw [e1] at c1
          have N : Hid (Gr w _ (gstep (zer) a 5)) := (hI.out.set 4 (by omega) (if zer 4 < a 4 then a 4 else zer 4)).congr (fun j hj => by match j, hj with | 0, _ | 1, _ | 2, _ | 3, _ | 4, _ | 5, _ => simp [gstep])
          clear e1
          go_wp2
          go_roundw
          case rel => exact ⟨5, by omega, by go_num, N⟩
          case measure => simp [intOf]
        | 5, _ =>
          have c1 := hI.out.cur 5 (by omega)
          have f1 := hI.out.fcur 5
          have e1 : gstep (zer) a 5 5 = (zer) 5 := by simp [gstep]
          rw [e1] at c1
          have N : Hid (Gr w _ (gstep (zer) a 6)) := (hI.out.set 5 (by omega) (if zer 5 < a 5 then a 5 else zer 5)).congr (fun j hj => by match j, hj with | 0, _ | 1, _ | 2, _ | 3, _ | 4, _ | 5, _ => simp [gstep])
          clear e1
          go_wp2
          go_roundw
          case rel => exact ⟨6, by omega, by go_num, N⟩
          case measure => simp [intOf]
        | 6, _ =>
          have N : Hid (Gr w wr (g1 a)) := hI.out.congr (fun j hj => by match j, hj with | 0, _ | 1, _ | 2, _ | 3, _ | 4, _ | 5, _ => simp [gstep, gboth, g1, g3])
          go_wp2
          go_roundw
          case rel => exact ⟨1, by omega, by go_num, N⟩
          case measure => simp [intOf]
    | 1, _ =>
      have hG1 : Hid (Gr w wr (g1 a)) := hG
      clear hG
      have q0 : wr.cell? ⟨g, 6, none⟩ = some (.int .i64 (b 0)) := (hG1.out.below.cell (p := ⟨g, 6, none⟩) hg).trans (HB.out 0 (by omega))
      have q1 : wr.cell? ⟨g, 7, none⟩ = some (.int .i64 (b 1)) := (hG1.out.below.cell (p := ⟨g, 7, none⟩) hg).trans (HB.out 1 (by omega))
      have q2 : wr.cell? ⟨g, 8, none⟩ = some (.int .i64 (b 2)) := (hG1.out.below.cell (p := ⟨g, 8, none⟩) hg).trans (HB.out 2 (by omega))
      have q3 : wr.cell? ⟨g, 9, none⟩ = some (.int .i64 (b 3)) := (hG1.out.below.cell (p := ⟨g, 9, none⟩) hg).trans (HB.out 3 (by omega))
      have q4 : wr.cell? ⟨g, 10, none⟩ = some (.int .i64 (b 4)) := (hG1.out.below.cell (p := ⟨g, 10, none⟩) hg).trans (HB.out 4 (by omega))
      have q5 : wr.cell? ⟨g, 11, none⟩ = some (.int .i64 (b 5)) := (hG1.out.below.cell (p := ⟨g, 11, none⟩) hg).trans (HB.out 5 (by omega))
      go_wp2
      clear q0 q1 q2 q3 q4 q5
      have hG2 : Hid (Gr w _ (gstep (g1 a) b 0)) := (hG1.out.more ((Below.refl _ _).alloc (Nat.le_refl _) (.cells #[.int .i64 (b 0), .int .i64 (b 1), .int .i64 (b 2), .int .i64 (b 3), .int .i64 (b 4), .int .i64 (b 5)] 108))).congr (fun j _ => by simp [gstep])
      go_loopw [15] (fun i wi => ∃ k : Nat, k ≤ 6 ∧ i = .int .i64 k ∧ Hid (Gr w wi (gstep (g1 a) b k))) (fun i _ => 6 - (intOf i).toNat)
      case atStart => exact ⟨0, by omega, rfl, hG2⟩
      case round =>
        obtain ⟨k, hk, rfl, hI⟩ := hrel
        clear hG1 hG2 hsz
        match k, hk with
        | 0, _ =>
          have c1 := hI.out.cur 0 (by omega)
          have f1 := hI.out.fcur 0
          have e1 : gstep (g1 a) b 0 0 = (g1 a) 0 := by simp [gstep]
          rw [e1] at c1
          have N : Hid (Gr w _ (gstep (g1 a) b 1)) := (hI.out.set 0 (by omega) (if g1 a 0 < b 0 then b 0 else g1 a 0)).congr (fun j hj => by match j, hj with | 0, _ | 1, _ | 2, _ | 3, _ | 4, _ | 5, _ => simp [gstep])
          clear e1
          go_wp2
          go_roundw
          case rel => exact ⟨1, by omega, by go_num, N⟩
          case measure => simp [intOf]
        | 1, _ =>
          have c1 := hI.out.cur 1 (by omega)
          have f1 := hI.out.fcur 1
          have e1 : gstep (g1 a) b 1 1 = (g1 a) 1 := by simp [gstep]
          rw [e1] at c1
          have N : Hid (Gr w _ (gstep (g1 a) b 2)) := (hI.out.set 1 (by omega) (if g1 a 1 < b 1 then b 1 else g1 a 1)).congr (fun j hj => by match j, hj with | 0, _ | 1, _ | 2, _ | 3, _ | 4, _ | 5, _ => simp [gstep])
          clear e1
          go_wp2
          go_roundw
          case rel => exact ⟨2, by omega, by go_num, N⟩
          case measure => simp [intOf]
        | 2, _ =>
          have c1 := hI.out.cur 2 (by omega)
          have f1 := hI.out.fcur 2
          have e1 : gstep (g1 a) b 2 2 = (g1 a) 2 := by simp [gstep]
          rw [e1] at c1
          have N : Hid (Gr w _ (gstep (g1 a) b 3)) := (hI.out.set 2 (by omega) (if g1 a 2 < b 2 then b 2 else g1 a 2)).congr (fun j hj => by match j, hj with | 0, _ | 1, _ | 2, _ | 3, _ | 4, _ | 5, _ => simp [gstep])
          clear e1
          go_wp2
          go_roundw
          case rel => exact ⟨3, by omega, by go_num, N⟩
          case measure => simp [intOf]
        | 3, _ =>
          have c1 := hI.out.cur 3 (by omega)
          have f1 := hI.out.fcur 3
          have e1 : gstep (g1 a) b 3 3 = (g1 a) 3 := by simp [gstep]
          rw [e1] at c1
          have N : Hid (Gr w _ (gstep (g1 a) b 4)) := (hI.out.set 3 (by omega) (if g1 a 3 < b 3 then b 3 else g1 a 3)).congr (fun j hj => by match j, hj with | 0, _ | 1, _ | 2, _ | 3, _ | 4, _ | 5, _ => simp [gstep])
          clear e1
          go_wp2
          go_roundw
          case rel => exact ⟨4, by omega, by go_num, N⟩
          case measure => simp [intOf]
        | 4, _ =>
          have c1 := hI.out.cur 4 (by omega)
          have f1 := hI.out.fcur 4
          have e1 : gstep (g1 a) b 4 4 = (g1 a) 4 := by simp [gstep]
          rw [e1] at c1
          have N : Hid (Gr w _ (gstep (g1 a) b 5)) := (hI.out.set 4 (by omega) (if g1 a 4 < b 4 then b 4 else g1 a 4)).congr (fun j hj => by match j, hj with | 0, _ | 1, _ | 2, _ | 3, _ | 4, _ | 5, _ => simp [gstep])
          clear e1
          go_wp2
          go_roundw
          case rel => exact ⟨5, by omega, by go_num, N⟩
          case measure => simp [intOf]
        | 5, _ =>
          have c1 := hI.out.cur 5 (by omega)
          have f1 := hI.out.fcur 5
          have e1 : gstep (g1 a) b 5 5 = (g1 a) 5 := by simp [gstep]
          rw [e1] at c1
          have N : Hid (Gr w _ (gstep (g1 a) b 6)) := (hI.out.set 5 (by omega) (if g1 a 5 < b 5 then b 5 else g1 a 5)).congr (fun j hj => by match j, hj with | 0, _ | 1, _ | 2, _ | 3, _ | 4, _ | 5, _ => simp [gstep])
          clear e1
          go_wp2
          go_roundw
          case rel => exact ⟨6, by omega, by go_num, N⟩
          case measure => simp [intOf]
        | 6, _ =>
          have N : Hid (Gr w wr (gboth a b)) := hI.out.congr (fun j hj => by match j, hj with | 0, _ | 1, _ | 2, _ | 3, _ | 4, _ | 5, _ => simp [gstep, gboth, g1, g3])
          go_wp2
          go_roundw
          case rel => exact ⟨2, by omega, by go_num, N⟩
          case measure => simp [intOf]
    | 2, _ =>
      have hG1 : Hid (Gr w wr (gboth a b)) := hG
      clear hG
      have q0 : wr.cell? ⟨g, 12, none⟩ = some (.int .i64 (d 0)) := (hG1.out.below.cell (p := ⟨g, 12, none⟩) hg).trans (HD.out 0 (by omega))
      have q1 : wr.cell? ⟨g, 13, none⟩ = some (.int .i64 (d 1)) := (hG1.out.below.cell (p := ⟨g, 13, none⟩) hg).trans (HD.out 1 (by omega))
      have q2 : wr.cell? ⟨g, 14, none⟩ = some (.int .i64 (d 2)) := (hG1.out.below.cell (p := ⟨g, 14, none⟩) hg).trans (HD.out 2 (by omega))
      have q3 : wr.cell? ⟨g, 15, none⟩ = some (.int .i64 (d 3)) := (hG1.out.below.cell (p := ⟨g, 15, none⟩) hg).trans (HD.out 3 (by omega))
      have q4 : wr.cell? ⟨g, 16, none⟩ = some (.int .i64 (d 4)) := (hG1.out.below.cell (p := ⟨g, 16, none⟩) hg).trans (HD.out 4 (by omega))
      have q5 : wr.cell? ⟨g, 17, none⟩ = some (.int .i64 (d 5)) := (hG1.out.below.cell (p := ⟨g, 17, none⟩) hg).trans (HD.out 5 (by omega))
      go_wp2
      clear q0 q1 q2 q3 q4 q5
      have hG2 : Hid (Gr w _ (gstep (gboth a b) d 0)) := (hG1.out.more ((Below.refl _ _).alloc (Nat.le_refl _) (.cells #[.int .i64 (d 0), .int .i64 (d 1), .int .i64 (d 2), .int .i64 (d 3), .int .i64 (d 4), .int .i64 (d 5)] 108))).congr (fun j _ => by simp [gstep])
      go_loopw [15] (fun i wi => ∃ k : Nat, k ≤ 6 ∧ i = .int .i64 k ∧ Hid (Gr w wi (gstep (gboth a b) d k))) (fun i _ => 6 - (intOf i).toNat)
      case atStart => exact ⟨0, by omega, rfl, hG2⟩
      case round =>
        obtain ⟨k, hk, rfl, hI⟩ := hrel
        clear hG1 hG2 hsz
        match k, hk with
        | 0, _ =>
          have c1 := hI.out.cur 0 (by omega)
          have f1 := hI.out.fcur 0
          have e1 : gstep (gboth a b) d 0 0 = (gboth a b) 0 := by simp [gstep]
          rw [e1] at c1
          have N : Hid (Gr w _ (gstep (gboth a b) d 1)) := (hI.out.set 0 (by omega) (if gboth a b 0 < d 0 then d 0 else gboth a b 0)).congr (fun j hj => by match j, hj with | 0, _ | 1, _ | 2, _ | 3, _ | 4, _ | 5, _ => simp [gstep])
          clear e1
          go_wp2
          go_roundw
          case rel => exact ⟨1, by omega, by go_num, N⟩
          case measure => simp [intOf]
        | 1, _ =>
          have c1 := hI.out.cur 1 (by omega)
          have f1 := hI.out.fcur 1
          have e1 : gstep (gboth a b) d 1 1 = (gboth a b) 1 := by simp [gstep]
          rw [e1] at c1
          have N : Hid (Gr w _ (gstep (gboth a b) d 2)) := (hI.out.set 1 (by omega) (if gboth a b 1 < d 1 then d 1 else gboth a b 1)).congr (fun j hj => by match j, hj with | 0, _ | 1, _ | 2, _ | 3, _ | 4, _ | 5, _ => simp [gstep])
          clear e1
          go_wp2
          go_roundw
          case rel => exact ⟨2, by omega, by go_num, N⟩
          case measure => simp [intOf]
        | 2, _ =>
          have c1 := hI.out.cur 2 (by omega)
          have f1 := hI.out.fcur 2
          have e1 : gstep (gboth a b) d 2 2 = (gboth a b) 2 := by simp [gstep]
          rw [e1] at c1
          have N : Hid (Gr w _ (gstep (gboth a b) d 3)) := (hI.out.set 2 (by omega) (if gboth a b 2 < d 2 then d 2 else gboth a b 2)).congr (fun j hj => by match j, hj with | 0, _ | 1, _ | 2, _ | 3, _ | 4, _ | 5, _ => simp [gstep])
          clear e1
          go_wp2
          go_roundw
          case rel => exact ⟨3, by omega, by go_num, N⟩
          case measure => simp [intOf]
        | 3, _ =>
          have c1 := hI.out.cur 3 (by omega)
          have f1 := hI.out.fcur 3
          have e1 : gstep (gboth a b) d 3 3 = (gboth a b) 3 := by simp [gstep]
          rw [e1] at c1
          have N : Hid (Gr w _ (gstep (gboth a b) d 4)) := (hI.out.set 3 (by omega) (if gboth a b 3 < d 3 then d 3 else gboth a b 3)).congr (fun j hj => by match j, hj with | 0, _ | 1, _ | 2, _ | 3, _ | 4, _ | 5, _ => simp [gstep])
          clear e1
          go_wp2
          go_roundw
          case rel => exact ⟨4, by omega, by go_num, N⟩
          case measure => simp [intOf]
        | 4, _ =>
          have c1 := hI.out.cur 4 (by omega)
          have f1 := hI.out.fcur 4
          have e1 : gstep (gboth a b) d 4 4 = (gboth a b) 4 := by simp [gstep]
          rw [e1] at c1
          have N : Hid (Gr w _ (gstep (gboth a b) d 5)) := (hI.out.set 4 (by omega) (if gboth a b 4 < d 4 then d 4 else gboth a b 4)).congr (fun j hj => by match j, hj with | 0, _ | 1, _ | 2, _ | 3, _ | 4, _ | 5, _ => simp [gstep])
          clear e1
          go_wp2
          go_roundw
          case rel => exact ⟨5, by omega, by go_num, N⟩
          case measure => simp [intOf]
        | 5, _ =>
          have c1 := hI.out.cur 5 (by omega)
          have f1 := hI.out.fcur 5
          have e1 : gstep (gboth a b) d 5 5 = (gboth a b) 5 := by simp [gstep]
          rw [e1] at c1
          have N : Hid (Gr w _ (gstep (gboth a b) d 6)) := (hI.out.set 5 (by omega) (if gboth a b 5 < d 5 then d 5 else gboth a b 5)).congr (fun j hj => by match j, hj with | 0, _ | 1, _ | 2, _ | 3, _ | 4, _ | 5, _ => simp [gstep])
          clear e1
          go_wp2
          go_roundw
          case rel => exact ⟨6, by omega, by go_num, N⟩
          case measure => simp [intOf]
        | 6, _ =>
          have N : Hid (Gr w wr (g3 a b d)) := hI.out.congr (fun j hj => by match j, hj with | 0, _ | 1, _ | 2, _ | 3, _ | 4, _ | 5, _ => simp [gstep, gboth, g1, g3])
          go_wp2
          go_roundw
          case rel => exact ⟨3, by omega, by go_num, N⟩
          case measure => simp [intOf]
    | 3, _ =>
      have hG1 : Hid (Gr w wr (g3 a b d)) := hG
      clear hG
      have r0 := hG1.out.res 0 (by omega)
      have c0 := hG1.out.cur 0 (by omega)
      have f0 := hG1.out.fres 0
      have r1 := hG1.out.res 1 (by omega)
      have c1 := hG1.out.cur 1 (by omega)
      have f1 := hG1.out.fres 1
      have r2 := hG1.out.res 2 (by omega)
      have c2 := hG1.out.cur 2 (by omega)
      have f2 := hG1.out.fres 2
      have r3 := hG1.out.res 3 (by omega)
      have c3 := hG1.out.cur 3 (by omega)
      have f3 := hG1.out.fres 3
      have r4 := hG1.out.res 4 (by omega)
      have c4 := hG1.out.cur 4 (by omega)
      have f4 := hG1.out.fres 4
      have r5 := hG1.out.res 5 (by omega)
      have c5 := hG1.out.cur 5 (by omega)
      have f5 := hG1.out.fres 5
      go_wp2
      refine bodyPost_ret (v := .agg #[.int .i64 (g3 a b d 0), .int .i64 (g3 a b d 1), .int .i64 (g3 a b d 2), .int .i64 (g3 a b d 3), .int .i64 (g3 a b d 4), .int .i64 (g3 a b d 5)]) (by simp [results, Tryz.results70, go_sem, r0, r1, r2, r3, r4, r5]) rfl ⟨rfl, ?_⟩
      repeat' (first | exact hG1.out.below | refine Below.setCell ?_ (by simp <;> omega) _)

end Go.Proofs.YtaelaldmibgibaaGreat
