/- Times of the program: Greatest, of one time. -/
import Derived.Test.YtaelaldmibgibaaGreatRows
import Derived.WalkKit
import Derived.WalkSpells
import Derived.WalkLawsBesides
import Derived.Deep.AppendLies
import Derived.Deep.MidRow
import Derived.Deep.RegionWith
import Derived.Deep.RegionHeld3
import Derived.Deep.DrawnRows
import Derived.BigQuiet
import Derived.Deep.QuietTactic
import Derived.Test.YtaelaldmibgibaaGreatP01
import Derived.Test.YtaelaldmibgibaaGreatP18
import Derived.Test.YtaelaldmibgibaaGreatP19

set_option linter.unusedVariables false
set_option linter.unusedSimpArgs false
set_option linter.unusedSectionVars false

namespace Go.Proofs.YtaelaldmibgibaaGreat
open Go.RowKit
attribute [local go_sem ↓] idxTime
attribute [local go_sem] run_idx0 run_idx1 run_idx2 run_idx3 run_idx4 run_idx5

set_option maxRecDepth 100000 in
set_option maxHeartbeats 2000000 in
theorem Greatest_one (g c : Nat) (a : Nat → Int) (w : World) (hg : g < w.heap.size) (ha : ∀ j, j < 6 → w.cell? ⟨g, j, none⟩ = some (.int .i64 (a j))) :
    Calls Tryz.prog 70 #[.slice (some ⟨g, 0, none⟩) 1 c] w fun e w' => e = .returned (.agg #[.int .i64 (g1 a 0), .int .i64 (g1 a 1), .int .i64 (g1 a 2), .int .i64 (g1 a 3), .int .i64 (g1 a 4), .int .i64 (g1 a 5)]) ∧ Below w.heap.size w w' := by
  have start := hide (Gr.start w)
  have HA := hide ha
  clear ha
  go_enter Tryz.func70, Tryz.ntmps70
  go_wp2
  go_loopw [10] (fun i wr => ∃ k : Nat, k ≤ 1 ∧ i = .int .i64 k ∧ Hid (Gr w wr (if k = 0 then zer else g1 a))) (fun i _ => 1 - (intOf i).toNat)
  case atStart => exact ⟨0, by omega, rfl, start⟩
  case round =>
    obtain ⟨k, hk, rfl, hG⟩ := hrel
    have hsz := hG.out.size
    match k, hk with
    | 0, _ =>
      have hG1 : Hid (Gr w wr (zer)) := hG
      clear hG
      have q0 : wr.cell? ⟨g, 0, none⟩ = some (.int .i64 (a 0)) := (hG1.out.below.cell (p := ⟨g, 0, none⟩) hg).trans (HA.out 0 (by omega))
      have q1 : wr.cell? ⟨g, 1, none⟩ = some (.int .i64 (a 1)) := (hG1.out.below.cell (p := ⟨g, 1, none⟩) hg).trans (HA.out 1 (by omega))
      have q2 : wr.cell? ⟨g, 2, none⟩ = some (.int .i64 (a 2)) := (hG1.out.below.cell (p := ⟨g, 2, none⟩) hg).trans (HA.out 2 (by omega))
      have q3 : wr.cell? ⟨g, 3, none⟩ = some (.int .i64 (a 3)) := (hG1.out.below.cell (p := ⟨g, 3, none⟩) hg).trans (HA.out 3 (by omega))
      have q4 : wr.cell? ⟨g, 4, none⟩ = some (.int .i64 (a 4)) := (hG1.out.below.cell (p := ⟨g, 4, none⟩) hg).trans (HA.out 4 (by omega))
      have q5 : wr.cell? ⟨g, 5, none⟩ = some (.int .i64 (a 5)) := (hG1.out.below.cell (p := ⟨g, 5, none⟩) hg).trans (HA.out 5 (by omega))
      go_wp2
      clear q0 q1 q2 q3 q4 q5
      have hG2 : Hid (Gr w _ (gstep (zer) a 0)) := (hG1.out.more ((Below.refl _ _).alloc (Nat.le_refl _) (.cells #[.int .i64 (a 0), .int .i64 (a 1), .int .i64 (a 2), .int .i64 (a 3), .int .i64 (a 4), .int .i64 (a 5)] 108))).congr (fun j _ => by simp [gstep])
      go_loopw [15] (fun i wi => ∃ k : Nat, k ≤ 6 ∧ i = .int .i64 k ∧ Hid (Gr w wi (gstep (zer) a k))) (fun i _ => 6 - (intOf i).toNat)
      case atStart => exact ⟨0, by omega, rfl, hG2⟩
      case round =>
        obtain ⟨k, hk, rfl, hI⟩ := hrel
        clear hG1 hG2 hsz
        match k, hk with
        | 0, _ =>
          have c1 := hI.out.cur 0 (by omega)
          have f1 := hI.out.fcur 0
          have e1 : gstep (zer) a 0 0 = (zer) 0 := by simp [gstep]
          rw [e1] at c1
          have N : Hid (Gr w _ (gstep (zer) a 1)) := (hI.out.set 0 (by omega) (if zer 0 < a 0 then a 0 else zer 0)).congr (fun j hj => by match j, hj with | 0, _ | 1, _ | 2, _ | 3, _ | 4, _ | 5, _ => simp [gstep])
          clear e1
          go_wp2
          go_roundw
          case rel => exact ⟨1, by omega, by go_num, N⟩
          case measure => simp [intOf]
        | 1, _ =>
          have c1 := hI.out.cur 1 (by omega)
          have f1 := hI.out.fcur 1
          have e1 : gstep (zer) a 1 1 = (zer) 1 := by simp [gstep]
          rw [e1] at c1
          have N : Hid (Gr w _ (gstep (zer) a 2)) := (hI.out.set 1 (by omega) (if zer 1 < a 1 then a 1 else zer 1)).congr (fun j hj => by match j, hj with | 0, _ | 1, _ | 2, _ | 3, _ | 4, _ | 5, _ => simp [gstep])
          clear e1
          go_wp2
          go_roundw
          case rel => exact ⟨2, by omega, by go_num, N⟩
          case measure => simp [intOf]
        | 2, _ =>
          have c1 := hI.out.cur 2 (by omega)
          have f1 := hI.out.fcur 2
          have e1 : gstep (zer) a 2 2 = (zer) 2 := by simp [gstep]
          rw [e1] at c1
          have N : Hid (Gr w _ (gstep (zer) a 3)) := (hI.out.set 2 (by omega) (if zer 2 < a 2 then a 2 else zer 2)).congr (fun j hj => by match j, hj with | 0, _ | 1, _ | 2, _ | 3, _ | 4, _ | 5, _ => simp [gstep])
          clear e1
          go_wp2
          go_roundw
          case rel => exact ⟨3, by omega, by go_num, N⟩
          case measure => simp [intOf]
        | 3, _ =>
          have c1 := hI.out.cur 3 (by omega)
          have f1 := hI.out.fcur 3
          have e1 : gstep (zer) a 3 3 = (zer) 3 := by simp [gstep]
          rw [e1] at c1
          have N : Hid (Gr w _ (gstep (zer) a 4)) := (hI.out.set 3 (by omega) (if zer 3 < a 3 then a 3 else zer 3)).congr (fun j hj => by match j, hj with | 0, _ | 1, _ | 2, _ | 3, _ | 4, _ | 5, _ => simp [gstep])
          clear e1
          go_wp2
          go_roundw
          case rel => exact ⟨4, by omega, by go_num, N⟩
          case measure => simp [intOf]
        | 4, _ =>
          have c1 := hI.out.cur 4 (by omega)
          have f1 := hI.out.fcur 4
          have e1 : gstep (zer) a 4 4 = (zer) 4 := by simp [gstep]
          rw [e1] at c1
          have N : Hid (Gr w _ (gstep (zer) a 5)) := (hI.out.set 4 (by omega) (if zer 4 < a 4 then a 4 else zer 4)).congr (fun j hj => by match j, hj with | 0, _ | 1, _ | 2, _ | 3, _ | 4, _ | 5, _ => simp [gstep])
          clear e1
          go_wp2
          go_roundw
          case rel => exact ⟨5, by omega, by go_num, N⟩
          case measure => simp [intOf]
        | 5, _ =>
          have c1 := hI.out.cur 5 (by omega)
          have f1 := hI.out.fcur 5
          have e1 : gstep (zer) a 5 5 = (zer) 5 := by simp [gstep]
          rw [e1] at c1
          have N : Hid (Gr w _ (gstep (zer) a 6)) := (hI.out.set 5 (by omega) (if zer 5 < a 5 then a 5 else zer 5)).congr (fun j hj => by match j, hj with | 0, _ | 1, _ | 2, _ | 3, _ | 4, _ | 5, _ => simp [gstep])
          clear e1
          go_wp2
          go_roundw
          case rel => exact ⟨6, by omega, by go_num, N⟩
          case measure => simp [intOf]
        | 6, _ =>
          have N : Hid (Gr w wr (g1 a)) := hI.out.congr (fun j hj => by match j, hj with | 0, _ | 1, _ | 2, _ | 3, _ | 4, _ | 5, _ => simp [gstep, g1])
          go_wp2
          go_roundw
          case rel => exact ⟨1, by omega, by go_num, N⟩
          case measure => simp [intOf]
    | 1, _ =>
      have hG1 : Hid (Gr w wr (g1 a)) := hG
      clear hG
      have r0 := hG1.out.res 0 (by omega)
      have c0 := hG1.out.cur 0 (by omega)
      have f0 := hG1.out.fres 0
      have r1 := hG1.out.res 1 (by omega)
      have c1 := hG1.out.cur 1 (by omega)
      have f1 := hG1.out.fres 1
      have r2 := hG1.out.res 2 (by omega)
      have c2 := hG1.out.cur 2 (by omega)
      have f2 := hG1.out.fres 2
      have r3 := hG1.out.res 3 (by omega)
      have c3 := hG1.out.cur 3 (by omega)
      have f3 := hG1.out.fres 3
      have r4 := hG1.out.res 4 (by omega)
      have c4 := hG1.out.cur 4 (by omega)
      have f4 := hG1.out.fres 4
      have r5 := hG1.out.res 5 (by omega)
      have c5 := hG1.out.cur 5 (by omega)
      have f5 := hG1.out.fres 5
      go_wp2
      refine bodyPost_ret (v := .agg #[.int .i64 (g1 a 0), .int .i64 (g1 a 1), .int .i64 (g1 a 2), .int .i64 (g1 a 3), .int .i64 (g1 a 4), .int .i64 (g1 a 5)]) (by simp [results, Tryz.results70, go_sem, r0, r1, r2, r3, r4, r5]) rfl ⟨rfl, ?_⟩
      repeat' (first | exact hG1.out.below | refine Below.setCell ?_ (by simp <;> omega) _)

end Go.Proofs.YtaelaldmibgibaaGreat
