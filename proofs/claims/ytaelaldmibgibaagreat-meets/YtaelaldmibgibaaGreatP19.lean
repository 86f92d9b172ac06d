/- Times of the program: Greatest, of two times. -/
import Derived.Test.YtaelaldmibgibaaGreatRows
import Derived.WalkKit
import Derived.WalkSpells
import Derived.WalkLawsBesides
import Derived.Deep.AppendLies
import Derived.Deep.MidRow
import Derived.Deep.RegionWith
import Derived.Deep.RegionHeld3
import Derived.Deep.DrawnRows
import Derived.BigQuiet
import Derived.Deep.QuietTactic
import Derived.Test.YtaelaldmibgibaaGreatP01
import Derived.Test.YtaelaldmibgibaaGreatP18

set_option linter.unusedVariables false
set_option linter.unusedSimpArgs false
set_option linter.unusedSectionVars false

namespace Go.Proofs.YtaelaldmibgibaaGreat
open Go.RowKit

/-- the first k numbers are taken together -/
def gstep (G A : Nat → Int) (k j : Nat) : Int := if j < k then (if G j < A j then A j else G j) else G j
def zer (_ : Nat) : Int := 0
def g1 (a : Nat → Int) (j : Nat) : Int := if zer j < a j then a j else zer j
def gboth (a b : Nat → Int) (j : Nat) : Int := if g1 a j < b j then b j else g1 a j

/-- how the world stands between the rounds -/
structure Gr (w wr : World) (G : Nat → Int) : Prop where
  below : Below w.heap.size w wr
  size : w.heap.size + 2 ≤ wr.heap.size
  res : ∀ j, j < 6 → wr.cell? ⟨w.heap.size, j, none⟩ = some (.int .i64 0)
  cur : ∀ j, j < 6 → wr.cell? ⟨w.heap.size + 1, j, none⟩ = some (.int .i64 (G j))
  fres : ∀ j, wr.frozen? ⟨w.heap.size, j, none⟩ = false
  fcur : ∀ j, wr.frozen? ⟨w.heap.size + 1, j, none⟩ = false

theorem Gr.set {w wr : World} {G : Nat → Int} (h : Gr w wr G) (k : Nat) (hk : k < 6) (x : Int) : Gr w (wr.setCell ⟨w.heap.size + 1, k, none⟩ (.int .i64 x)) (fun j => if j = k then x else G j) := by
  refine ⟨h.below.setCell (by simp) _, by rw [show (wr.setCell ⟨w.heap.size + 1, k, none⟩ (.int .i64 x)).heap.size = wr.heap.size by simp [World.setCell]]; exact h.size, ?_, ?_, ?_, ?_⟩
  · intro j hj
    exact (World.cell?_setCell_other wr ⟨w.heap.size + 1, k, none⟩ ⟨w.heap.size, j, none⟩ _ (by simp)).trans (h.res j hj)
  · intro j hj
    by_cases e : j = k
    · subst e
      rw [if_pos rfl]
      exact World.cell?_setCell_same _ _ _ (h.cur j hj)
    · rw [if_neg e]
      exact (World.cell?_setCell_other wr ⟨w.heap.size + 1, k, none⟩ ⟨w.heap.size + 1, j, none⟩ _ (by simp <;> omega)).trans (h.cur j hj)
  · intro j; rw [World.frozen?_setCell]; exact h.fres j
  · intro j; rw [World.frozen?_setCell]; exact h.fcur j
theorem Gr.more {w wr w' : World} {G : Nat → Int} (h : Gr w wr G) (hb : Below wr.heap.size wr w') : Gr w w' G := by
  have hs := h.size
  refine ⟨h.below.trans (hb.mono (by omega)), by have := hb.size; omega, ?_, ?_, ?_, ?_⟩
  · intro j hj; rw [hb.cell (by simp only; omega)]; exact h.res j hj
  · intro j hj; rw [hb.cell (by simp only; omega)]; exact h.cur j hj
  · intro j; rw [hb.frozen (by simp only; omega)]; exact h.fres j
  · intro j; rw [hb.frozen (by simp only; omega)]; exact h.fcur j
theorem Gr.congr {w wr : World} {G G' : Nat → Int} (h : Gr w wr G) (e : ∀ j, j < 6 → G j = G' j) : Gr w wr G' :=
  ⟨h.below, h.size, h.res, fun j hj => by rw [← e j hj]; exact h.cur j hj, h.fres, h.fcur⟩

/-- a number of a time that is a value -/
def idxM (x i : Value) : Sem Value := Instr.index 108 x i
theorem idxTime (x i : Value) : Instr.index 108 x i = idxM x i := rfl
theorem run_idx (w : World) (a : Nat → Int) (k : Nat) (hk : k < 6) : (idxM (.agg #[.int .i64 (a 0), .int .i64 (a 1), .int .i64 (a 2), .int .i64 (a 3), .int .i64 (a 4), .int .i64 (a 5)]) (.int .i64 k)).run Tryz.prog w = .ok (.int .i64 (a k)) w := by
  obtain ⟨i0, hi, hz0, hz1, hz2⟩ := info_parts info_int
  have hagg : (isAgg 3).run Tryz.prog w = .ok false w := by simp [isAgg, run_underlying Tryz.underlying3]
  match k, hk with
  | 0, _ | 1, _ | 2, _ | 3, _ | 4, _ | 5, _ => simp [idxM, Instr.index, asIntOf, run_underlying Tryz.underlying108, sizeOf, typeInfo, hi, hz1, part]
theorem run_idx0 (w : World) (a : Nat → Int) : (idxM (.agg #[.int .i64 (a 0), .int .i64 (a 1), .int .i64 (a 2), .int .i64 (a 3), .int .i64 (a 4), .int .i64 (a 5)]) (.int .i64 0)).run Tryz.prog w = .ok (.int .i64 (a 0)) w := run_idx w a 0 (by omega)
theorem run_idx1 (w : World) (a : Nat → Int) : (idxM (.agg #[.int .i64 (a 0), .int .i64 (a 1), .int .i64 (a 2), .int .i64 (a 3), .int .i64 (a 4), .int .i64 (a 5)]) (.int .i64 1)).run Tryz.prog w = .ok (.int .i64 (a 1)) w := run_idx w a 1 (by omega)
theorem run_idx2 (w : World) (a : Nat → Int) : (idxM (.agg #[.int .i64 (a 0), .int .i64 (a 1), .int .i64 (a 2), .int .i64 (a 3), .int .i64 (a 4), .int .i64 (a 5)]) (.int .i64 2)).run Tryz.prog w = .ok (.int .i64 (a 2)) w := run_idx w a 2 (by omega)
theorem run_idx3 (w : World) (a : Nat → Int) : (idxM (.agg #[.int .i64 (a 0), .int .i64 (a 1), .int .i64 (a 2), .int .i64 (a 3), .int .i64 (a 4), .int .i64 (a 5)]) (.int .i64 3)).run Tryz.prog w = .ok (.int .i64 (a 3)) w := run_idx w a 3 (by omega)
theorem run_idx4 (w : World) (a : Nat → Int) : (idxM (.agg #[.int .i64 (a 0), .int .i64 (a 1), .int .i64 (a 2), .int .i64 (a 3), .int .i64 (a 4), .int .i64 (a 5)]) (.int .i64 4)).run Tryz.prog w = .ok (.int .i64 (a 4)) w := run_idx w a 4 (by omega)
theorem run_idx5 (w : World) (a : Nat → Int) : (idxM (.agg #[.int .i64 (a 0), .int .i64 (a 1), .int .i64 (a 2), .int .i64 (a 3), .int .i64 (a 4), .int .i64 (a 5)]) (.int .i64 5)).run Tryz.prog w = .ok (.int .i64 (a 5)) w := run_idx w a 5 (by omega)
attribute [local go_sem ↓] idxTime
attribute [local go_sem] run_idx0 run_idx1 run_idx2 run_idx3 run_idx4 run_idx5

theorem Gr.start (w : World) : Gr w ((w.alloc (.cells #[.int .i64 0, .int .i64 0, .int .i64 0, .int .i64 0, .int .i64 0, .int .i64 0] 108)).alloc (.cells #[.int .i64 0, .int .i64 0, .int .i64 0, .int .i64 0, .int .i64 0, .int .i64 0] 108)) zer := by
  have M1 := Mine.made' w #[.int .i64 0, .int .i64 0, .int .i64 0, .int .i64 0, .int .i64 0, .int .i64 0] 108 (n := 6) rfl
  have c1 : ∀ j, j < 6 → (w.alloc (.cells #[.int .i64 0, .int .i64 0, .int .i64 0, .int .i64 0, .int .i64 0, .int .i64 0] 108)).cell? ⟨w.heap.size, j, none⟩ = some (.int .i64 0) := by
    intro j hj
    simp only [World.cell?, heap_alloc_new]
    match j, hj with
    | 0, _ | 1, _ | 2, _ | 3, _ | 4, _ | 5, _ => rfl
  generalize hW : w.alloc (.cells #[.int .i64 0, .int .i64 0, .int .i64 0, .int .i64 0, .int .i64 0, .int .i64 0] 108) = W at *
  have hs : W.heap.size = w.heap.size + 1 := by rw [← hW]; simp
  have M2 := Mine.made' W #[.int .i64 0, .int .i64 0, .int .i64 0, .int .i64 0, .int .i64 0, .int .i64 0] 108 (n := 6) rfl
  refine ⟨M1.below.trans (M2.below.mono (by omega)), by have := M2.lt; omega, ?_, ?_, ?_, ?_⟩
  · intro j hj; rw [M2.below.cell (by simp only; omega)]; exact c1 j hj
  · intro j hj
    rw [← hs]
    simp only [World.cell?, heap_alloc_new]
    match j, hj with
    | 0, _ | 1, _ | 2, _ | 3, _ | 4, _ | 5, _ => rfl
  · intro j; rw [M2.below.frozen (by simp only; omega)]; exact M1.fz j
  · intro j; rw [← hs]; exact M2.fz j

set_option maxRecDepth 100000 in
set_option maxHeartbeats 2000000 in
theorem Greatest_any (g c : Nat) (a b : Nat → Int) (w : World) (hg : g < w.heap.size) (ha : ∀ j, j < 6 → w.cell? ⟨g, j, none⟩ = some (.int .i64 (a j))) (hb : ∀ j, j < 6 → w.cell? ⟨g, 6 + j, none⟩ = some (.int .i64 (b j))) :
    Calls Tryz.prog 70 #[.slice (some ⟨g, 0, none⟩) 2 c] w fun e w' => e = .returned (.agg #[.int .i64 (gboth a b 0), .int .i64 (gboth a b 1), .int .i64 (gboth a b 2), .int .i64 (gboth a b 3), .int .i64 (gboth a b 4), .int .i64 (gboth a b 5)]) ∧ Below w.heap.size w w' := by
  have start := hide (Gr.start w)
  have HA := hide ha
  have HB := hide hb
  clear ha hb
  go_enter Tryz.func70, Tryz.ntmps70
  go_wp2
  go_loopw [10] (fun i wr => ∃ k : Nat, k ≤ 2 ∧ i = .int .i64 k ∧ Hid (Gr w wr (if k = 0 then zer else if k = 1 then g1 a else gboth a b))) (fun i _ => 2 - (intOf i).toNat)
  case atStart => exact ⟨0, by omega, rfl, start⟩
  case round =>
    obtain ⟨k, hk, rfl, hG⟩ := hrel
    have hsz := hG.out.size
    match k, hk with
    | 0, _ =>
      have hG1 : Hid (Gr w wr (zer)) := hG
      clear hG
      have q0 : wr.cell? ⟨g, 0, none⟩ = some (.int .i64 (a 0)) := (hG1.out.below.cell (p := ⟨g, 0, none⟩) hg).trans (HA.out 0 (by omega))
      have q1 : wr.cell? ⟨g, 1, none⟩ = some (.int .i64 (a 1)) := (hG1.out.below.cell (p := ⟨g, 1, none⟩) hg).trans (HA.out 1 (by omega))
      have q2 : wr.cell? ⟨g, 2, none⟩ = some (.int .i64 (a 2)) := (hG1.out.below.cell (p := ⟨g, 2, none⟩) hg).trans (HA.out 2 (by omega))
      have q3 : wr.cell? ⟨g, 3, none⟩ = some (.int .i64 (a 3)) := (hG1.out.below.cell (p := ⟨g, 3, none⟩) hg).trans (HA.out 3 (by omega))
      have q4 : wr.cell? ⟨g, 4, none⟩ = some (.int .i64 (a 4)) := (hG1.out.below.cell (p := ⟨g, 4, none⟩) hg).trans (HA.out 4 (by omega))
      have q5 : wr.cell? ⟨g, 5, none⟩ = some (.int .i64 (a 5)) := (hG1.out.below.cell (p := ⟨g, 5, none⟩) hg).trans (HA.out 5 (by omega))
      go_wp2
      clear q0 q1 q2 q3 q4 q5
      have hG2 : Hid (Gr w _ (gstep (zer) a 0)) := (hG1.out.more ((Below.refl _ _).alloc (Nat.le_refl _) (.cells #[.int .i64 (a 0), .int .i64 (a 1), .int .i64 (a 2), .int .i64 (a 3), .int .i64 (a 4), .int .i64 (a 5)] 108))).congr (fun j _ => by simp [gstep])
      go_loopw [15] (fun i wi => ∃ k : Nat, k ≤ 6 ∧ i = .int .i64 k ∧ Hid (Gr w wi (gstep (zer) a k))) (fun i _ => 6 - (intOf i).toNat)
      case atStart => exact ⟨0, by omega, rfl, hG2⟩
      case round =>
        obtain ⟨k, hk, rfl, hI⟩ := hrel
        clear hG1 hG2 hsz
        match k, hk with
        | 0, _ =>
          have c1 := hI.out.cur 0 (by omega)
          have f1 := hI.out.fcur 0
          have e1 : gstep (zer) a 0 0 = (zer) 0 := by simp [gstep]
          rw [e1] at c1
          have N : Hid (Gr w _ (gstep (zer) a 1)) := (hI.out.set 0 (by omega) (if zer 0 < a 0 then a 0 else zer 0)).congr (fun j hj => by match j, hj with | 0, _ | 1, _ | 2, _ | 3, _ | 4, _ | 5, _ => simp [gstep])
          clear e1
          go_wp2
          go_roundw
          case rel => exact ⟨1, by omega, by go_num, N⟩
          case measure => simp [intOf]
        | 1, _ =>
          have c1 := hI.out.cur 1 (by omega)
          have f1 := hI.out.fcur 1
          have e1 : gstep (zer) a 1 1 = (zer) 1 := by simp [gstep]
          rw [e1] at c1
          have N : Hid (Gr w _ (gstep (zer) a 2)) := (hI.out.set 1 (by omega) (if zer 1 < a 1 then a 1 else zer 1)).congr (fun j hj => by match j, hj with | 0, _ | 1, _ | 2, _ | 3, _ | 4, _ | 5, _ => simp [gstep])
          clear e1
          go_wp2
          go_roundw
          case rel => exact ⟨2, by omega, by go_num, N⟩
          case measure => simp [intOf]
        | 2, _ =>
          have c1 := hI.out.cur 2 (by omega)
          have f1 := hI.out.fcur 2
          have e1 : gstep (zer) a 2 2 = (zer) 2 := by simp [gstep]
          rw [e1] at c1
          have N : Hid (Gr w _ (gstep (zer) a 3)) := (hI.out.set 2 (by omega) (if zer 2 < a 2 then a 2 else zer 2)).congr (fun j hj => by match j, hj with | 0, _ | 1, _ | 2, _ | 3, _ | 4, _ | 5, _ => simp [gstep])
          clear e1
          go_wp2
          go_roundw
          case rel => exact ⟨3, by omega, by go_num, N⟩
          case measure => simp [intOf]
        | 3, _ =>
          have c1 := hI.out.cur 3 (by omega)
          have f1 := hI.out.fcur 3
          have e1 : gstep (zer) a 3 3 = (zer) 3 := by simp [gstep]
          rw [e1] at c1
          have N : Hid (Gr w _ (gstep (zer) a 4)) := (hI.out.set 3 (by omega) (if zer 3 < a 3 then a 3 else zer 3)).congr (fun j hj => by match j, hj with | 0, _ | 1, _ | 2, _ | 3, _ | 4, _ | 5, _ => simp [gstep])
          clear e1
          go_wp2
          go_roundw
          case rel => exact ⟨4, by omega, by go_num, N⟩
          case measure => simp [intOf]
        | 4, _ =>
          have c1 := hI.out.cur 4 (by omega)
          have f1 := hI.out.fcur 4
          have e1 : gstep (zer) a 4 4 = (zer) 4 := by simp [gstep]
          rw [e1] at c1
          have N : Hid (Gr w _ (gstep (zer) a 5)) := (hI.out.set 4 (by omega) (if zer 4 < a 4 then a 4 else zer 4)).congr (fun j hj => by match j, hj with | 0, _ | 1, _ | 2, _ | 3, _ | 4, _ | 5, _ => simp [gstep])
          clear e1
          go_wp2
          go_roundw
          case rel => exact ⟨5, by omega, by go_num, N⟩
          case measure => simp [intOf]
        | 5, _ =>
          have c1 := hI.out.cur 5 (by omega)
          have f1 := hI.out.fcur 5
          have e1 : gstep (zer) a 5 5 = (zer) 5 := by simp [gstep]
          rw [e1] at c1
          have N : Hid (Gr w _ (gstep (zer) a 6)) := (hI.out.set 5 (by omega) (if zer 5 < a 5 then a 5 else zer 5)).congr (fun j hj => by match j, hj with | 0, _ | 1, _ | 2, _ | 3, _ | 4, _ | 5, _ => simp [gstep])
          clear e1
          go_wp2
          go_roundw
          case rel => exact ⟨6, by omega, by go_num, N⟩
          case measure => simp [intOf]
        | 6, _ =>
          have N : Hid (Gr w wr (g1 a)) := hI.out.congr (fun j hj => by match j, hj with | 0, _ | 1, _ | 2, _ | 3, _ | 4, _ | 5, _ => simp [gstep, g1])
          go_wp2
          go_roundw
          case rel => exact ⟨1, by omega, by go_num, N⟩
          case measure => simp [intOf]
    | 1, _ =>
      have hG1 : Hid (Gr w wr (g1 a)) := hG
      clear hG
      have q0 : wr.cell? ⟨g, 6, none⟩ = some (.int .i64 (b 0)) := (hG1.out.below.cell (p := ⟨g, 6, none⟩) hg).trans (HB.out 0 (by omega))
      have q1 : wr.cell? ⟨g, 7, none⟩ = some (.int .i64 (b 1)) := (hG1.out.below.cell (p := ⟨g, 7, none⟩) hg).trans (HB.out 1 (by omega))
      have q2 : wr.cell? ⟨g, 8, none⟩ = some (.int .i64 (b 2)) := (hG1.out.below.cell (p := ⟨g, 8, none⟩) hg).trans (HB.out 2 (by omega))
      have q3 : wr.cell? ⟨g, 9, none⟩ = some (.int .i64 (b 3)) := (hG1.out.below.cell (p := ⟨g, 9, none⟩) hg).trans (HB.out 3 (by omega))
      have q4 : wr.cell? ⟨g, 10, none⟩ = some (.int .i64 (b 4)) := (hG1.out.below.cell (p := ⟨g, 10, none⟩) hg).trans (HB.out 4 (by omega))
      have q5 : wr.cell? ⟨g, 11, none⟩ = some (.int .i64 (b 5)) := (hG1.out.below.cell (p := ⟨g, 11, none⟩) hg).trans (HB.out 5 (by omega))
      go_wp2
      clear q0 q1 q2 q3 q4 q5
      have hG2 : Hid (Gr w _ (gstep (g1 a) b 0)) := (hG1.out.more ((Below.refl _ _).alloc (Nat.le_refl _) (.cells #[.int .i64 (b 0), .int .i64 (b 1), .int .i64 (b 2), .int .i64 (b 3), .int .i64 (b 4), .int .i64 (b 5)] 108))).congr (fun j _ => by simp [gstep])
      go_loopw [15] (fun i wi => ∃ k : Nat, k ≤ 6 ∧ i = .int .i64 k ∧ Hid (Gr w wi (gstep (g1 a) b k))) (fun i _ => 6 - (intOf i).toNat)
      case atStart => exact ⟨0, by omega, rfl, hG2⟩
      case round =>
        obtain ⟨k, hk, rfl, hI⟩ := hrel
        clear hG1 hG2 hsz
        match k, hk with
        | 0, _ =>
          have c1 := hI.out.cur 0 (by omega)
          have f1 := hI.out.fcur 0
          have e1 : gstep (g1 a) b 0 0 = (g1 a) 0 := by simp [gstep]
          rw [e1] at c1
          have N : Hid (Gr w _ (gstep (g1 a) b 1)) := (hI.out.set 0 (by omega) (if g1 a 0 < b 0 then b 0 else g1 a 0)).congr (fun j hj => by match j, hj with | 0, _ | 1, _ | 2, _ | 3, _ | 4, _ | 5, _ => simp [gstep])
          clear e1
          go_wp2
          go_roundw
          case rel => exact ⟨1, by omega, by go_num, N⟩
          case measure => simp [intOf]
        | 1, _ =>
          have c1 := hI.out.cur 1 (by omega)
          have f1 := hI.out.fcur 1
          have e1 : gstep (g1 a) b 1 1 = (g1 a) 1 := by simp [gstep]
          rw [e1] at c1
          have N : Hid (Gr w _ (gstep (g1 a) b 2)) := (hI.out.set 1 (by omega) (if g1 a 1 < b 1 then b 1 else g1 a 1)).congr (fun j hj => by match j, hj with | 0, _ | 1, _ | 2, _ | 3, _ | 4, _ | 5, _ => simp [gstep])
          clear e1
          go_wp2
          go_roundw
          case rel => exact ⟨2, by omega, by go_num, N⟩
          case measure => simp [intOf]
        | 2, _ =>
          have c1 := hI.out.cur 2 (by omega)
          have f1 := hI.out.fcur 2
          have e1 : gstep (g1 a) b 2 2 = (g1 a) 2 := by simp [gstep]
          rw [e1] at c1
          have N : Hid (Gr w _ (gstep (g1 a) b 3)) := (hI.out.set 2 (by omega) (if g1 a 2 < b 2 then b 2 else g1 a 2)).congr (fun j hj => by match j, hj with | 0, _ | 1, _ | 2, _ | 3, _ | 4, _ | 5, _ => simp [gstep])
          clear e1
          go_wp2
          go_roundw
          case rel => exact ⟨3, by omega, by go_num, N⟩
          case measure => simp [intOf]
        | 3, _ =>
          have c1 := hI.out.cur 3 (by omega)
          have f1 := hI.out.fcur 3
          have e1 : gstep (g1 a) b 3 3 = (g1 a) 3 := by simp [gstep]
          rw [e1] at c1
          have N : Hid (Gr w _ (gstep (g1 a) b 4)) := (hI.out.set 3 (by omega) (if g1 a 3 < b 3 then b 3 else g1 a 3)).congr (fun j hj => by match j, hj with | 0, _ | 1, _ | 2, _ | 3, _ | 4, _ | 5, _ => simp [gstep])
          clear e1
          go_wp2
          go_roundw
          case rel => exact ⟨4, by omega, by go_num, N⟩
          case measure => simp [intOf]
        | 4, _ =>
          have c1 := hI.out.cur 4 (by omega)
          have f1 := hI.out.fcur 4
          have e1 : gstep (g1 a) b 4 4 = (g1 a) 4 := by simp [gstep]
          rw [e1] at c1
          have N : Hid (Gr w _ (gstep (g1 a) b 5)) := (hI.out.set 4 (by omega) (if g1 a 4 < b 4 then b 4 else g1 a 4)).congr (fun j hj => by match j, hj with | 0, _ | 1, _ | 2, _ | 3, _ | 4, _ | 5, _ => simp [gstep])
          clear e1
          go_wp2
          go_roundw
          case rel => exact ⟨5, by omega, by go_num, N⟩
          case measure => simp [intOf]
        | 5, _ =>
          have c1 := hI.out.cur 5 (by omega)
          have f1 := hI.out.fcur 5
          have e1 : gstep (g1 a) b 5 5 = (g1 a) 5 := by simp [gstep]
          rw [e1] at c1
          have N : Hid (Gr w _ (gstep (g1 a) b 6)) := (hI.out.set 5 (by omega) (if g1 a 5 < b 5 then b 5 else g1 a 5)).congr (fun j hj => by match j, hj with | 0, _ | 1, _ | 2, _ | 3, _ | 4, _ | 5, _ => simp [gstep])
          clear e1
          go_wp2
          go_roundw
          case rel => exact ⟨6, by omega, by go_num, N⟩
          case measure => simp [intOf]
        | 6, _ =>
          have N : Hid (Gr w wr (gboth a b)) := hI.out.congr (fun j hj => by match j, hj with | 0, _ | 1, _ | 2, _ | 3, _ | 4, _ | 5, _ => simp [gstep, gboth, g1])
          go_wp2
          go_roundw
          case rel => exact ⟨2, by omega, by go_num, N⟩
          case measure => simp [intOf]
    | 2, _ =>
      have hG1 : Hid (Gr w wr (gboth a b)) := hG
      clear hG
      have r0 := hG1.out.res 0 (by omega)
      have c0 := hG1.out.cur 0 (by omega)
      have f0 := hG1.out.fres 0
      have r1 := hG1.out.res 1 (by omega)
      have c1 := hG1.out.cur 1 (by omega)
      have f1 := hG1.out.fres 1
      have r2 := hG1.out.res 2 (by omega)
      have c2 := hG1.out.cur 2 (by omega)
      have f2 := hG1.out.fres 2
      have r3 := hG1.out.res 3 (by omega)
      have c3 := hG1.out.cur 3 (by omega)
      have f3 := hG1.out.fres 3
      have r4 := hG1.out.res 4 (by omega)
      have c4 := hG1.out.cur 4 (by omega)
      have f4 := hG1.out.fres 4
      have r5 := hG1.out.res 5 (by omega)
      have c5 := hG1.out.cur 5 (by omega)
      have f5 := hG1.out.fres 5
      go_wp2
      refine bodyPost_ret (v := .agg #[.int .i64 (gboth a b 0), .int .i64 (gboth a b 1), .int .i64 (gboth a b 2), .int .i64 (gboth a b 3), .int .i64 (gboth a b 4), .int .i64 (gboth a b 5)]) (by simp [results, Tryz.results70, go_sem, r0, r1, r2, r3, r4, r5]) rfl ⟨rfl, ?_⟩
      repeat' (first | exact hG1.out.below | refine Below.setCell ?_ (by simp <;> omega) _)

end Go.Proofs.YtaelaldmibgibaaGreat
