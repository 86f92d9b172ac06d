/- Times of the program: Greatest, of one time. The program's replica in memory; count, countIsFull; a record's small functions. -/
import Derived.Test.YtaelaldmibgibaaGreatDoorW09
import Derived.ChangeKeysEq

namespace Go.Proofs.YtaelaldmibgibaaGreatDoor
open Go.RowKit
attribute [local go_sem ↓] idxTime
attribute [local go_sem] run_idx0 run_idx1 run_idx2 run_idx3 run_idx4 run_idx5

set_option maxRecDepth 100000 in
set_option maxHeartbeats 2000000 in
theorem Greatest_one (g c : Nat) (a : Nat → Int) (w : World) (hg : g < w.heap.size) (ha : ∀ j, j < 6 → w.cell? ⟨g, j, none⟩ = some (.int .i64 (a j))) :
    Calls Tryz.prog 128 #[.slice (some ⟨g, 0, none⟩) 1 c] w fun e w' => e = .returned (.agg #[.int .i64 (g1 a 0), .int .i64 (g1 a 1), .int .i64 (g1 a 2), .int .i64 (g1 a 3), .int .i64 (g1 a 4), .int .i64 (g1 a 5)]) ∧ Below w.heap.size w w' := by
  have start := hide (Gr.start w)
  have HA := hide ha
  clear ha
  go_enter Tryz.func128, Tryz.ntmps128
  go_wp2
  go_loopw [10] (fun i wr => ∃ k : Nat, k ≤ 1 ∧ i = .int .i64 k ∧ Hid (Gr w wr (if k = 0 then zer else g1 a))) (fun i _ => 1 - (intOf i).toNat)
  case atStart => exact ⟨0, by omega, rfl, start⟩
  case round =>
    obtain ⟨k, hk, rfl, hG⟩ := hrel
    have hsz := hG.out.size
    match k, hk with
    | 0, _ =>
      have hG1 : Hid (Gr w wr (zer)) := hG
      clear hG
      have q0 : wr.cell? ⟨g, 0, none⟩ = some (.int .i64 (a 0)) := (hG1.out.below.cell (p := ⟨g, 0, none⟩) hg).trans (HA.out 0 (by omega))
      have q1 : wr.cell? ⟨g, 1, none⟩ = some (.int .i64 (a 1)) := (hG1.out.below.cell (p := ⟨g, 1, none⟩) hg).trans (HA.out 1 (by omega))
      have q2 : wr.cell? ⟨g, 2, none⟩ = some (.int .i64 (a 2)) := (hG1.out.below.cell (p := ⟨g, 2, none⟩) hg).trans (HA.out 2 (by omega))
      have q3 : wr.cell? ⟨g, 3, none⟩ = some (.int .i64 (a 3)) := (hG1.out.below.cell (p := ⟨g, 3, none⟩) hg).trans (HA.out 3 (by omega))
      have q4 : wr.cell? ⟨g, 4, none⟩ = some (.int .i64 (a 4)) := (hG1.out.below.cell (p := ⟨g, 4, none⟩) hg).trans (HA.out 4 (by omega))
      have q5 : wr.cell? ⟨g, 5, none⟩ = some (.int .i64 (a 5)) := (hG1.out.below.cell (p := ⟨g, 5, none⟩) hg).trans (HA.out 5 (by omega))
      go_wp2
      clear q0 q1 q2 q3 q4 q5
      have hG2 : Hid (Gr w _ (gstep (zer) a 0)) := (hG1.out.more ((Below.refl _ _).alloc (Nat.le_refl _) (.cells #[.int .i64 (a 0), .int .i64 (a 1), .int .i64 (a 2), .int .i64 (a 3), .int .i64 (a 4), .int .i64 (a 5)] 186))).congr (fun j _ => by simp [gstep])
      go_loopw [15] (fun i wi => ∃ k : Nat, k ≤ 6 ∧ i = .int .i64 k ∧ Hid (Gr w wi (gstep (zer) a k))) (fun i _ => 6 - (intOf i).toNat)
      case atStart => exact ⟨0, by omega, rfl, hG2⟩
      case round =>
        obtain ⟨k, hk, rfl, hI⟩ := hrel
        clear hG1 hG2 hsz
        match k, hk with
        | 0, _ =>
          have c1 := hI.out.cur 0 (by omega)
          have f1 := hI.out.fcur 0
          have e1 : gstep (zer) a 0 0 = (zer) 0 := by simp [gstep]
          rw [e1] at c1
          have N : Hid (Gr w _ (gstep (zer) a 1)) := (hI.out.set 0 (by omega) (if zer 0 < a 0 then a 0 else zer 0)).congr (fun j hj => by match j, hj with | 0, _ | 1, _ | 2, _ | 3, _ | 4, _ | 5, _ => simp [gstep])
          clear e1
          go_wp2
          go_roundw
          case rel => exact ⟨1, by omega, by go_num, N⟩
          case measure => simp [intOf]
        | 1, _ =>
          have c1 := hI.out.cur 1 (by omega)
          have f1 := hI.out.fcur 1
          have e1 : gstep (zer) a 1 1 = (zer) 1 := by simp [gstep]
          rw [e1] at c1
          have N : Hid (Gr w _ (gstep (zer) a 2)) := (hI.out.set 1 (by omega) (if zer 1 < a 1 then a 1 else zer 1)).congr (fun j hj => by match j, hj with | 0, _ | 1, _ | 2, _ | 3, _ | 4, _ | 5, _ => simp [gstep])
          clear e1
          go_wp2
          go_roundw
          case rel => exact ⟨2, by omega, by go_num, N⟩
          case measure => simp [intOf]
        | 2, _ =>
          have c1 := hI.out.cur 2 (by omega)
          have f1 := hI.out.fcur 2
          have e1 : gstep (zer) a 2 2 = (zer) 2 := by simp [gstep]
          rw [e1] at c1
          have N : Hid (Gr w _ (gstep (zer) a 3)) := (hI.out.set 2 (by omega) (if zer 2 < a 2 then a 2 else zer 2)).congr (fun j hj => by match j, hj with | 0, _ | 1, _ | 2, _ | 3, _ | 4, _ | 5, _ => simp [gstep])
          clear e1
          go_wp2
          go_roundw
          case rel => exact ⟨3, by omega, by go_num, N⟩
          case measure => simp [intOf]
        | 3, _ =>
          have c1 := hI.out.cur 3 (by omega)
          have f1 := hI.out.fcur 3
          have e1 : gstep (zer) a 3 3 = (zer) 3 := by simp [gstep]
          rw [e1] at c1
          have N : Hid (Gr w _ (gstep (zer) a 4)) := (hI.out.set 3 (by omega) (if zer 3 < a 3 then a 3 else zer 3)).congr (fun j hj => by match j, hj with | 0, _ | 1, _ | 2, _ | 3, _ | 4, _ | 5, _ => simp [gstep])
          clear e1
          go_wp2
          go_roundw
          case rel => exact ⟨4, by omega, by go_num, N⟩
          case measure => simp [intOf]
        | 4, _ =>
          have c1 := hI.out.cur 4 (by omega)
          have f1 := hI.out.fcur 4
          have e1 : gstep (zer) a 4 4 = (zer) 4 := by simp [gstep]
          rw [e1] at c1
          have N : Hid (Gr w _ (gstep (zer) a 5)) := (hI.out.set 4 (by omega) (if zer 4 < a 4 then a 4 else zer 4)).congr (fun j hj => by match j, hj with | 0, _ | 1, _ | 2, _ | 3, _ | 4, _ | 5, _ => simp [gstep])
          clear e1
          go_wp2
          go_roundw
          case rel => exact ⟨5, by omega, by go_num, N⟩
          case measure => simp [intOf]
        | 5, _ =>
          have c1 := hI.out.cur 5 (by omega)
          have f1 := hI.out.fcur 5
          have e1 : gstep (zer) a 5 5 = (zer) 5 := by simp [gstep]
          rw [e1] at c1
          have N : Hid (Gr w _ (gstep (zer) a 6)) := (hI.out.set 5 (by omega) (if zer 5 < a 5 then a 5 else zer 5)).congr (fun j hj => by match j, hj with | 0, _ | 1, _ | 2, _ | 3, _ | 4, _ | 5, _ => simp [gstep])
          clear e1
          go_wp2
          go_roundw
          case rel => exact ⟨6, by omega, by go_num, N⟩
          case measure => simp [intOf]
        | 6, _ =>
          have N : Hid (Gr w wr (g1 a)) := hI.out.congr (fun j hj => by match j, hj with | 0, _ | 1, _ | 2, _ | 3, _ | 4, _ | 5, _ => simp [gstep, g1])
          go_wp2
          go_roundw
          case rel => exact ⟨1, by omega, by go_num, N⟩
          case measure => simp [intOf]
    | 1, _ =>
      have hG1 : Hid (Gr w wr (g1 a)) := hG
      clear hG
      have r0 := hG1.out.res 0 (by omega)
      have c0 := hG1.out.cur 0 (by omega)
      have f0 := hG1.out.fres 0
      have r1 := hG1.out.res 1 (by omega)
      have c1 := hG1.out.cur 1 (by omega)
      have f1 := hG1.out.fres 1
      have r2 := hG1.out.res 2 (by omega)
      have c2 := hG1.out.cur 2 (by omega)
      have f2 := hG1.out.fres 2
      have r3 := hG1.out.res 3 (by omega)
      have c3 := hG1.out.cur 3 (by omega)
      have f3 := hG1.out.fres 3
      have r4 := hG1.out.res 4 (by omega)
      have c4 := hG1.out.cur 4 (by omega)
      have f4 := hG1.out.fres 4
      have r5 := hG1.out.res 5 (by omega)
      have c5 := hG1.out.cur 5 (by omega)
      have f5 := hG1.out.fres 5
      go_wp2
      refine bodyPost_ret (v := .agg #[.int .i64 (g1 a 0), .int .i64 (g1 a 1), .int .i64 (g1 a 2), .int .i64 (g1 a 3), .int .i64 (g1 a 4), .int .i64 (g1 a 5)]) (by simp [results, Tryz.results128, go_sem, r0, r1, r2, r3, r4, r5]) rfl ⟨rfl, ?_⟩
      repeat' (first | exact hG1.out.below | refine Below.setCell ?_ (by simp <;> omega) _)

end Go.Proofs.YtaelaldmibgibaaGreatDoor

namespace Go.Proofs.YtaelaldmibgibaaGreatDoor
open Go.RowKit

/-- a record -/
structure Rec where
  text : ByteArray
  br : Int
  bn : Int
  ch : Nat → Int
  kn : Nat → Int
def fileVal (R : Rec) : Value := .agg #[.string R.text, .int .i64 R.br, .int .i64 R.bn, .int .i64 (R.ch 0), .int .i64 (R.ch 1), .int .i64 (R.ch 2), .int .i64 (R.ch 3), .int .i64 (R.ch 4), .int .i64 (R.ch 5)]
def recVal (R : Rec) : Value := .agg #[.string R.text, .int .i64 R.br, .int .i64 R.bn, .int .i64 (R.ch 0), .int .i64 (R.ch 1), .int .i64 (R.ch 2), .int .i64 (R.ch 3), .int .i64 (R.ch 4), .int .i64 (R.ch 5), .int .i64 (R.kn 0), .int .i64 (R.kn 1), .int .i64 (R.kn 2), .int .i64 (R.kn 3), .int .i64 (R.kn 4), .int .i64 (R.kn 5)]
def timeVal (t : Nat → Int) : Value := .agg #[.int .i64 (t 0), .int .i64 (t 1), .int .i64 (t 2), .int .i64 (t 3), .int .i64 (t 4), .int .i64 (t 5)]

set_option maxHeartbeats 400000 in
theorem isThere_any (t : ByteArray) (x y a0 a1 a2 a3 a4 a5 : Int) (w : World) :
    Calls Tryz.prog 113 #[.agg #[.string t, .int .i64 x, .int .i64 y, .int .i64 a0, .int .i64 a1, .int .i64 a2, .int .i64 a3, .int .i64 a4, .int .i64 a5]] w fun e w' => e = .returned (.bool (decide (0 < y))) ∧ Below w.heap.size w w' := by
  go_enter Tryz.func113, Tryz.ntmps113
  go_wp2
  go_ret
  exact ⟨rfl, (Below.refl _ _).alloc (Nat.le_refl _) _⟩

/-- the program's replica: its number, its common time, its map's block -/
structure RepAt (w : World) (rb s : Nat) (cm : Nat → Int) (mb : Nat) : Prop where
  blk : w.heap[rb]? = some (.cells #[.int .i64 s, .int .i64 (cm 0), .int .i64 (cm 1), .int .i64 (cm 2), .int .i64 (cm 3), .int .i64 (cm 4), .int .i64 (cm 5), .map (some mb)] 188 (0, 0))
  hs : s < 6
theorem RepAt.c0 {w rb s cm mb} (h : RepAt w rb s cm mb) : w.cell? ⟨rb, 0, none⟩ = some (.int .i64 s) := by simp [World.cell?, h.blk]
theorem RepAt.c7 {w rb s cm mb} (h : RepAt w rb s cm mb) : w.cell? ⟨rb, 7, none⟩ = some (.map (some mb)) := by simp [World.cell?, h.blk]
theorem RepAt.ct {w rb s cm mb} (h : RepAt w rb s cm mb) (j : Nat) (hj : j < 6) : w.cell? ⟨rb, 1 + j, none⟩ = some (.int .i64 (cm j)) := by
  simp only [World.cell?, h.blk]
  match j, hj with
  | 0, _ | 1, _ | 2, _ | 3, _ | 4, _ | 5, _ => rfl
theorem RepAt.fz {w rb s cm mb} (h : RepAt w rb s cm mb) (j : Nat) : w.frozen? ⟨rb, j, none⟩ = false := by simp [World.frozen?, h.blk]
theorem RepAt.lt {w rb s cm mb} (h : RepAt w rb s cm mb) : rb < w.heap.size := (Array.getElem?_eq_some_iff.1 h.blk).1
theorem RepAt.keep {w w' : World} {rb s : Nat} {cm : Nat → Int} {mb : Nat} (h : RepAt w rb s cm mb) (hk : w'.heap[rb]? = w.heap[rb]?) : RepAt w' rb s cm mb := ⟨by rw [hk]; exact h.blk, h.hs⟩

set_option maxHeartbeats 400000 in
theorem count_any (rb s : Nat) (cm : Nat → Int) (mb : Nat) (w : World) (h : RepAt w rb s cm mb) :
    Calls Tryz.prog 168 #[.pointer (some ⟨rb, 0, none⟩)] w fun e w' => e = .returned (.int .i64 (cm s)) ∧ ∃ nq, w' = w.drewN nq := by
  have c0 := h.c0
  have cs := h.ct s h.hs
  have hs := h.hs
  have hs1 : (0 : Int) ≤ (s : Int) := by omega
  have hs2 : (s : Int) < 6 := by omega
  clear h
  generalize cm s = x at *
  go_enter Tryz.func168, Tryz.ntmps168
  go_wp2
  go_quiet (fail)
  go_wp2
  go_ret
  exact ⟨rfl, _, rfl⟩

set_option maxHeartbeats 400000 in
theorem countIsFull_any (rb s : Nat) (cm : Nat → Int) (mb : Nat) (w : World) (h : RepAt w rb s cm mb) :
    Calls Tryz.prog 105 #[.pointer (some ⟨rb, 0, none⟩)] w fun e w' => e = .returned (.bool (decide (1000000000 ≤ cm s))) ∧ ∃ nq, w' = w.drewN nq := by
  have C := hide (count_any rb s cm mb w h)
  clear h
  go_enter Tryz.func105, Tryz.ntmps105
  go_wp2_with (go_at_call 168; refine C.out.mono ?_; rintro e w' ⟨rfl, nq, rfl⟩)
  go_ret
  exact ⟨rfl, _, rfl⟩

/-- a comparison of two times -/
def eqT (t u : Nat → Int) : Bool := (t 0 == u 0) && ((t 1 == u 1) && ((t 2 == u 2) && ((t 3 == u 3) && ((t 4 == u 4) && (t 5 == u 5)))))
theorem cells_int : Tryz.prog.cellsOf 3 = 1 := by kernel_rfl
theorem run_eq_time (t u : Nat → Int) (w : World) : (Op.equalIn 10000 186 (.agg #[.int .i64 (t 0), .int .i64 (t 1), .int .i64 (t 2), .int .i64 (t 3), .int .i64 (t 4), .int .i64 (t 5)]) (.agg #[.int .i64 (u 0), .int .i64 (u 1), .int .i64 (u 2), .int .i64 (u 3), .int .i64 (u 4), .int .i64 (u 5)])).run Tryz.prog w = .ok (eqT t u) w := by
  obtain ⟨i0, hi, hz0, hz1, hz2⟩ := info_parts info_int
  have hagg : ∀ w, (isAgg 3).run Tryz.prog w = .ok false w := fun w => by simp [isAgg, run_underlying Tryz.underlying3]
  have hr : List.range 6 = [0, 1, 2, 3, 4, 5] := rfl
  have heq : ∀ (x y : Int) (w : World), (Op.equalIn 9999 3 (.int .i64 x) (.int .i64 y)).run Tryz.prog w = .ok (x == y) w := fun x y w => run_equalIn_int w 9998 3 .i64 .i64 x y Tryz.underlying3
  rw [show (10000 : Nat) = 9999 + 1 from rfl, run_equalIn_array w 9999 _ _ Tryz.underlying186 hi, hr, cells_int]
  have hp : ∀ (t : Nat → Int) (k : Nat) (w : World), k < 6 → (part 3 #[.int .i64 (t 0), .int .i64 (t 1), .int .i64 (t 2), .int .i64 (t 3), .int .i64 (t 4), .int .i64 (t 5)] (k * 1)).run Tryz.prog w = .ok (.int .i64 (t k)) w := by
    intro t k w hk
    match k, hk with
    | 0, _ | 1, _ | 2, _ | 3, _ | 4, _ | 5, _ => simp [part, hagg]
  have step : ∀ (is : List Nat) (k : Nat) (w : World), k < 6 → (Op.eqItems 9999 3 1 #[.int .i64 (t 0), .int .i64 (t 1), .int .i64 (t 2), .int .i64 (t 3), .int .i64 (t 4), .int .i64 (t 5)] #[.int .i64 (u 0), .int .i64 (u 1), .int .i64 (u 2), .int .i64 (u 3), .int .i64 (u 4), .int .i64 (u 5)] (k :: is)).run Tryz.prog w =
      if (t k == u k) = true then (Op.eqItems 9999 3 1 #[.int .i64 (t 0), .int .i64 (t 1), .int .i64 (t 2), .int .i64 (t 3), .int .i64 (t 4), .int .i64 (t 5)] #[.int .i64 (u 0), .int .i64 (u 1), .int .i64 (u 2), .int .i64 (u 3), .int .i64 (u 4), .int .i64 (u 5)] is).run Tryz.prog w else .ok false w := by
    intro is k w hk
    simp only [Op.eqItems, Sem.run_bind, hp t k w hk, hp u k w hk, heq, Result.andThen_ok]
    cases t k == u k <;> simp
  rw [step _ 0 w (by omega), step _ 1 w (by omega), step _ 2 w (by omega), step _ 3 w (by omega), step _ 4 w (by omega), step _ 5 w (by omega)]
  unfold eqT
  cases t 0 == u 0 <;> cases t 1 == u 1 <;> cases t 2 == u 2 <;> cases t 3 == u 3 <;> cases t 4 == u 4 <;> cases t 5 == u 5 <;> rfl

/-- kept from the walk's own way of comparing -/
def eqM (x y : Value) : Sem Value := binOp .eql 186 x y
theorem eqTime (x y : Value) : binOp .eql 186 x y = eqM x y := rfl
theorem run_eqM (t u : Nat → Int) (w : World) : (eqM (.agg #[.int .i64 (t 0), .int .i64 (t 1), .int .i64 (t 2), .int .i64 (t 3), .int .i64 (t 4), .int .i64 (t 5)]) (.agg #[.int .i64 (u 0), .int .i64 (u 1), .int .i64 (u 2), .int .i64 (u 3), .int .i64 (u 4), .int .i64 (u 5)])).run Tryz.prog w = .ok (.bool (eqT t u)) w := by
  unfold eqM
  rw [run_eql_struct, run_eq_time]
  rfl
attribute [local go_sem ↓] eqTime
attribute [local go_sem] run_eqM

set_option maxHeartbeats 400000 in
theorem isJust_any (t u : Nat → Int) (w : World) :
    Calls Tryz.prog 199 #[.agg #[.int .i64 (t 0), .int .i64 (t 1), .int .i64 (t 2), .int .i64 (t 3), .int .i64 (t 4), .int .i64 (t 5)], .agg #[.int .i64 (u 0), .int .i64 (u 1), .int .i64 (u 2), .int .i64 (u 3), .int .i64 (u 4), .int .i64 (u 5)]] w fun e w' => e = .returned (.bool (eqT t u)) ∧ Below w.heap.size w w' := by
  go_enter Tryz.func199, Tryz.ntmps199
  go_wp2
  go_ret
  exact ⟨rfl, ((Below.refl _ _).alloc (Nat.le_refl _) _).alloc (by simp) _⟩

end Go.Proofs.YtaelaldmibgibaaGreatDoor
