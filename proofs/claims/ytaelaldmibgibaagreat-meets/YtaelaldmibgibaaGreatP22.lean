/- The program's replica in memory; count, countIsFull; a record's small functions. The document's answer: gone, Remove. The document's answer: kept, Look. -/
import Derived.Test.YtaelaldmibgibaaGreatRows
import Derived.WalkKit
import Derived.WalkSpells
import Derived.WalkLawsBesides
import Derived.Deep.AppendLies
import Derived.Deep.MidRow
import Derived.Deep.DrawnRows
import Derived.BigQuiet
import Derived.Deep.QuietTactic
import Derived.Deep.RegionWith
import Derived.Deep.RegionHeld3
import Derived.ChangeKeysEq
import Derived.Test.YtaelaldmibgibaaGreatP01
import Derived.Test.YtaelaldmibgibaaGreatP18
import Derived.Test.YtaelaldmibgibaaGreatP19
import Derived.Deep.DeepMust
import Derived.Test.YtaelaldmibgibaaGreatP03

set_option linter.unusedVariables false
set_option linter.unusedSimpArgs false
set_option linter.unusedSectionVars false

namespace Go.Proofs.YtaelaldmibgibaaGreat
open Go.RowKit

/-- a record -/
structure Rec where
  text : ByteArray
  br : Int
  bn : Int
  ch : Nat → Int
  kn : Nat → Int
def fileVal (R : Rec) : Value := .agg #[.string R.text, .int .i64 R.br, .int .i64 R.bn, .int .i64 (R.ch 0), .int .i64 (R.ch 1), .int .i64 (R.ch 2), .int .i64 (R.ch 3), .int .i64 (R.ch 4), .int .i64 (R.ch 5)]
def recVal (R : Rec) : Value := .agg #[.string R.text, .int .i64 R.br, .int .i64 R.bn, .int .i64 (R.ch 0), .int .i64 (R.ch 1), .int .i64 (R.ch 2), .int .i64 (R.ch 3), .int .i64 (R.ch 4), .int .i64 (R.ch 5), .int .i64 (R.kn 0), .int .i64 (R.kn 1), .int .i64 (R.kn 2), .int .i64 (R.kn 3), .int .i64 (R.kn 4), .int .i64 (R.kn 5)]
def timeVal (t : Nat → Int) : Value := .agg #[.int .i64 (t 0), .int .i64 (t 1), .int .i64 (t 2), .int .i64 (t 3), .int .i64 (t 4), .int .i64 (t 5)]

set_option maxHeartbeats 400000 in
theorem isThere_any (t : ByteArray) (x y a0 a1 a2 a3 a4 a5 : Int) (w : World) :
    Calls Tryz.prog 60 #[.agg #[.string t, .int .i64 x, .int .i64 y, .int .i64 a0, .int .i64 a1, .int .i64 a2, .int .i64 a3, .int .i64 a4, .int .i64 a5]] w fun e w' => e = .returned (.bool (decide (0 < y))) ∧ Below w.heap.size w w' := by
  go_enter Tryz.func60, Tryz.ntmps60
  go_wp2
  go_ret
  exact ⟨rfl, (Below.refl _ _).alloc (Nat.le_refl _) _⟩

/-- the program's replica: its number, its common time, its map's block -/
structure RepAt (w : World) (rb s : Nat) (cm : Nat → Int) (mb : Nat) : Prop where
  blk : w.heap[rb]? = some (.cells #[.int .i64 s, .int .i64 (cm 0), .int .i64 (cm 1), .int .i64 (cm 2), .int .i64 (cm 3), .int .i64 (cm 4), .int .i64 (cm 5), .map (some mb)] 110 (0, 0))
  hs : s < 6
theorem RepAt.c0 {w rb s cm mb} (h : RepAt w rb s cm mb) : w.cell? ⟨rb, 0, none⟩ = some (.int .i64 s) := by simp [World.cell?, h.blk]
theorem RepAt.c7 {w rb s cm mb} (h : RepAt w rb s cm mb) : w.cell? ⟨rb, 7, none⟩ = some (.map (some mb)) := by simp [World.cell?, h.blk]
theorem RepAt.ct {w rb s cm mb} (h : RepAt w rb s cm mb) (j : Nat) (hj : j < 6) : w.cell? ⟨rb, 1 + j, none⟩ = some (.int .i64 (cm j)) := by
  simp only [World.cell?, h.blk]
  match j, hj with
  | 0, _ | 1, _ | 2, _ | 3, _ | 4, _ | 5, _ => rfl
theorem RepAt.fz {w rb s cm mb} (h : RepAt w rb s cm mb) (j : Nat) : w.frozen? ⟨rb, j, none⟩ = false := by simp [World.frozen?, h.blk]
theorem RepAt.lt {w rb s cm mb} (h : RepAt w rb s cm mb) : rb < w.heap.size := (Array.getElem?_eq_some_iff.1 h.blk).1
theorem RepAt.keep {w w' : World} {rb s : Nat} {cm : Nat → Int} {mb : Nat} (h : RepAt w rb s cm mb) (hk : w'.heap[rb]? = w.heap[rb]?) : RepAt w' rb s cm mb := ⟨by rw [hk]; exact h.blk, h.hs⟩

set_option maxHeartbeats 400000 in
theorem count_any (rb s : Nat) (cm : Nat → Int) (mb : Nat) (w : World) (h : RepAt w rb s cm mb) :
    Calls Tryz.prog 68 #[.pointer (some ⟨rb, 0, none⟩)] w fun e w' => e = .returned (.int .i64 (cm s)) ∧ ∃ nq, w' = w.drewN nq := by
  have c0 := h.c0
  have cs := h.ct s h.hs
  have hs := h.hs
  have hs1 : (0 : Int) ≤ (s : Int) := by omega
  have hs2 : (s : Int) < 6 := by omega
  clear h
  generalize cm s = x at *
  go_enter Tryz.func68, Tryz.ntmps68
  go_wp2
  go_quiet (fail)
  go_wp2
  go_ret
  exact ⟨rfl, _, rfl⟩

set_option maxHeartbeats 400000 in
theorem countIsFull_any (rb s : Nat) (cm : Nat → Int) (mb : Nat) (w : World) (h : RepAt w rb s cm mb) :
    Calls Tryz.prog 49 #[.pointer (some ⟨rb, 0, none⟩)] w fun e w' => e = .returned (.bool (decide (1000000000 ≤ cm s))) ∧ ∃ nq, w' = w.drewN nq := by
  have C := hide (count_any rb s cm mb w h)
  clear h
  go_enter Tryz.func49, Tryz.ntmps49
  go_wp2_with (go_at_call 68; refine C.out.mono ?_; rintro e w' ⟨rfl, nq, rfl⟩)
  go_ret
  exact ⟨rfl, _, rfl⟩

/-- a comparison of two times -/
def eqT (t u : Nat → Int) : Bool := (t 0 == u 0) && ((t 1 == u 1) && ((t 2 == u 2) && ((t 3 == u 3) && ((t 4 == u 4) && (t 5 == u 5)))))
theorem cells_int : Tryz.prog.cellsOf 3 = 1 := by kernel_rfl
theorem run_eq_time (t u : Nat → Int) (w : World) : (Op.equalIn 10000 108 (.agg #[.int .i64 (t 0), .int .i64 (t 1), .int .i64 (t 2), .int .i64 (t 3), .int .i64 (t 4), .int .i64 (t 5)]) (.agg #[.int .i64 (u 0), .int .i64 (u 1), .int .i64 (u 2), .int .i64 (u 3), .int .i64 (u 4), .int .i64 (u 5)])).run Tryz.prog w = .ok (eqT t u) w := by
  obtain ⟨i0, hi, hz0, hz1, hz2⟩ := info_parts info_int
  have hagg : ∀ w, (isAgg 3).run Tryz.prog w = .ok false w := fun w => by simp [isAgg, run_underlying Tryz.underlying3]
  have hr : List.range 6 = [0, 1, 2, 3, 4, 5] := rfl
  have heq : ∀ (x y : Int) (w : World), (Op.equalIn 9999 3 (.int .i64 x) (.int .i64 y)).run Tryz.prog w = .ok (x == y) w := fun x y w => run_equalIn_int w 9998 3 .i64 .i64 x y Tryz.underlying3
  rw [show (10000 : Nat) = 9999 + 1 from rfl, run_equalIn_array w 9999 _ _ Tryz.underlying108 hi, hr, cells_int]
  have hp : ∀ (t : Nat → Int) (k : Nat) (w : World), k < 6 → (part 3 #[.int .i64 (t 0), .int .i64 (t 1), .int .i64 (t 2), .int .i64 (t 3), .int .i64 (t 4), .int .i64 (t 5)] (k * 1)).run Tryz.prog w = .ok (.int .i64 (t k)) w := by
    intro t k w hk
    match k, hk with
    | 0, _ | 1, _ | 2, _ | 3, _ | 4, _ | 5, _ => simp [part, hagg]
  have step : ∀ (is : List Nat) (k : Nat) (w : World), k < 6 → (Op.eqItems 9999 3 1 #[.int .i64 (t 0), .int .i64 (t 1), .int .i64 (t 2), .int .i64 (t 3), .int .i64 (t 4), .int .i64 (t 5)] #[.int .i64 (u 0), .int .i64 (u 1), .int .i64 (u 2), .int .i64 (u 3), .int .i64 (u 4), .int .i64 (u 5)] (k :: is)).run Tryz.prog w =
      if (t k == u k) = true then (Op.eqItems 9999 3 1 #[.int .i64 (t 0), .int .i64 (t 1), .int .i64 (t 2), .int .i64 (t 3), .int .i64 (t 4), .int .i64 (t 5)] #[.int .i64 (u 0), .int .i64 (u 1), .int .i64 (u 2), .int .i64 (u 3), .int .i64 (u 4), .int .i64 (u 5)] is).run Tryz.prog w else .ok false w := by
    intro is k w hk
    simp only [Op.eqItems, Sem.run_bind, hp t k w hk, hp u k w hk, heq, Result.andThen_ok]
    cases t k == u k <;> simp
  rw [step _ 0 w (by omega), step _ 1 w (by omega), step _ 2 w (by omega), step _ 3 w (by omega), step _ 4 w (by omega), step _ 5 w (by omega)]
  unfold eqT
  cases t 0 == u 0 <;> cases t 1 == u 1 <;> cases t 2 == u 2 <;> cases t 3 == u 3 <;> cases t 4 == u 4 <;> cases t 5 == u 5 <;> rfl

/-- kept from the walk's own way of comparing -/
def eqM (x y : Value) : Sem Value := binOp .eql 108 x y
theorem eqTime (x y : Value) : binOp .eql 108 x y = eqM x y := rfl
theorem run_eqM (t u : Nat → Int) (w : World) : (eqM (.agg #[.int .i64 (t 0), .int .i64 (t 1), .int .i64 (t 2), .int .i64 (t 3), .int .i64 (t 4), .int .i64 (t 5)]) (.agg #[.int .i64 (u 0), .int .i64 (u 1), .int .i64 (u 2), .int .i64 (u 3), .int .i64 (u 4), .int .i64 (u 5)])).run Tryz.prog w = .ok (.bool (eqT t u)) w := by
  unfold eqM
  rw [run_eql_struct, run_eq_time]
  rfl
attribute [local go_sem ↓] eqTime
attribute [local go_sem] run_eqM

set_option maxHeartbeats 400000 in
theorem isJust_any (t u : Nat → Int) (w : World) :
    Calls Tryz.prog 80 #[.agg #[.int .i64 (t 0), .int .i64 (t 1), .int .i64 (t 2), .int .i64 (t 3), .int .i64 (t 4), .int .i64 (t 5)], .agg #[.int .i64 (u 0), .int .i64 (u 1), .int .i64 (u 2), .int .i64 (u 3), .int .i64 (u 4), .int .i64 (u 5)]] w fun e w' => e = .returned (.bool (eqT t u)) ∧ Below w.heap.size w w' := by
  go_enter Tryz.func80, Tryz.ntmps80
  go_wp2
  go_ret
  exact ⟨rfl, ((Below.refl _ _).alloc (Nat.le_refl _) _).alloc (by simp) _⟩

end Go.Proofs.YtaelaldmibgibaaGreat

namespace Go.Proofs.YtaelaldmibgibaaGreat
open Go.RowKit
attribute [local go_sem ↓] Go.wp_at_zero Go.wp_at_succ

/-- the world where a spot's four plain cells are cleared -/
def cleared (w : World) (g o : Nat) : World := (((w.setCell ⟨g, o, none⟩ (.bool false)).setCell ⟨g, o + 1, none⟩ (.string ⟨#[]⟩)).setCell ⟨g, o + 2, none⟩ (.int .i64 0)).setCell ⟨g, o + 3, none⟩ (.int .i64 0)
end Go.Proofs.YtaelaldmibgibaaGreat

namespace Go.Proofs.YtaelaldmibgibaaGreat
open Go.RowKit
attribute [local go_sem ↓] Go.wp_at_zero Go.wp_at_succ


theorem mine_drewN {w : World} {k n : Nat} {W : World} (h : Mine w k n W) (m : Nat) : Mine w k n (W.drewN m) := ⟨⟨h.below.os, h.below.tape, h.below.output, h.below.size, h.below.block⟩, h.ge, h.lt, h.some, h.fz⟩
end Go.Proofs.YtaelaldmibgibaaGreat
