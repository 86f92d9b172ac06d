/- The program's Within, hasChangesOf. -/
import Derived.Test.YtaelaldmibgibaaGreatDoorU36
import Derived.Test.YtaelaldmibgibaaGreatDoorU21

set_option linter.unusedVariables false
set_option linter.unusedSimpArgs false

namespace Go.Proofs.YtaelaldmibgibaaGreatDoor
open Go.RowKit Go.Lib
attribute [local go_sem ↓] eqTime
attribute [local go_sem] run_eqM

/-- two times in two new blocks -/
structure W2 (w V : World) (a b : Nat → Int) : Prop where
  a : ∀ j, j < 6 → V.cell? ⟨w.heap.size, j, none⟩ = some (.int .i64 (a j))
  b : ∀ j, j < 6 → V.cell? ⟨w.heap.size + 1, j, none⟩ = some (.int .i64 (b j))
  bel : Below w.heap.size w V
  size : w.heap.size + 2 ≤ V.heap.size
theorem W2.made (w : World) (a b : Nat → Int) : W2 w ((w.alloc (.cells #[.int .i64 (a 0), .int .i64 (a 1), .int .i64 (a 2), .int .i64 (a 3), .int .i64 (a 4), .int .i64 (a 5)] 186)).alloc (.cells #[.int .i64 (b 0), .int .i64 (b 1), .int .i64 (b 2), .int .i64 (b 3), .int .i64 (b 4), .int .i64 (b 5)] 186)) a b := by
  have hz : (w.alloc (.cells #[.int .i64 (a 0), .int .i64 (a 1), .int .i64 (a 2), .int .i64 (a 3), .int .i64 (a 4), .int .i64 (a 5)] 186)).heap.size = w.heap.size + 1 := by simp
  refine ⟨fun j hj => ?_, fun j hj => ?_, ((Below.refl _ _).alloc (Nat.le_refl _) _).alloc (by simp) _, by simp⟩
  · rw [World.cell?_alloc_old _ _ _ (by simp)]
    exact built6 w a _ j hj
  · rw [← hz]
    exact built6 _ b _ j hj
theorem W2.more {w V V' : World} {a b : Nat → Int} (h : W2 w V a b) (hb : Below V.heap.size V V') : W2 w V' a b :=
  ⟨fun j hj => (hb.cell (p := ⟨w.heap.size, j, none⟩) (by have := h.size; simp only; omega)).trans (h.a j hj), fun j hj => (hb.cell (p := ⟨w.heap.size + 1, j, none⟩) (by have := h.size; simp only; omega)).trans (h.b j hj), h.bel.trans (hb.mono h.bel.size), Nat.le_trans h.size hb.size⟩

set_option maxHeartbeats 600000 in
theorem Within_any (a b : Nat → Int) (w : World) :
    Calls Tryz.prog 198 #[.agg #[.int .i64 (a 0), .int .i64 (a 1), .int .i64 (a 2), .int .i64 (a 3), .int .i64 (a 4), .int .i64 (a 5)], .agg #[.int .i64 (b 0), .int .i64 (b 1), .int .i64 (b 2), .int .i64 (b 3), .int .i64 (b 4), .int .i64 (b 5)]] w fun e w' => e = .returned (.bool (leB a b)) ∧ Below w.heap.size w w' := by
  have GB := hide (fun V ty => Greatest_built V a b ty)
  have LE : Hid (leB a b = eqT (gboth a b) b) := rfl
  rw [LE.out]
  generalize gboth a b = c at *
  clear LE
  have S0 := hide (W2.made w a b)
  go_enter Tryz.func198, Tryz.ntmps198
  go_wp2_with fail
  generalize (w.alloc (.cells #[.int .i64 (a 0), .int .i64 (a 1), .int .i64 (a 2), .int .i64 (a 3), .int .i64 (a 4), .int .i64 (a 5)] 186)).alloc (.cells #[.int .i64 (b 0), .int .i64 (b 1), .int .i64 (b 2), .int .i64 (b 3), .int .i64 (b 4), .int .i64 (b 5)] 186) = V at *
  have a0 := S0.out.a 0 (by omega)
  have a1 := S0.out.a 1 (by omega)
  have a2 := S0.out.a 2 (by omega)
  have a3 := S0.out.a 3 (by omega)
  have a4 := S0.out.a 4 (by omega)
  have a5 := S0.out.a 5 (by omega)
  have b0 := S0.out.b 0 (by omega)
  have b1 := S0.out.b 1 (by omega)
  have b2 := S0.out.b 2 (by omega)
  have b3 := S0.out.b 3 (by omega)
  have b4 := S0.out.b 4 (by omega)
  have b5 := S0.out.b 5 (by omega)
  have hz := S0.out.size
  have hn0 : w.heap.size ≠ V.heap.size := by omega
  have hn1 : w.heap.size + 1 ≠ V.heap.size := by omega
  have d0 : ∀ o, (V.alloc o).cell? ⟨w.heap.size + 1, 0, none⟩ = some (.int .i64 (b 0)) := fun o => (World.cell?_alloc_old _ _ _ hn1).trans b0
  have d1 : ∀ o, (V.alloc o).cell? ⟨w.heap.size + 1, 1, none⟩ = some (.int .i64 (b 1)) := fun o => (World.cell?_alloc_old _ _ _ hn1).trans b1
  have d2 : ∀ o, (V.alloc o).cell? ⟨w.heap.size + 1, 2, none⟩ = some (.int .i64 (b 2)) := fun o => (World.cell?_alloc_old _ _ _ hn1).trans b2
  have d3 : ∀ o, (V.alloc o).cell? ⟨w.heap.size + 1, 3, none⟩ = some (.int .i64 (b 3)) := fun o => (World.cell?_alloc_old _ _ _ hn1).trans b3
  have d4 : ∀ o, (V.alloc o).cell? ⟨w.heap.size + 1, 4, none⟩ = some (.int .i64 (b 4)) := fun o => (World.cell?_alloc_old _ _ _ hn1).trans b4
  have d5 : ∀ o, (V.alloc o).cell? ⟨w.heap.size + 1, 5, none⟩ = some (.int .i64 (b 5)) := fun o => (World.cell?_alloc_old _ _ _ hn1).trans b5
  go_region_law (first
    | (go_simp; go_at_call 128; refine (GB.out V.drew _).mono ?_; rintro e w1 ⟨rfl, hb1⟩; have S1 := hide (S0.out.more ⟨hb1.os, hb1.tape, hb1.output, hb1.size, hb1.block⟩); clear hb1; have c0 := S1.out.b 0 (by omega); have c1 := S1.out.b 1 (by omega); have c2 := S1.out.b 2 (by omega); have c3 := S1.out.b 3 (by omega); have c4 := S1.out.b 4 (by omega); have c5 := S1.out.b 5 (by omega); dsimp only))
  all_goals
    go_wp2
    go_ret
    exact ⟨rfl, S1.out.bel⟩

set_option maxHeartbeats 600000 in
theorem hasChangesOf_any (R : Rec) (k : Nat → Int) (w : World) :
    Calls Tryz.prog 223 #[.agg #[.int .i64 (k 0), .int .i64 (k 1), .int .i64 (k 2), .int .i64 (k 3), .int .i64 (k 4), .int .i64 (k 5)], fileVal R] w fun e w' => e = .returned (.bool (leB R.ch k)) ∧ Below w.heap.size w w' := by
  unfold fileVal
  have WI := hide (fun V => Within_any R.ch k V)
  generalize leB R.ch k = z at *
  go_enter Tryz.func223, Tryz.ntmps223
  go_wp2_with (go_at_call 198; refine (WI.out _).mono ?_; rintro e w1 ⟨rfl, hb1⟩)
  go_ret
  exact ⟨rfl, (((Below.refl _ _).alloc (Nat.le_refl _) _).alloc (by simp) _).trans (hb1.mono (by simp; omega))⟩

end Go.Proofs.YtaelaldmibgibaaGreatDoor
