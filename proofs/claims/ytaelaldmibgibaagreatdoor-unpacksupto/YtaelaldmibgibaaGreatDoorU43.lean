/- The program's Look, of any records. -/
import Derived.Test.YtaelaldmibgibaaGreatDoorU41

set_option linter.unusedVariables false
set_option linter.unusedSimpArgs false

namespace Go.Proofs.YtaelaldmibgibaaGreatDoor
open Go.RowKit Go.Maps
attribute [local go_sem ↓] stState
attribute [local go_sem] run_stState

set_option maxRecDepth 100000 in
set_option maxHeartbeats 1000000 in
theorem plook_gen (rb s : Nat) (cm : Nat → Int) (mb : Nat) (E : Recs) (w : World) (h : Rp w rb s cm mb E) (hl : E.length < 100000000) :
    Calls Tryz.prog 148 #[.pointer (some ⟨rb, 0, none⟩)] w fun e w' => e = .returned (.agg #[.int .i64 (cm s), .int .i64 (thereE E).length, .int .i64 E.length]) ∧ Below w.heap.size w w' := by
  have MB : Hid (Mine w w.heap.size 3 ((w.alloc (.cells #[.int .i64 0, .int .i64 0, .int .i64 0] 166)).drewN 1)) := mine_drewN (Mine.made' w #[.int .i64 0, .int .i64 0, .int .i64 0] 166 (n := 3) rfl) 1
  have CN : Hid (∀ V, Mine w w.heap.size 3 V → Calls Tryz.prog 168 #[.pointer (some ⟨rb, 0, none⟩)] V fun e w' => e = .returned (.int .i64 (cm s)) ∧ Mine w w.heap.size 3 w') := by
    intro V hM
    have := count_any rb s cm mb V (h.below hM.below).rep
    refine this.mono ?_
    rintro e w' ⟨rfl, nq, rfl⟩
    exact ⟨rfl, mine_drewN hM nq⟩
  have FN : Hid (∀ V, Mine w w.heap.size 3 V → Calls Tryz.prog 129 #[.pointer (some ⟨rb, 0, none⟩)] V fun e w' => e = .returned (.int .i64 (thereE E).length) ∧ Mine w w.heap.size 3 w') := by
    intro V hM
    have hV := h.below hM.below
    refine (pfiles_gen rb s _ mb V hV.rep E h.ris hl hV.own).mono ?_
    rintro e w' ⟨rfl, hb⟩
    exact ⟨rfl, Mine.call (p := True) ⟨hM, trivial⟩ hb⟩
  have ON : Hid (∀ V, Mine w w.heap.size 3 V → V.ownsMap Tryz.prog 9 recElem mb E.length (datOf E)) := fun V hM => (h.below hM.below).own
  have C7 : Hid (∀ V, Mine w w.heap.size 3 V → V.cell? ⟨rb, 7, none⟩ = some (.map (some mb))) := fun V hM => (h.below hM.below).rep.c7
  have hlt := h.rep.lt
  have hne : rb ≠ w.heap.size := by omega
  have c7 := h.rep.c7
  have ez := size_datOf E
  have EZ := hide ez
  clear h ez
  go_enter Tryz.func148, Tryz.ntmps148
  go_wp2
  go_region_law (first
    | (go_simp; go_at_call 168; refine (CN.out _ (by first | exact MF.out | exact MB.out)).mono ?_; rintro e w1 ⟨rfl, M1r⟩; have MC := hide M1r; have d7 := C7.out w1 M1r; have dth := M1r.there; clear M1r; dsimp only)
    | (go_simp; go_at_call 129; refine (FN.out _ (by first | exact MC.out | exact MB.out)).mono ?_; rintro e w2 ⟨rfl, M2r⟩; have MF := hide M2r; have f7 := C7.out w2 M2r; have fth := M2r.there; clear M2r; dsimp only)
    | (refine step_len_own rfl _ _ rfl 9 197 Tryz.underlying184 recElem mb E.length (datOf E) rfl (by first | exact ON.out _ MB.out | exact ON.out _ MC.out | exact ON.out _ MF.out) _ EZ.out ?_; dsimp only))
  all_goals
    go_wp2
    first
      | exact bodyPost_ret (ret_cell1 Tryz.results148 (a := ⟨w.heap.size, 0, none⟩) rfl (load_stored (cs := [_, _, _]) MF.out.there Tryz.underlying166 rfl size_State)) rfl ⟨rfl, (Mine.setCells (p := True) ⟨MF.out, trivial⟩ 0 _).below⟩
      | exact bodyPost_ret (ret_cell1 Tryz.results148 (a := ⟨w.heap.size, 0, none⟩) rfl (load_stored (cs := [_, _, _]) MC.out.there Tryz.underlying166 rfl size_State)) rfl ⟨rfl, (Mine.setCells (p := True) ⟨MC.out, trivial⟩ 0 _).below⟩


end Go.Proofs.YtaelaldmibgibaaGreatDoor
