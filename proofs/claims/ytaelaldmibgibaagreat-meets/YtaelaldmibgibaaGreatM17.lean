/- A net that copies a file: begun. -/
import Derived.Test.YtaelaldmibgibaaGreatM16
import Derived.Test.YtaelaldmibgibaaGreatM14

set_option linter.unusedVariables false
set_option linter.unusedSimpArgs false
set_option linter.unusedSectionVars false

namespace Go.Proofs.YtaelaldmibgibaaGreat
open Go.RowKit Go.Sim

def neCh (x y : Value) : Sem Value := binOp .neq 66 x y
theorem neChange (x y : Value) : binOp .neq 66 x y = neCh x y := rfl
theorem run_neCh (w : World) : (neCh (.agg #[.int .i64 1, .string ⟨#[102, 105, 114, 115, 116]⟩, .int .i64 1]) (.agg #[.int .i64 1, .string ⟨#[102, 105, 114, 115, 116]⟩, .int .i64 1])).run (twin Tryz.prog pl) w = .ok (.bool false) w := by kernel_rfl
@[simp] theorem q_call8 (args : Array Value) (w : World) : (callFunc 8 args).run (twin Tryz.prog pl) w = .ok (.enter 8 args) w := q_call (by decide) args w
@[simp] theorem q_call10 (args : Array Value) (w : World) : (callFunc 10 args).run (twin Tryz.prog pl) w = .ok (.enter 10 args) w := q_call (by decide) args w
@[simp] theorem q_call19 (args : Array Value) (w : World) : (callFunc 19 args).run (twin Tryz.prog pl) w = .ok (.enter 19 args) w := q_call (by decide) args w
@[simp] theorem q_call20 (args : Array Value) (w : World) : (callFunc 20 args).run (twin Tryz.prog pl) w = .ok (.enter 20 args) w := q_call (by decide) args w
@[simp] theorem q_call21 (args : Array Value) (w : World) : (callFunc 21 args).run (twin Tryz.prog pl) w = .ok (.enter 21 args) w := q_call (by decide) args w
@[simp] theorem q_call23 (args : Array Value) (w : World) : (callFunc 23 args).run (twin Tryz.prog pl) w = .ok (.enter 23 args) w := q_call (by decide) args w
@[simp] theorem q_call24 (args : Array Value) (w : World) : (callFunc 24 args).run (twin Tryz.prog pl) w = .ok (.enter 24 args) w := q_call (by decide) args w
@[simp] theorem q_call25 (args : Array Value) (w : World) : (callFunc 25 args).run (twin Tryz.prog pl) w = .ok (.enter 25 args) w := q_call (by decide) args w
@[simp] theorem q_call26 (args : Array Value) (w : World) : (callFunc 26 args).run (twin Tryz.prog pl) w = .ok (.enter 26 args) w := q_call (by decide) args w
@[simp] theorem q_call27 (args : Array Value) (w : World) : (callFunc 27 args).run (twin Tryz.prog pl) w = .ok (.enter 27 args) w := q_call (by decide) args w
attribute [local go_sem ↓] neChange
attribute [local go_sem] run_neCh
set_option maxRecDepth 100000 in
set_option maxHeartbeats 1000000 in
theorem begun_any (n : Nat) (h2 : 2 ≤ n) (h6 : n ≤ 6) (w : World) (hx : Fixed w) :
    Calls (twin Tryz.prog pl) 15 #[.int .i64 n] w fun e w' => e = .returned (.pointer (some ⟨w.heap.size, 0, none⟩)) ∧ Ne w w' w.heap.size (begS n) [] := by
  have e0 : (newS n)[0]? = some zero0 := by unfold newS; rw [List.getElem?_replicate, if_pos (by omega)]; rfl
  have e1 : ((newS n).set 0 beg0)[1]? = some zero0 := by rw [List.getElem?_set_ne (by omega)]; unfold newS; rw [List.getElem?_replicate, if_pos (by omega)]; rfl
  have hnl : (newS n).length = n := by simp [newS]
  have e2 : ((newS n).set 0 beg0)[0]? = some beg0 := by rw [List.getElem?_set_self (by omega)]
  have e3 : (begS n)[1]? = some beg1 := by unfold begS; rw [List.getElem?_set_self (by simp; omega)]
  have C1 := hide (eNew n w (by omega) h6 hx)
  have C2 : Hid (∀ V, Ne w V w.heap.size (newS n) [] → Calls (twin Tryz.prog pl) 10 #[.pointer (some ⟨w.heap.size, 0, none⟩), .int .i64 0, .string pFirst, .string pText] V fun e w' => e = .returned (.int .i64 0) ∧ Ne w w' w.heap.size ((newS n).set 0 beg0) []) := fun V hV => by
    refine (eWrite hV 0 e0 pFirst pText in_first (by decide)).mono ?_
    rintro e w' ⟨rfl, hN, _⟩
    exact ⟨by rw [beg_a], hN⟩
  have C3 : Hid (∀ V, Ne w V w.heap.size ((newS n).set 0 beg0) [] → Calls (twin Tryz.prog pl) 22 #[.pointer (some ⟨w.heap.size, 0, none⟩), .int .i64 1, .int .i64 0] V fun e w' => ∃ g cap, e = .returned (.tuple #[.slice (some ⟨g, 0, none⟩) 1 cap, .int .i64 0]) ∧ Ne w w' w.heap.size (begS n) [] ∧ w'.ownsRow 0 66 3 (.slice (some ⟨g, 0, none⟩) 1 cap) 1 [.int .i64 1, .string pFirst, .int .i64 1]) := fun V hV => by
    refine (ePull hV 1 0 (by omega) e1 e2).mono ?_
    rintro e w' ⟨rv, rfl, hN, _, hr⟩
    rw [beg_b]
    rw [beg_c] at hr
    obtain ⟨g, cap, rfl, _⟩ := World.ownsRow.form hr (by simp)
    exact ⟨g, cap, rfl, hN, ownsRow_base hr (fun _ _ => Nat.zero_le _)⟩
  have C4 : Hid (∀ V, Ne w V w.heap.size (begS n) [] → Calls (twin Tryz.prog pl) 25 #[.pointer (some ⟨w.heap.size, 0, none⟩), .int .i64 1, .string pFirst] V fun e w' => e = .returned (.tuple #[.string pText, .int .i64 0]) ∧ Ne w w' w.heap.size (begS n) [] ∧ Below V.heap.size V w') := fun V hV => by
    refine (eRead hV 1 e3 pFirst in_first).mono ?_
    rintro e w' ⟨rfl, hN, hb⟩
    rw [beg_d]
    exact ⟨rfl, hN, hb⟩
  unfold pFirst at C2 C3 C4
  unfold pText at C2 C4
  clear e0 e1 e2 e3 hx
  have eg : ∀ V, (eqGuard .neq 66 (.tmp 55) (.tmp 56) (.agg #[.int .i64 1, .string ⟨#[102, 105, 114, 115, 116]⟩, .int .i64 1]) (.agg #[.int .i64 1, .string ⟨#[102, 105, 114, 115, 116]⟩, .int .i64 1])).run (twin Tryz.prog pl) V = .ok () V := fun V => by kernel_rfl
  go_enter q_func15, Tryz.ntmps15
  go_wp2_with (first
    | (go_at_call 8; refine C1.out.mono ?_; rintro e w1 ⟨rfl, hN1⟩; have N1 := hide hN1; clear hN1)
    | (go_at_call 10; refine (C2.out _ N1.out).mono ?_; rintro e w2 ⟨rfl, hN2⟩; have N2 := hide hN2; clear hN2)
    | (go_at_call 22; refine (C3.out _ N2.out).mono ?_; rintro e w3 ⟨g, cap, rfl, hN3, ho3⟩; have N3 := hide hN3; have O3 := hide ho3; clear hN3 ho3)
    | (go_at_call 25; refine (C4.out _ N3.out).mono ?_; rintro e w4 ⟨rfl, hN4, hb4⟩; have N4 := hide hN4; have O4 := ownsRow_keep O3.out (fun k e => hb4.block k (World.ownsRow.lt O3.out k e).2); have k0 : w4.cell? ⟨g, 0, none⟩ = some (.int .i64 1) := (World.ownsRow.cellAt O4 0 (by decide)); have k1 : w4.cell? ⟨g, 1, none⟩ = some (.string ⟨#[102, 105, 114, 115, 116]⟩) := (World.ownsRow.cellAt O4 1 (by decide)); have k2 : w4.cell? ⟨g, 2, none⟩ = some (.int .i64 1) := (World.ownsRow.cellAt O4 2 (by decide)); clear hN4 hb4 O4))
  go_ret
  exact ⟨rfl, N4.out⟩
end Go.Proofs.YtaelaldmibgibaaGreat
