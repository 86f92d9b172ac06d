/- Times of the program in memory: loads and stores of whole times; Alone, Greatest. -/
import Derived.Test.YtaelaldmibgibaaGreatDoorW01

set_option linter.unusedVariables false
set_option linter.unusedSimpArgs false

namespace Go.Proofs.YtaelaldmibgibaaGreatDoor
open Go.RowKit

theorem size_Time : (Tryz.prog.info? 186).map (·.size) = some 6 := by kernel_rfl
/-- what n cells hold -/
def rngv (w : World) (b o n : Nat) : List Value := (List.range n).map (fun j => (w.cell? ⟨b, o + j, none⟩).getD (.bool false))
theorem rngv_eq {w : World} {b o n : Nat} {cs : List Value} (hl : cs.length = n) (h : w.rangeAt b o cs) : rngv w b o n = cs := by
  apply List.ext_getElem?
  intro i
  unfold rngv
  by_cases hi : i < n
  · rw [List.getElem?_map, List.getElem?_range hi]
    have hi' : i < cs.length := by omega
    rw [List.getElem?_eq_getElem hi']
    simp only [Option.map_some]
    rw [h i cs[i] (List.getElem?_eq_getElem hi')]
    rfl
  · rw [List.getElem?_map, List.getElem?_eq_none (by simp; omega), List.getElem?_eq_none (by omega)]
    rfl
theorem rngv_range {w : World} {b o n : Nat} (h : ∀ j, j < n → (w.cell? ⟨b, o + j, none⟩).isSome = true) : w.rangeAt b o (rngv w b o n) := by
  intro j v hj
  unfold rngv at hj
  rw [List.getElem?_map] at hj
  by_cases hjn : j < n
  · rw [List.getElem?_range hjn] at hj
    simp at hj
    have := h j hjn
    cases hc : w.cell? ⟨b, o + j, none⟩ with
    | none => rw [hc] at this; cases this
    | some u => rw [hc] at hj; simp at hj; rw [hj]
  · rw [List.getElem?_eq_none (by simp; omega)] at hj
    cases hj
theorem rngv_length (w : World) (b o n : Nat) : (rngv w b o n).length = n := by simp [rngv]

/-- a load of a whole time, kept from the walk's own way of loading -/
def ldM (t : TypeId) (p : Value) : Sem Value := Instr.loadAt t p
theorem ldTime (p : Value) : Instr.loadAt 186 p = ldM 186 p := rfl
theorem stTime (p v : Value) : Instr.storeAt 186 p v = stM 186 p v := rfl
theorem run_ldTime (w : World) (b o : Nat) (ht : w.there b o 6) : (ldM 186 (.pointer (some ⟨b, o, none⟩))).run Tryz.prog w = .ok (.agg (rngv w b o 6).toArray) w :=
  run_loadAt_mid w b o _ (rngv w b o 6) _ (rngv_range (fun j hj => (ht j hj).1)) Tryz.underlying186 rfl (by rw [rngv_length]; exact size_Time)
theorem run_stTime (w : World) (b o : Nat) (l : List Int) (ht : w.there b o 6) (hl : l.length = 6) : (stM 186 (.pointer (some ⟨b, o, none⟩)) (.agg (ivs l).toArray)).run Tryz.prog w = .ok () (w.setCells b o (ivs l)) := by
  have hl' : (ivs l).toArray.size = 6 := by simp [ivs_length, hl]
  have := run_storeAt_mid (P := Tryz.prog) w b o 186 (ivs l).toArray (by rw [hl']; exact ht) (by rw [hl']; exact size_Time) (by
    rw [Array.all_eq_true_iff_forall_mem]
    intro v hv
    simp [ivs] at hv
    obtain ⟨x, _, rfl⟩ := hv
    rfl)
  simpa [stM] using this

/-- the time of one replica alone -/
def one (r : Nat) (x : Int) : List Int := (List.replicate 6 0).set r x
theorem one_length (r : Nat) (x : Int) : (one r x).length = 6 := by simp [one]

/-- n cells of a block -/
theorem there_new (w : World) (cs : Array Value) (t : TypeId) (n : Nat) (h : cs.size = n) : (w.alloc (.cells cs t)).there w.heap.size 0 n := by
  intro j hj
  constructor
  · simp only [World.cell?, heap_alloc_new]; simp; omega
  · simp only [World.frozen?, heap_alloc_new]; simp
theorem range_new (w : World) (cs : Array Value) (t : TypeId) : (w.alloc (.cells cs t)).rangeAt w.heap.size 0 cs.toList := by
  intro j v hj
  simp only [World.cell?, heap_alloc_new]
  simpa using hj

set_option maxHeartbeats 400000 in
theorem Alone_0 (x : Int) (w : World) :
    Calls Tryz.prog 111 #[.agg #[.int .i64 0, .int .i64 x]] w fun e w' => e = .returned (.agg #[.int .i64 x, .int .i64 0, .int .i64 0, .int .i64 0, .int .i64 0, .int .i64 0]) ∧ Below w.heap.size w w' := by
  go_enter Tryz.func111, Tryz.ntmps111
  go_wp2
  refine bodyPost_ret (v := .agg #[.int .i64 x, .int .i64 0, .int .i64 0, .int .i64 0, .int .i64 0, .int .i64 0]) (by simp [results, Tryz.results111, go_sem]) rfl ⟨rfl, ?_⟩
  repeat' (first | exact Below.refl _ _ | refine Below.setCell ?_ (by simp <;> omega) _ | refine Below.alloc ?_ (by simp <;> omega) _ | refine Below.drew ?_)
set_option maxHeartbeats 400000 in
theorem Alone_1 (x : Int) (w : World) :
    Calls Tryz.prog 111 #[.agg #[.int .i64 1, .int .i64 x]] w fun e w' => e = .returned (.agg #[.int .i64 0, .int .i64 x, .int .i64 0, .int .i64 0, .int .i64 0, .int .i64 0]) ∧ Below w.heap.size w w' := by
  go_enter Tryz.func111, Tryz.ntmps111
  go_wp2
  refine bodyPost_ret (v := .agg #[.int .i64 0, .int .i64 x, .int .i64 0, .int .i64 0, .int .i64 0, .int .i64 0]) (by simp [results, Tryz.results111, go_sem]) rfl ⟨rfl, ?_⟩
  repeat' (first | exact Below.refl _ _ | refine Below.setCell ?_ (by simp <;> omega) _ | refine Below.alloc ?_ (by simp <;> omega) _ | refine Below.drew ?_)
set_option maxHeartbeats 400000 in
theorem Alone_2 (x : Int) (w : World) :
    Calls Tryz.prog 111 #[.agg #[.int .i64 2, .int .i64 x]] w fun e w' => e = .returned (.agg #[.int .i64 0, .int .i64 0, .int .i64 x, .int .i64 0, .int .i64 0, .int .i64 0]) ∧ Below w.heap.size w w' := by
  go_enter Tryz.func111, Tryz.ntmps111
  go_wp2
  refine bodyPost_ret (v := .agg #[.int .i64 0, .int .i64 0, .int .i64 x, .int .i64 0, .int .i64 0, .int .i64 0]) (by simp [results, Tryz.results111, go_sem]) rfl ⟨rfl, ?_⟩
  repeat' (first | exact Below.refl _ _ | refine Below.setCell ?_ (by simp <;> omega) _ | refine Below.alloc ?_ (by simp <;> omega) _ | refine Below.drew ?_)
set_option maxHeartbeats 400000 in
theorem Alone_3 (x : Int) (w : World) :
    Calls Tryz.prog 111 #[.agg #[.int .i64 3, .int .i64 x]] w fun e w' => e = .returned (.agg #[.int .i64 0, .int .i64 0, .int .i64 0, .int .i64 x, .int .i64 0, .int .i64 0]) ∧ Below w.heap.size w w' := by
  go_enter Tryz.func111, Tryz.ntmps111
  go_wp2
  refine bodyPost_ret (v := .agg #[.int .i64 0, .int .i64 0, .int .i64 0, .int .i64 x, .int .i64 0, .int .i64 0]) (by simp [results, Tryz.results111, go_sem]) rfl ⟨rfl, ?_⟩
  repeat' (first | exact Below.refl _ _ | refine Below.setCell ?_ (by simp <;> omega) _ | refine Below.alloc ?_ (by simp <;> omega) _ | refine Below.drew ?_)
set_option maxHeartbeats 400000 in
theorem Alone_4 (x : Int) (w : World) :
    Calls Tryz.prog 111 #[.agg #[.int .i64 4, .int .i64 x]] w fun e w' => e = .returned (.agg #[.int .i64 0, .int .i64 0, .int .i64 0, .int .i64 0, .int .i64 x, .int .i64 0]) ∧ Below w.heap.size w w' := by
  go_enter Tryz.func111, Tryz.ntmps111
  go_wp2
  refine bodyPost_ret (v := .agg #[.int .i64 0, .int .i64 0, .int .i64 0, .int .i64 0, .int .i64 x, .int .i64 0]) (by simp [results, Tryz.results111, go_sem]) rfl ⟨rfl, ?_⟩
  repeat' (first | exact Below.refl _ _ | refine Below.setCell ?_ (by simp <;> omega) _ | refine Below.alloc ?_ (by simp <;> omega) _ | refine Below.drew ?_)
set_option maxHeartbeats 400000 in
theorem Alone_5 (x : Int) (w : World) :
    Calls Tryz.prog 111 #[.agg #[.int .i64 5, .int .i64 x]] w fun e w' => e = .returned (.agg #[.int .i64 0, .int .i64 0, .int .i64 0, .int .i64 0, .int .i64 0, .int .i64 x]) ∧ Below w.heap.size w w' := by
  go_enter Tryz.func111, Tryz.ntmps111
  go_wp2
  refine bodyPost_ret (v := .agg #[.int .i64 0, .int .i64 0, .int .i64 0, .int .i64 0, .int .i64 0, .int .i64 x]) (by simp [results, Tryz.results111, go_sem]) rfl ⟨rfl, ?_⟩
  repeat' (first | exact Below.refl _ _ | refine Below.setCell ?_ (by simp <;> omega) _ | refine Below.alloc ?_ (by simp <;> omega) _ | refine Below.drew ?_)

theorem Alone_any (r : Nat) (x : Int) (w : World) (hr : r < 6) :
    Calls Tryz.prog 111 #[.agg #[.int .i64 r, .int .i64 x]] w fun e w' => e = .returned (.agg (ivs (one r x)).toArray) ∧ Below w.heap.size w w' := by
  match r, hr with
  | 0, _ => exact Alone_0 x w
  | 1, _ => exact Alone_1 x w
  | 2, _ => exact Alone_2 x w
  | 3, _ => exact Alone_3 x w
  | 4, _ => exact Alone_4 x w
  | 5, _ => exact Alone_5 x w

end Go.Proofs.YtaelaldmibgibaaGreatDoor
