/- The program's readFile. The program's readFile at none, two or four fields. The library's Clone of a string, by the shelf's contract. The program's records: mustBeKept. The program's net: has, placeOf. -/
import Derived.Test.YtaelaldmibgibaaGreatDoorU20
import Derived.Test.YtaelaldmibgibaaGreatDoorU21
import Derived.Deep.RegionLaw
import Derived.Test.YtaelaldmibgibaaGreatDoorU01
import Derived.Test.YtaelaldmibgibaaGreatDoorShelf

set_option linter.unusedVariables false
set_option linter.unusedSimpArgs false

namespace Go.Proofs.YtaelaldmibgibaaGreatDoor
open Go.RowKit Go.Lib

/-- a piece of a list of texts in memory -/
structure FldO (w : World) (B o : Nat) (fs : List Bs) : Prop where
  pc : ∀ (j : Nat) p, fs[j]? = some p → w.cell? ⟨B, o + j, none⟩ = some (.string (ofBs p))
  lt : B < w.heap.size
theorem FldO.below {w w' : World} {B o : Nat} {fs : List Bs} (h : FldO w B o fs) (hb : Below w.heap.size w w') : FldO w' B o fs :=
  ⟨fun j p hp => (hb.cell (p := ⟨B, o + j, none⟩) h.lt).trans (h.pc j p hp), Nat.lt_of_lt_of_le h.lt hb.size⟩
/-- a record's file is what was told -/
def fIs (R : Rec) : Option FileR → Prop
  | none => R.text = ⟨#[]⟩ ∧ R.br = 0 ∧ R.bn = 0 ∧ R.ch = fun _ => 0
  | some f => R.text = ofBs f.text ∧ R.br = f.br ∧ R.bn = f.bn ∧ R.ch = lfn f.ch

attribute [local go_sem ↓] stFile stTime ldTime stEvent ldEvent
attribute [local go_sem] run_stFile stTime2 run_ldTime run_stEvent run_ldEvent
set_option maxHeartbeats 1000000 in
theorem readFile_one (B o C : Nat) (fs : List Bs) (h1 : fs.length = 1) (n : Nat) (w : World) (hF : FldO w B o fs) :
    Calls Tryz.prog 222 #[.slice (some ⟨B, o, none⟩) fs.length C, .int .i64 n] w fun e w' => ∃ R : Rec, e = .returned (.tuple #[fileVal R, .bool (fileR n fs).isSome]) ∧ (∀ f, fileR n fs = some f → fIs R f) ∧ Below w.heap.size w w' := by
  have M0 := hide (Mine.made' w #[.string ⟨#[]⟩, .int .i64 0, .int .i64 0, .int .i64 0, .int .i64 0, .int .i64 0, .int .i64 0, .int .i64 0, .int .i64 0] 193 (n := 9) rfl)
  have th0 := M0.out.there
  obtain ⟨p, rfl⟩ : ∃ p, fs = [p] := List.length_eq_one_iff.1 h1
  have c0 := (hF.below ((Below.refl _ _).alloc (Nat.le_refl _) (.cells #[.string ⟨#[]⟩, .int .i64 0, .int .i64 0, .int .i64 0, .int .i64 0, .int .i64 0, .int .i64 0, .int .i64 0, .int .i64 0] 193))).pc 0 p rfl
  rw [Nat.add_zero] at c0
  have c1 : ∀ vs, ((w.alloc (.cells #[.string ⟨#[]⟩, .int .i64 0, .int .i64 0, .int .i64 0, .int .i64 0, .int .i64 0, .int .i64 0, .int .i64 0, .int .i64 0] 193)).drew.setCells w.heap.size 0 vs).cell? ⟨B, o, none⟩ = some (.string (ofBs p)) := fun vs => by
    rw [World.cell?_setCells_out _ _ _ _ _ (fun e => absurd e (by have := hF.lt; simp only; omega))]
    simpa using c0
  have t45 : (⟨#[45]⟩ : ByteArray).toList = [45] := by simp
  have HP : Hid (fileR n [p] = if (ofBs p).toList == [45] then some none else none) := by
    unfold Hid
    rw [← t45]
    show (if p = [45] then some none else none : Option (Option FileR)) = _
    by_cases e : p = [45]
    · rw [if_pos e, if_pos]
      exact (seq_iff _ _).2 (by rw [e]; rfl)
    · rw [if_neg e, if_neg]
      intro q
      have := (seq_iff _ _).1 q
      exact e (by rw [← bs_ofBs p, this]; rfl)
  generalize fileR n [p] = FR at *
  generalize ofBs p = q at *
  clear h1 hF
  simp only [List.length_singleton]
  have th1 := M0.out.drew.there
  have RT : Hid (∀ (W : World) (b : Bool), Mine w w.heap.size 9 W → b = FR.isSome → (FR = none ∨ FR = some none) → ∃ R : Rec, Ending.returned (.tuple #[.agg #[.string ⟨#[]⟩, .int .i64 0, .int .i64 0, .int .i64 0, .int .i64 0, .int .i64 0, .int .i64 0, .int .i64 0, .int .i64 0], .bool b]) = .returned (.tuple #[fileVal R, .bool FR.isSome]) ∧ (∀ f, FR = some f → fIs R f) ∧ Below w.heap.size w W) := fun W b hM hb hF => by
    refine ⟨⟨⟨#[]⟩, 0, 0, fun _ => 0, fun _ => 0⟩, by rw [hb]; rfl, fun f hf => ?_, hM.below⟩
    rcases hF with e | e
    · rw [e] at hf; cases hf
    · rw [e] at hf; cases hf; exact ⟨rfl, rfl, rfl, rfl⟩
  clear t45
  have e : Hid ((q.toList == [45]) = FR.isSome ∧ (FR = none ∨ FR = some none)) := by
    unfold Hid
    rw [HP.out]
    cases q.toList == [45] <;> simp
  clear HP
  go_enter Tryz.func222, Tryz.ntmps222
  go_wp2_with fail
  go_region_law (fail)
  all_goals
    go_wp2
    exact bodyPost_ret (ret_cell_tmp Tryz.results222 (a := ⟨w.heap.size, 0, none⟩) rfl (load_stored (cs := [_, _, _, _, _, _, _, _, _]) M0.out.drew.there Tryz.underlying193 rfl size_file)) rfl (RT.out _ _ (Mine.setCells (p := True) ⟨M0.out.drew, trivial⟩ 0 _) e.out.1 e.out.2)

end Go.Proofs.YtaelaldmibgibaaGreatDoor

namespace Go.Proofs.YtaelaldmibgibaaGreatDoor
open Go.RowKit Go.Lib
attribute [local go_sem ↓] stFile
attribute [local go_sem] run_stFile
set_option maxHeartbeats 1000000 in
theorem readFile_else (B o C : Nat) (fs : List Bs) (hl : fs.length ≠ 3) (h1 : fs.length ≠ 1) (hl6 : fs.length ≤ 6) (n : Nat) (w : World) :
    Calls Tryz.prog 222 #[.slice (some ⟨B, o, none⟩) fs.length C, .int .i64 n] w fun e w' => ∃ R : Rec, e = .returned (.tuple #[fileVal R, .bool (fileR n fs).isSome]) ∧ (∀ f, fileR n fs = some f → fIs R f) ∧ Below w.heap.size w w' := by
  have d1 : ((fs.length : Int) != 3) = true := by simp; omega
  have d2 : ((fs.length : Int) == 1) = false := by simp; omega
  have M0 := hide (Mine.made' w #[.string ⟨#[]⟩, .int .i64 0, .int .i64 0, .int .i64 0, .int .i64 0, .int .i64 0, .int .i64 0, .int .i64 0, .int .i64 0] 193 (n := 9) rfl)
  have th0 := M0.out.there
  have th1 := M0.out.drew.there
  have e : fileR n fs = none := by
    match fs, hl, h1 with
    | [], _, _ => rfl
    | [a], _, h1 => exact absurd rfl h1
    | [a, b], _, _ => rfl
    | [a, b, c], hl, _ => exact absurd rfl hl
    | a :: b :: c :: d :: r, _, _ => rfl
  rw [e]
  generalize fs.length = L at *
  have RT : Hid (∀ (W : World), Mine w w.heap.size 9 W → ∃ R : Rec, Ending.returned (.tuple #[.agg #[.string ⟨#[]⟩, .int .i64 0, .int .i64 0, .int .i64 0, .int .i64 0, .int .i64 0, .int .i64 0, .int .i64 0, .int .i64 0], .bool false]) = .returned (.tuple #[fileVal R, .bool (none : Option (Option FileR)).isSome]) ∧ (∀ f, (none : Option (Option FileR)) = some f → fIs R f) ∧ Below w.heap.size w W) := fun W hM =>
    ⟨⟨⟨#[]⟩, 0, 0, fun _ => 0, fun _ => 0⟩, rfl, (fun f hf => by cases hf), hM.below⟩
  have d3 : (L == 1) = false := by simp; exact h1
  have d4 : decide (L = 1) = false := by simp; exact h1
  have h1' : ¬ (L : Int) = 1 := by omega
  clear e hl
  go_enter Tryz.func222, Tryz.ntmps222
  go_wp2_with fail
  go_region
  all_goals
    go_wp2
    exact bodyPost_ret (ret_cell_tmp Tryz.results222 (a := ⟨w.heap.size, 0, none⟩) rfl (load_stored (cs := [_, _, _, _, _, _, _, _, _]) M0.out.drew.there Tryz.underlying193 rfl size_file)) rfl (RT.out _ (Mine.setCells (p := True) ⟨M0.out.drew, trivial⟩ 0 _))

end Go.Proofs.YtaelaldmibgibaaGreatDoor

namespace Go.Proofs.YtaelaldmibgibaaGreatDoor
open Go.RowKit

set_option maxHeartbeats 400000 in
theorem clone_any (s : ByteArray) (w : World) (hs : s.size ≤ 1000000000000) :
    Calls Tryz.prog 109 #[.string s] w fun e w' => e = .returned (.string s) ∧ Below w.heap.size w w' := by
  go_enter Tryz.func109, Tryz.ntmps109
  go_wp2_with (go_at_call 169; refine (Tryz.stringslite_Clone s w (by omega)).mono ?_; rintro e w' ⟨rfl, hb⟩)
  go_ret
  exact ⟨rfl, hb⟩

end Go.Proofs.YtaelaldmibgibaaGreatDoor

namespace Go.Proofs.YtaelaldmibgibaaGreatDoor
open Go.RowKit

set_option maxRecDepth 100000 in
set_option maxHeartbeats 600000 in
theorem mustBeKept_yes (t : ByteArray) (br bn : Int) (ch kn u : Nat → Int) (w : World) (hbn : 0 < bn) :
    Calls Tryz.prog 170 #[.agg #[.string t, .int .i64 br, .int .i64 bn, .int .i64 (ch 0), .int .i64 (ch 1), .int .i64 (ch 2), .int .i64 (ch 3), .int .i64 (ch 4), .int .i64 (ch 5), .int .i64 (kn 0), .int .i64 (kn 1), .int .i64 (kn 2), .int .i64 (kn 3), .int .i64 (kn 4), .int .i64 (kn 5)], .agg #[.int .i64 (u 0), .int .i64 (u 1), .int .i64 (u 2), .int .i64 (u 3), .int .i64 (u 4), .int .i64 (u 5)]] w fun e w' => e = .returned (.bool true) ∧ Below w.heap.size w w' := by
  have hd : decide (0 < bn) = true := by simp [hbn]
  go_enter Tryz.func170, Tryz.ntmps170
  go_wp2_with fail
  refine (isThere_any _ _ _ _ _ _ _ _ _ _).mono ?_
  rintro e w1 ⟨rfl, hb1⟩
  go_wp2
  go_ret
  exact ⟨rfl, (((Below.refl _ _).alloc (Nat.le_refl _) _).alloc (by simp) _).trans (hb1.mono (by simp; omega))⟩

theorem boxes (w : World) (t : ByteArray) (br bn : Int) (ch kn u : Nat → Int) (w1 : World) (hb : Below ((w.alloc (.cells #[.string t, .int .i64 br, .int .i64 bn, .int .i64 (ch 0), .int .i64 (ch 1), .int .i64 (ch 2), .int .i64 (ch 3), .int .i64 (ch 4), .int .i64 (ch 5), .int .i64 (kn 0), .int .i64 (kn 1), .int .i64 (kn 2), .int .i64 (kn 3), .int .i64 (kn 4), .int .i64 (kn 5)] 197)).alloc (.cells #[.int .i64 (u 0), .int .i64 (u 1), .int .i64 (u 2), .int .i64 (u 3), .int .i64 (u 4), .int .i64 (u 5)] 186)).heap.size ((w.alloc (.cells #[.string t, .int .i64 br, .int .i64 bn, .int .i64 (ch 0), .int .i64 (ch 1), .int .i64 (ch 2), .int .i64 (ch 3), .int .i64 (ch 4), .int .i64 (ch 5), .int .i64 (kn 0), .int .i64 (kn 1), .int .i64 (kn 2), .int .i64 (kn 3), .int .i64 (kn 4), .int .i64 (kn 5)] 197)).alloc (.cells #[.int .i64 (u 0), .int .i64 (u 1), .int .i64 (u 2), .int .i64 (u 3), .int .i64 (u 4), .int .i64 (u 5)] 186)) w1) :
    At9 w1 w.heap.size kn ∧ (∀ j, j < 6 → w1.cell? ⟨w.heap.size + 1, j, none⟩ = some (.int .i64 (u j))) := by
  have hz : (w.alloc (.cells #[.string t, .int .i64 br, .int .i64 bn, .int .i64 (ch 0), .int .i64 (ch 1), .int .i64 (ch 2), .int .i64 (ch 3), .int .i64 (ch 4), .int .i64 (ch 5), .int .i64 (kn 0), .int .i64 (kn 1), .int .i64 (kn 2), .int .i64 (kn 3), .int .i64 (kn 4), .int .i64 (kn 5)] 197)).heap.size = w.heap.size + 1 := by simp
  have h9 : At9 (w.alloc (.cells #[.string t, .int .i64 br, .int .i64 bn, .int .i64 (ch 0), .int .i64 (ch 1), .int .i64 (ch 2), .int .i64 (ch 3), .int .i64 (ch 4), .int .i64 (ch 5), .int .i64 (kn 0), .int .i64 (kn 1), .int .i64 (kn 2), .int .i64 (kn 3), .int .i64 (kn 4), .int .i64 (kn 5)] 197)) w.heap.size kn := by
    refine ⟨?_, ?_, ?_, ?_, ?_, ?_, ?_, by simp⟩
    all_goals first | (simp only [World.cell?, heap_alloc_new]; rfl) | (intro j; simp only [World.frozen?, heap_alloc_new]; simp)
  generalize w.alloc (.cells #[.string t, .int .i64 br, .int .i64 bn, .int .i64 (ch 0), .int .i64 (ch 1), .int .i64 (ch 2), .int .i64 (ch 3), .int .i64 (ch 4), .int .i64 (ch 5), .int .i64 (kn 0), .int .i64 (kn 1), .int .i64 (kn 2), .int .i64 (kn 3), .int .i64 (kn 4), .int .i64 (kn 5)] 197) = V at *
  refine ⟨(h9.more ((Below.refl _ _).alloc (Nat.le_refl _) _)).more hb, ?_⟩
  intro j hj
  rw [hb.cell (by simp; omega), ← hz]
  simp only [World.cell?, heap_alloc_new]
  match j, hj with
  | 0, _ | 1, _ | 2, _ | 3, _ | 4, _ | 5, _ => rfl

set_option maxRecDepth 100000 in
set_option maxHeartbeats 600000 in
theorem mustBeKept_no (t : ByteArray) (br bn : Int) (ch kn u : Nat → Int) (w : World) (hbn : ¬ 0 < bn) :
    Calls Tryz.prog 170 #[.agg #[.string t, .int .i64 br, .int .i64 bn, .int .i64 (ch 0), .int .i64 (ch 1), .int .i64 (ch 2), .int .i64 (ch 3), .int .i64 (ch 4), .int .i64 (ch 5), .int .i64 (kn 0), .int .i64 (kn 1), .int .i64 (kn 2), .int .i64 (kn 3), .int .i64 (kn 4), .int .i64 (kn 5)], .agg #[.int .i64 (u 0), .int .i64 (u 1), .int .i64 (u 2), .int .i64 (u 3), .int .i64 (u 4), .int .i64 (u 5)]] w fun e w' => e = .returned (.bool (!eqT kn u)) ∧ Below w.heap.size w w' := by
  have hd : decide (0 < bn) = false := by simp; omega
  have BX := hide (boxes w t br bn ch kn u)
  go_enter Tryz.func170, Tryz.ntmps170
  go_wp2_with fail
  refine (isThere_any _ _ _ _ _ _ _ _ _ _).mono ?_
  rintro e w1 ⟨rfl, hb1⟩
  obtain ⟨⟨k0, k1, k2, k3, k4, k5, _, _⟩, hu⟩ := BX.out w1 hb1
  have u0 := hu 0 (by omega)
  have u1 := hu 1 (by omega)
  have u2 := hu 2 (by omega)
  have u3 := hu 3 (by omega)
  have u4 := hu 4 (by omega)
  have u5 := hu 5 (by omega)
  have B1 := hide ((((Below.refl w.heap.size w).alloc (Nat.le_refl _) _).alloc (by simp) _).trans (hb1.mono (by simp; omega)))
  clear hu BX hb1
  go_wp2_with fail
  refine (isJust_any kn u _).mono ?_
  rintro e w2 ⟨rfl, hb2⟩
  have B2 := hide (B1.out.trans (hb2.mono B1.out.size))
  clear hb2
  go_wp2
  go_ret
  exact ⟨rfl, B2.out⟩

end Go.Proofs.YtaelaldmibgibaaGreatDoor

namespace Go.Proofs.YtaelaldmibgibaaGreatDoor
open Go.RowKit

/-- the program's net: its block, the row of its replicas -/
structure NetAt (w : World) (nb n pb : Nat) (rbs : List Nat) : Prop where
  blk : ∃ cap, w.heap[nb]? = some (.cells #[.slice (some ⟨pb, 0, none⟩) n cap] 97 (0, 0))
  len : rbs.length = n
  row : ∀ r b, rbs[r]? = some b → w.cell? ⟨pb, r, none⟩ = some (.pointer (some ⟨b, 0, none⟩))
  n6 : n ≤ 6

set_option maxHeartbeats 400000 in
theorem has_any (nb n pb : Nat) (rbs : List Nat) (r : Int) (w : World) (h : NetAt w nb n pb rbs) :
    Calls Tryz.prog 36 #[.pointer (some ⟨nb, 0, none⟩), .int .i64 r] w fun e w' => e = .returned (.bool (decide (0 ≤ r ∧ r < n))) ∧ w' = w := by
  obtain ⟨cap, hb⟩ := h.blk
  have c0 : w.cell? ⟨nb, 0, none⟩ = some (.slice (some ⟨pb, 0, none⟩) n cap) := by simp [World.cell?, hb]
  have hn6 := h.n6
  clear hb h
  by_cases h1 : 0 ≤ r
  · have d1 : decide (0 ≤ r) = true := by simp [h1]
    have e : decide (0 ≤ r ∧ r < n) = decide (r < n) := by simp [h1]
    rw [e]
    go_enter Tryz.func36, Tryz.ntmps36
    go_wp2
    go_ret
    exact ⟨rfl, rfl⟩
  · have d1 : decide (0 ≤ r) = false := by simp; omega
    have e : decide (0 ≤ r ∧ r < n) = false := by simp; omega
    rw [e]
    go_enter Tryz.func36, Tryz.ntmps36
    go_wp2
    go_ret
    exact ⟨rfl, rfl⟩

set_option maxHeartbeats 400000 in
theorem placeOf_num (nb n pb : Nat) (rbs : List Nat) (r : Int) (p : ByteArray) (w : World) (h : NetAt w nb n pb rbs) (hr : ¬ (0 ≤ r ∧ r < n)) :
    Calls Tryz.prog 61 #[.pointer (some ⟨nb, 0, none⟩), .int .i64 r, .string p] w fun e w' => e = .returned (.tuple #[.pointer none, .int .i64 1]) ∧ w' = w := by
  have C := hide (has_any nb n pb rbs r w h)
  rw [decide_eq_false hr] at C
  clear h hr
  go_enter Tryz.func61, Tryz.ntmps61
  go_wp2_with (go_at_call 36; refine C.out.mono ?_; rintro e w' ⟨rfl, rfl⟩)
  go_ret2
  exact ⟨rfl, rfl⟩
set_option maxHeartbeats 400000 in
theorem placeOf_path (nb n pb : Nat) (rbs : List Nat) (r : Int) (p : ByteArray) (w : World) (h : NetAt w nb n pb rbs) (hr : 0 ≤ r ∧ r < n) (hp : pathOk p = false) (hs : p.size ≤ maxLen) :
    Calls Tryz.prog 61 #[.pointer (some ⟨nb, 0, none⟩), .int .i64 r, .string p] w fun e w' => e = .returned (.tuple #[.pointer none, .int .i64 2]) ∧ w' = w := by
  have C := hide (has_any nb n pb rbs r w h)
  rw [decide_eq_true hr] at C
  have D := hide (isPath_any p w hs)
  rw [hp] at D
  clear h hr hp
  go_enter Tryz.func61, Tryz.ntmps61
  go_wp2_with (first | (go_at_call 36; refine C.out.mono ?_; rintro e w ⟨rfl, rfl⟩) | (go_at_call 103; refine D.out.mono ?_; rintro e w ⟨rfl, rfl⟩))
  go_ret2
  exact ⟨rfl, rfl⟩
set_option maxHeartbeats 400000 in
theorem placeOf_ok (nb n pb : Nat) (rbs : List Nat) (r : Nat) (b : Nat) (p : ByteArray) (w : World) (h : NetAt w nb n pb rbs) (hr : rbs[r]? = some b) (hp : pathOk p = true) (hs : p.size ≤ maxLen) :
    Calls Tryz.prog 61 #[.pointer (some ⟨nb, 0, none⟩), .int .i64 r, .string p] w fun e w' => e = .returned (.tuple #[.pointer (some ⟨b, 0, none⟩), .int .i64 0]) ∧ w' = w := by
  have hrn : r < n := by have := (List.getElem?_eq_some_iff.1 hr).1; have := h.len; omega
  have C := hide (has_any nb n pb rbs r w h)
  rw [decide_eq_true (by omega)] at C
  have D := hide (isPath_any p w hs)
  rw [hp] at D
  obtain ⟨cap, hb⟩ := h.blk
  have c0 : w.cell? ⟨nb, 0, none⟩ = some (.slice (some ⟨pb, 0, none⟩) n cap) := by simp [World.cell?, hb]
  have cr := h.row r b hr
  have hn6 := h.n6
  clear h hr hp hb
  go_enter Tryz.func61, Tryz.ntmps61
  go_wp2_with (first | (go_at_call 36; refine C.out.mono ?_; rintro e w ⟨rfl, rfl⟩) | (go_at_call 103; refine D.out.mono ?_; rintro e w ⟨rfl, rfl⟩))
  go_ret2
  exact ⟨rfl, rfl⟩

end Go.Proofs.YtaelaldmibgibaaGreatDoor
