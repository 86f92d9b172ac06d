/- The program's records: mustBeKept. The program's net: has, placeOf. The document's answer: New. -/
import Derived.Test.YtaelaldmibgibaaGreatRows
import Derived.WalkKit
import Derived.WalkSpells
import Derived.WalkLawsBesides
import Derived.Deep.AppendLies
import Derived.Deep.MidRow
import Derived.Deep.DrawnRows
import Derived.BigQuiet
import Derived.Deep.QuietTactic
import Derived.Deep.RegionWith
import Derived.Deep.RegionHeld3
import Derived.ChangeKeysEq
import Derived.Deep.RegionLaw
import Derived.Deep.DeepMust
import Derived.Test.YtaelaldmibgibaaGreatP01
import Derived.Test.YtaelaldmibgibaaGreatP03
import Derived.Test.YtaelaldmibgibaaGreatP18
import Derived.Test.YtaelaldmibgibaaGreatP19
import Derived.Test.YtaelaldmibgibaaGreatP22
import Derived.Test.YtaelaldmibgibaaGreatP20
import Derived.Test.YtaelaldmibgibaaGreatP23
import Derived.Test.YtaelaldmibgibaaGreatP24

set_option linter.unusedVariables false
set_option linter.unusedSimpArgs false
set_option linter.unusedSectionVars false

namespace Go.Proofs.YtaelaldmibgibaaGreat
open Go.RowKit

set_option maxRecDepth 100000 in
set_option maxHeartbeats 600000 in
theorem mustBeKept_yes (t : ByteArray) (br bn : Int) (ch kn u : Nat → Int) (w : World) (hbn : 0 < bn) :
    Calls Tryz.prog 72 #[.agg #[.string t, .int .i64 br, .int .i64 bn, .int .i64 (ch 0), .int .i64 (ch 1), .int .i64 (ch 2), .int .i64 (ch 3), .int .i64 (ch 4), .int .i64 (ch 5), .int .i64 (kn 0), .int .i64 (kn 1), .int .i64 (kn 2), .int .i64 (kn 3), .int .i64 (kn 4), .int .i64 (kn 5)], .agg #[.int .i64 (u 0), .int .i64 (u 1), .int .i64 (u 2), .int .i64 (u 3), .int .i64 (u 4), .int .i64 (u 5)]] w fun e w' => e = .returned (.bool true) ∧ Below w.heap.size w w' := by
  have hd : decide (0 < bn) = true := by simp [hbn]
  go_enter Tryz.func72, Tryz.ntmps72
  go_wp2_with fail
  refine (isThere_any _ _ _ _ _ _ _ _ _ _).mono ?_
  rintro e w1 ⟨rfl, hb1⟩
  go_wp2
  go_ret
  exact ⟨rfl, (((Below.refl _ _).alloc (Nat.le_refl _) _).alloc (by simp) _).trans (hb1.mono (by simp; omega))⟩

theorem boxes (w : World) (t : ByteArray) (br bn : Int) (ch kn u : Nat → Int) (w1 : World) (hb : Below ((w.alloc (.cells #[.string t, .int .i64 br, .int .i64 bn, .int .i64 (ch 0), .int .i64 (ch 1), .int .i64 (ch 2), .int .i64 (ch 3), .int .i64 (ch 4), .int .i64 (ch 5), .int .i64 (kn 0), .int .i64 (kn 1), .int .i64 (kn 2), .int .i64 (kn 3), .int .i64 (kn 4), .int .i64 (kn 5)] 120)).alloc (.cells #[.int .i64 (u 0), .int .i64 (u 1), .int .i64 (u 2), .int .i64 (u 3), .int .i64 (u 4), .int .i64 (u 5)] 108)).heap.size ((w.alloc (.cells #[.string t, .int .i64 br, .int .i64 bn, .int .i64 (ch 0), .int .i64 (ch 1), .int .i64 (ch 2), .int .i64 (ch 3), .int .i64 (ch 4), .int .i64 (ch 5), .int .i64 (kn 0), .int .i64 (kn 1), .int .i64 (kn 2), .int .i64 (kn 3), .int .i64 (kn 4), .int .i64 (kn 5)] 120)).alloc (.cells #[.int .i64 (u 0), .int .i64 (u 1), .int .i64 (u 2), .int .i64 (u 3), .int .i64 (u 4), .int .i64 (u 5)] 108)) w1) :
    At9 w1 w.heap.size kn ∧ (∀ j, j < 6 → w1.cell? ⟨w.heap.size + 1, j, none⟩ = some (.int .i64 (u j))) := by
  have hz : (w.alloc (.cells #[.string t, .int .i64 br, .int .i64 bn, .int .i64 (ch 0), .int .i64 (ch 1), .int .i64 (ch 2), .int .i64 (ch 3), .int .i64 (ch 4), .int .i64 (ch 5), .int .i64 (kn 0), .int .i64 (kn 1), .int .i64 (kn 2), .int .i64 (kn 3), .int .i64 (kn 4), .int .i64 (kn 5)] 120)).heap.size = w.heap.size + 1 := by simp
  have h9 : At9 (w.alloc (.cells #[.string t, .int .i64 br, .int .i64 bn, .int .i64 (ch 0), .int .i64 (ch 1), .int .i64 (ch 2), .int .i64 (ch 3), .int .i64 (ch 4), .int .i64 (ch 5), .int .i64 (kn 0), .int .i64 (kn 1), .int .i64 (kn 2), .int .i64 (kn 3), .int .i64 (kn 4), .int .i64 (kn 5)] 120)) w.heap.size kn := by
    refine ⟨?_, ?_, ?_, ?_, ?_, ?_, ?_, by simp⟩
    all_goals first | (simp only [World.cell?, heap_alloc_new]; rfl) | (intro j; simp only [World.frozen?, heap_alloc_new]; simp)
  generalize w.alloc (.cells #[.string t, .int .i64 br, .int .i64 bn, .int .i64 (ch 0), .int .i64 (ch 1), .int .i64 (ch 2), .int .i64 (ch 3), .int .i64 (ch 4), .int .i64 (ch 5), .int .i64 (kn 0), .int .i64 (kn 1), .int .i64 (kn 2), .int .i64 (kn 3), .int .i64 (kn 4), .int .i64 (kn 5)] 120) = V at *
  refine ⟨(h9.more ((Below.refl _ _).alloc (Nat.le_refl _) _)).more hb, ?_⟩
  intro j hj
  rw [hb.cell (by simp; omega), ← hz]
  simp only [World.cell?, heap_alloc_new]
  match j, hj with
  | 0, _ | 1, _ | 2, _ | 3, _ | 4, _ | 5, _ => rfl

set_option maxRecDepth 100000 in
set_option maxHeartbeats 600000 in
theorem mustBeKept_no (t : ByteArray) (br bn : Int) (ch kn u : Nat → Int) (w : World) (hbn : ¬ 0 < bn) :
    Calls Tryz.prog 72 #[.agg #[.string t, .int .i64 br, .int .i64 bn, .int .i64 (ch 0), .int .i64 (ch 1), .int .i64 (ch 2), .int .i64 (ch 3), .int .i64 (ch 4), .int .i64 (ch 5), .int .i64 (kn 0), .int .i64 (kn 1), .int .i64 (kn 2), .int .i64 (kn 3), .int .i64 (kn 4), .int .i64 (kn 5)], .agg #[.int .i64 (u 0), .int .i64 (u 1), .int .i64 (u 2), .int .i64 (u 3), .int .i64 (u 4), .int .i64 (u 5)]] w fun e w' => e = .returned (.bool (!eqT kn u)) ∧ Below w.heap.size w w' := by
  have hd : decide (0 < bn) = false := by simp; omega
  have BX := hide (boxes w t br bn ch kn u)
  go_enter Tryz.func72, Tryz.ntmps72
  go_wp2_with fail
  refine (isThere_any _ _ _ _ _ _ _ _ _ _).mono ?_
  rintro e w1 ⟨rfl, hb1⟩
  obtain ⟨⟨k0, k1, k2, k3, k4, k5, _, _⟩, hu⟩ := BX.out w1 hb1
  have u0 := hu 0 (by omega)
  have u1 := hu 1 (by omega)
  have u2 := hu 2 (by omega)
  have u3 := hu 3 (by omega)
  have u4 := hu 4 (by omega)
  have u5 := hu 5 (by omega)
  have B1 := hide ((((Below.refl w.heap.size w).alloc (Nat.le_refl _) _).alloc (by simp) _).trans (hb1.mono (by simp; omega)))
  clear hu BX hb1
  go_wp2_with fail
  refine (isJust_any kn u _).mono ?_
  rintro e w2 ⟨rfl, hb2⟩
  have B2 := hide (B1.out.trans (hb2.mono B1.out.size))
  clear hb2
  go_wp2
  go_ret
  exact ⟨rfl, B2.out⟩

end Go.Proofs.YtaelaldmibgibaaGreat

namespace Go.Proofs.YtaelaldmibgibaaGreat
open Go.RowKit

/-- the program's net: its block, the row of its replicas -/
structure NetAt (w : World) (nb n pb : Nat) (rbs : List Nat) : Prop where
  blk : ∃ cap, w.heap[nb]? = some (.cells #[.slice (some ⟨pb, 0, none⟩) n cap] 74 (0, 0))
  len : rbs.length = n
  row : ∀ r b, rbs[r]? = some b → w.cell? ⟨pb, r, none⟩ = some (.pointer (some ⟨b, 0, none⟩))
  n6 : n ≤ 6

set_option maxHeartbeats 400000 in
theorem has_any (nb n pb : Nat) (rbs : List Nat) (r : Int) (w : World) (h : NetAt w nb n pb rbs) :
    Calls Tryz.prog 46 #[.pointer (some ⟨nb, 0, none⟩), .int .i64 r] w fun e w' => e = .returned (.bool (decide (0 ≤ r ∧ r < n))) ∧ w' = w := by
  obtain ⟨cap, hb⟩ := h.blk
  have c0 : w.cell? ⟨nb, 0, none⟩ = some (.slice (some ⟨pb, 0, none⟩) n cap) := by simp [World.cell?, hb]
  have hn6 := h.n6
  clear hb h
  by_cases h1 : 0 ≤ r
  · have d1 : decide (0 ≤ r) = true := by simp [h1]
    have e : decide (0 ≤ r ∧ r < n) = decide (r < n) := by simp [h1]
    rw [e]
    go_enter Tryz.func46, Tryz.ntmps46
    go_wp2
    go_ret
    exact ⟨rfl, rfl⟩
  · have d1 : decide (0 ≤ r) = false := by simp; omega
    have e : decide (0 ≤ r ∧ r < n) = false := by simp; omega
    rw [e]
    go_enter Tryz.func46, Tryz.ntmps46
    go_wp2
    go_ret
    exact ⟨rfl, rfl⟩

set_option maxHeartbeats 400000 in
theorem placeOf_num (nb n pb : Nat) (rbs : List Nat) (r : Int) (p : ByteArray) (w : World) (h : NetAt w nb n pb rbs) (hr : ¬ (0 ≤ r ∧ r < n)) :
    Calls Tryz.prog 29 #[.pointer (some ⟨nb, 0, none⟩), .int .i64 r, .string p] w fun e w' => e = .returned (.tuple #[.pointer none, .int .i64 1]) ∧ w' = w := by
  have C := hide (has_any nb n pb rbs r w h)
  rw [decide_eq_false hr] at C
  clear h hr
  go_enter Tryz.func29, Tryz.ntmps29
  go_wp2_with (go_at_call 46; refine C.out.mono ?_; rintro e w' ⟨rfl, rfl⟩)
  go_ret2
  exact ⟨rfl, rfl⟩
set_option maxHeartbeats 400000 in
theorem placeOf_path (nb n pb : Nat) (rbs : List Nat) (r : Int) (p : ByteArray) (w : World) (h : NetAt w nb n pb rbs) (hr : 0 ≤ r ∧ r < n) (hp : pathOk p = false) (hs : p.size ≤ maxLen) :
    Calls Tryz.prog 29 #[.pointer (some ⟨nb, 0, none⟩), .int .i64 r, .string p] w fun e w' => e = .returned (.tuple #[.pointer none, .int .i64 2]) ∧ w' = w := by
  have C := hide (has_any nb n pb rbs r w h)
  rw [decide_eq_true hr] at C
  have D := hide (isPath_any p w hs)
  rw [hp] at D
  clear h hr hp
  go_enter Tryz.func29, Tryz.ntmps29
  go_wp2_with (first | (go_at_call 46; refine C.out.mono ?_; rintro e w ⟨rfl, rfl⟩) | (go_at_call 47; refine D.out.mono ?_; rintro e w ⟨rfl, rfl⟩))
  go_ret2
  exact ⟨rfl, rfl⟩
set_option maxHeartbeats 400000 in
theorem placeOf_ok (nb n pb : Nat) (rbs : List Nat) (r : Nat) (b : Nat) (p : ByteArray) (w : World) (h : NetAt w nb n pb rbs) (hr : rbs[r]? = some b) (hp : pathOk p = true) (hs : p.size ≤ maxLen) :
    Calls Tryz.prog 29 #[.pointer (some ⟨nb, 0, none⟩), .int .i64 r, .string p] w fun e w' => e = .returned (.tuple #[.pointer (some ⟨b, 0, none⟩), .int .i64 0]) ∧ w' = w := by
  have hrn : r < n := by have := (List.getElem?_eq_some_iff.1 hr).1; have := h.len; omega
  have C := hide (has_any nb n pb rbs r w h)
  rw [decide_eq_true (by omega)] at C
  have D := hide (isPath_any p w hs)
  rw [hp] at D
  obtain ⟨cap, hb⟩ := h.blk
  have c0 : w.cell? ⟨nb, 0, none⟩ = some (.slice (some ⟨pb, 0, none⟩) n cap) := by simp [World.cell?, hb]
  have cr := h.row r b hr
  have hn6 := h.n6
  clear h hr hp hb
  go_enter Tryz.func29, Tryz.ntmps29
  go_wp2_with (first | (go_at_call 46; refine C.out.mono ?_; rintro e w ⟨rfl, rfl⟩) | (go_at_call 47; refine D.out.mono ?_; rintro e w ⟨rfl, rfl⟩))
  go_ret2
  exact ⟨rfl, rfl⟩

end Go.Proofs.YtaelaldmibgibaaGreat

namespace Go.Proofs.YtaelaldmibgibaaGreat
open Go.RowKit
attribute [local go_sem ↓] Go.wp_at_zero Go.wp_at_succ

def newAbs (n : Nat) : Abs := { n := n, F := fun _ => [], c := fun _ => 0 }
end Go.Proofs.YtaelaldmibgibaaGreat
