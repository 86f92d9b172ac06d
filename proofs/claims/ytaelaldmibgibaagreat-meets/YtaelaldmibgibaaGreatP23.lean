/- The program's records: hear. The program's records: write. -/
import Derived.Test.YtaelaldmibgibaaGreatRows
import Derived.WalkKit
import Derived.WalkSpells
import Derived.WalkLawsBesides
import Derived.Deep.AppendLies
import Derived.Deep.MidRow
import Derived.Deep.DrawnRows
import Derived.BigQuiet
import Derived.Deep.QuietTactic
import Derived.Deep.RegionWith
import Derived.Deep.RegionHeld3
import Derived.ChangeKeysEq
import Derived.Deep.RegionLaw
import Derived.Test.YtaelaldmibgibaaGreatP01
import Derived.Test.YtaelaldmibgibaaGreatP18
import Derived.Test.YtaelaldmibgibaaGreatP19
import Derived.Test.YtaelaldmibgibaaGreatP22
import Derived.Test.YtaelaldmibgibaaGreatP20

set_option linter.unusedVariables false
set_option linter.unusedSimpArgs false
set_option linter.unusedSectionVars false

namespace Go.Proofs.YtaelaldmibgibaaGreat
open Go.RowKit
attribute [local go_sem ↓] Go.wp_at_zero Go.wp_at_succ

/-- two times, laid one behind the other in a new block -/
theorem built12 (w : World) (a b : Nat → Int) (ty : TypeId) :
    (∀ j, j < 6 → (w.alloc (.cells #[.int .i64 (a 0), .int .i64 (a 1), .int .i64 (a 2), .int .i64 (a 3), .int .i64 (a 4), .int .i64 (a 5), .int .i64 (b 0), .int .i64 (b 1), .int .i64 (b 2), .int .i64 (b 3), .int .i64 (b 4), .int .i64 (b 5)] ty)).cell? ⟨w.heap.size, j, none⟩ = some (.int .i64 (a j))) ∧
    (∀ j, j < 6 → (w.alloc (.cells #[.int .i64 (a 0), .int .i64 (a 1), .int .i64 (a 2), .int .i64 (a 3), .int .i64 (a 4), .int .i64 (a 5), .int .i64 (b 0), .int .i64 (b 1), .int .i64 (b 2), .int .i64 (b 3), .int .i64 (b 4), .int .i64 (b 5)] ty)).cell? ⟨w.heap.size, 6 + j, none⟩ = some (.int .i64 (b j))) := by
  constructor
  · intro j hj
    simp only [World.cell?, heap_alloc_new]
    match j, hj with
    | 0, _ | 1, _ | 2, _ | 3, _ | 4, _ | 5, _ => rfl
  · intro j hj
    simp only [World.cell?, heap_alloc_new]
    match j, hj with
    | 0, _ | 1, _ | 2, _ | 3, _ | 4, _ | 5, _ => rfl
theorem Greatest_built (w : World) (a b : Nat → Int) (ty : TypeId) :
    Calls Tryz.prog 70 #[.slice (some ⟨w.heap.size, 0, none⟩) 2 2] (w.alloc (.cells #[.int .i64 (a 0), .int .i64 (a 1), .int .i64 (a 2), .int .i64 (a 3), .int .i64 (a 4), .int .i64 (a 5), .int .i64 (b 0), .int .i64 (b 1), .int .i64 (b 2), .int .i64 (b 3), .int .i64 (b 4), .int .i64 (b 5)] ty))
      fun e w' => e = .returned (.agg #[.int .i64 (gboth a b 0), .int .i64 (gboth a b 1), .int .i64 (gboth a b 2), .int .i64 (gboth a b 3), .int .i64 (gboth a b 4), .int .i64 (gboth a b 5)]) ∧ Below w.heap.size w w' := by
  obtain ⟨h1, h2⟩ := built12 w a b ty
  refine (Greatest_any w.heap.size 2 a b _ (by simp) h1 h2).mono ?_
  rintro e w' ⟨he, hb⟩
  exact ⟨he, ((Below.refl _ _).alloc (Nat.le_refl _) _).trans (hb.mono (by simp))⟩

theorem stTime2 (w : World) (b o : Nat) (x0 x1 x2 x3 x4 x5 : Int) (ht : w.there b o 6) :
    (stM 108 (.pointer (some ⟨b, o, none⟩)) (.agg #[.int .i64 x0, .int .i64 x1, .int .i64 x2, .int .i64 x3, .int .i64 x4, .int .i64 x5])).run Tryz.prog w = .ok () (w.setCells b o [.int .i64 x0, .int .i64 x1, .int .i64 x2, .int .i64 x3, .int .i64 x4, .int .i64 x5]) :=
  run_storeAt_mid w b o _ #[.int .i64 x0, .int .i64 x1, .int .i64 x2, .int .i64 x3, .int .i64 x4, .int .i64 x5] ht size_Time (by simp [Value.oneCell'])
attribute [local go_sem ↓] stTime
attribute [local go_sem] stTime2

/-- six cells of a block, from 9 on, hold a time -/
structure At9 (w : World) (kb : Nat) (t : Nat → Int) : Prop where
  c0 : w.cell? ⟨kb, 9, none⟩ = some (.int .i64 (t 0))
  c1 : w.cell? ⟨kb, 10, none⟩ = some (.int .i64 (t 1))
  c2 : w.cell? ⟨kb, 11, none⟩ = some (.int .i64 (t 2))
  c3 : w.cell? ⟨kb, 12, none⟩ = some (.int .i64 (t 3))
  c4 : w.cell? ⟨kb, 13, none⟩ = some (.int .i64 (t 4))
  c5 : w.cell? ⟨kb, 14, none⟩ = some (.int .i64 (t 5))
  fz : ∀ j, w.frozen? ⟨kb, j, none⟩ = false
  lt : kb < w.heap.size
theorem At9.there {w : World} {kb : Nat} {t : Nat → Int} (h : At9 w kb t) : w.there kb 9 6 := by
  intro j hj
  refine ⟨?_, h.fz _⟩
  match j, hj with
  | 0, _ => rw [h.c0]; rfl
  | 1, _ => rw [h.c1]; rfl
  | 2, _ => rw [h.c2]; rfl
  | 3, _ => rw [h.c3]; rfl
  | 4, _ => rw [h.c4]; rfl
  | 5, _ => rw [h.c5]; rfl
theorem At9.more {w w' : World} {kb : Nat} {t : Nat → Int} (h : At9 w kb t) (hb : Below w.heap.size w w') : At9 w' kb t :=
  ⟨(hb.cell (p := ⟨kb, 9, none⟩) h.lt).trans h.c0, (hb.cell (p := ⟨kb, 10, none⟩) h.lt).trans h.c1, (hb.cell (p := ⟨kb, 11, none⟩) h.lt).trans h.c2, (hb.cell (p := ⟨kb, 12, none⟩) h.lt).trans h.c3, (hb.cell (p := ⟨kb, 13, none⟩) h.lt).trans h.c4, (hb.cell (p := ⟨kb, 14, none⟩) h.lt).trans h.c5, fun j => (hb.frozen (p := ⟨kb, j, none⟩) h.lt).trans (h.fz j), Nat.lt_of_lt_of_le h.lt hb.size⟩

theorem gboth_g1 (t u : Nat → Int) : gboth t (g1 u) = gboth t u := by
  funext j
  unfold gboth g1 zer
  (repeat' split) <;> omega
/-- a time, laid in a new block -/
theorem built6 (w : World) (a : Nat → Int) (ty : TypeId) (j : Nat) (hj : j < 6) :
    (w.alloc (.cells #[.int .i64 (a 0), .int .i64 (a 1), .int .i64 (a 2), .int .i64 (a 3), .int .i64 (a 4), .int .i64 (a 5)] ty)).cell? ⟨w.heap.size, j, none⟩ = some (.int .i64 (a j)) := by
  simp only [World.cell?, heap_alloc_new]
  match j, hj with
  | 0, _ | 1, _ | 2, _ | 3, _ | 4, _ | 5, _ => rfl

set_option maxRecDepth 100000 in
set_option maxHeartbeats 1000000 in
theorem hear_any (kb g cp : Nat) (t u : Nat → Int) (w : World) (h : At9 w kb t) (hg : g < w.heap.size) (hu : ∀ j, j < 6 → w.cell? ⟨g, j, none⟩ = some (.int .i64 (u j))) :
    Calls Tryz.prog 54 #[.pointer (some ⟨kb, 9, none⟩), .slice (some ⟨g, 0, none⟩) 1 cp] w fun e w' => e = .returned (.tuple #[]) ∧ ∃ w1, Below w.heap.size w w1 ∧ w' = w1.setCells kb 9 [.int .i64 (gboth t u 0), .int .i64 (gboth t u 1), .int .i64 (gboth t u 2), .int .i64 (gboth t u 3), .int .i64 (gboth t u 4), .int .i64 (gboth t u 5)] := by
  rw [← gboth_g1 t u]
  have H := hide h
  have c0 := h.c0
  have c1 := h.c1
  have c2 := h.c2
  have c3 := h.c3
  have c4 := h.c4
  have c5 := h.c5
  have G1 := hide (Greatest_one g cp u w.drew hg hu)
  clear h hg hu
  go_enter Tryz.func54, Tryz.ntmps54
  go_wp2
  go_region_law (first
    | (have hz := BB.out.size; have X1 := hide (built12 w1 t (g1 u) 108); go_simp; go_at_call 70; refine (Greatest_any w1.heap.size 2 t (g1 u) _ (by simp) (by exact X1.out.1) (by exact X1.out.2)).mono ?_; rintro e w2 ⟨rfl, hb2⟩; have B2 := hide ((BB.out.alloc hz _).trans (hb2.mono (by simp; omega))); have dth := (H.out.more B2.out).there; dsimp only)
    | (go_simp; go_at_call 70; refine G1.out.mono ?_; rintro e w1 ⟨rfl, hb1⟩; have BB := hide ((Below.refl w.heap.size w).drew.trans hb1); have H1 := H.out.more BB.out; have d0 := H1.c0; have d1 := H1.c1; have d2 := H1.c2; have d3 := H1.c3; have d4 := H1.c4; have d5 := H1.c5; clear H1 hb1; dsimp only))
  all_goals go_wp2
  all_goals go_end0
  all_goals exact ⟨rfl, w2, B2.out, rfl⟩

end Go.Proofs.YtaelaldmibgibaaGreat

namespace Go.Proofs.YtaelaldmibgibaaGreat
open Go.RowKit
attribute [local go_sem ↓] Go.wp_at_zero Go.wp_at_succ
attribute [local go_sem ↓] stTime
attribute [local go_sem] stTime2

/-- nine cells of a block, from 0 on, hold a file -/
structure File0 (w : World) (fb : Nat) (t : ByteArray) (br bn : Int) (ch : Nat → Int) : Prop where
  c0 : w.cell? ⟨fb, 0, none⟩ = some (.string t)
  c1 : w.cell? ⟨fb, 1, none⟩ = some (.int .i64 br)
  c2 : w.cell? ⟨fb, 2, none⟩ = some (.int .i64 bn)
  c3 : w.cell? ⟨fb, 3, none⟩ = some (.int .i64 (ch 0))
  c4 : w.cell? ⟨fb, 4, none⟩ = some (.int .i64 (ch 1))
  c5 : w.cell? ⟨fb, 5, none⟩ = some (.int .i64 (ch 2))
  c6 : w.cell? ⟨fb, 6, none⟩ = some (.int .i64 (ch 3))
  c7 : w.cell? ⟨fb, 7, none⟩ = some (.int .i64 (ch 4))
  c8 : w.cell? ⟨fb, 8, none⟩ = some (.int .i64 (ch 5))
  fz : ∀ j, w.frozen? ⟨fb, j, none⟩ = false
  lt : fb < w.heap.size

theorem File0.more {w w' : World} {fb : Nat} {t : ByteArray} {br bn : Int} {ch : Nat → Int} (h : File0 w fb t br bn ch) (hb : Below w.heap.size w w') : File0 w' fb t br bn ch :=
  ⟨(hb.cell (p := ⟨fb, 0, none⟩) h.lt).trans h.c0, (hb.cell (p := ⟨fb, 1, none⟩) h.lt).trans h.c1, (hb.cell (p := ⟨fb, 2, none⟩) h.lt).trans h.c2, (hb.cell (p := ⟨fb, 3, none⟩) h.lt).trans h.c3, (hb.cell (p := ⟨fb, 4, none⟩) h.lt).trans h.c4, (hb.cell (p := ⟨fb, 5, none⟩) h.lt).trans h.c5, (hb.cell (p := ⟨fb, 6, none⟩) h.lt).trans h.c6, (hb.cell (p := ⟨fb, 7, none⟩) h.lt).trans h.c7, (hb.cell (p := ⟨fb, 8, none⟩) h.lt).trans h.c8, fun j => (hb.frozen (p := ⟨fb, j, none⟩) h.lt).trans (h.fz j), Nat.lt_of_lt_of_le h.lt hb.size⟩
theorem set_ne (w : World) (b i j : Nat) (u : Value) (h : i ≠ j) : (w.setCell ⟨b, i, none⟩ u).cell? ⟨b, j, none⟩ = w.cell? ⟨b, j, none⟩ := World.cell?_setCell_other w ⟨b, i, none⟩ ⟨b, j, none⟩ u (by simp <;> exact h)
theorem File0.setText {w : World} {fb : Nat} {t : ByteArray} {br bn : Int} {ch : Nat → Int} (h : File0 w fb t br bn ch) (t' : ByteArray) : File0 (w.setCell ⟨fb, 0, none⟩ (.string t')) fb t' br bn ch :=
  ⟨World.cell?_setCell_same _ _ _ h.c0, (set_ne _ _ _ _ _ (by decide)).trans h.c1, (set_ne _ _ _ _ _ (by decide)).trans h.c2, (set_ne _ _ _ _ _ (by decide)).trans h.c3, (set_ne _ _ _ _ _ (by decide)).trans h.c4, (set_ne _ _ _ _ _ (by decide)).trans h.c5, (set_ne _ _ _ _ _ (by decide)).trans h.c6, (set_ne _ _ _ _ _ (by decide)).trans h.c7, (set_ne _ _ _ _ _ (by decide)).trans h.c8, fun j => by rw [World.frozen?_setCell]; exact h.fz j, by simpa [World.setCell] using h.lt⟩
theorem File0.setBirth {w : World} {fb : Nat} {t : ByteArray} {br bn : Int} {ch : Nat → Int} (h : File0 w fb t br bn ch) (x y : Int) : File0 ((w.setCell ⟨fb, 1, none⟩ (.int .i64 x)).setCell ⟨fb, 2, none⟩ (.int .i64 y)) fb t x y ch := by
  have e : ∀ j, 2 ≠ j → 1 ≠ j → ((w.setCell ⟨fb, 1, none⟩ (.int .i64 x)).setCell ⟨fb, 2, none⟩ (.int .i64 y)).cell? ⟨fb, j, none⟩ = w.cell? ⟨fb, j, none⟩ := fun j h2 h1 => (set_ne _ _ _ _ _ h2).trans (set_ne _ _ _ _ _ h1)
  exact ⟨(e 0 (by decide) (by decide)).trans h.c0, (set_ne _ _ _ _ _ (by decide)).trans (World.cell?_setCell_same _ _ _ h.c1), World.cell?_setCell_same _ _ _ ((set_ne _ _ _ _ _ (by decide)).trans h.c2), (e 3 (by decide) (by decide)).trans h.c3, (e 4 (by decide) (by decide)).trans h.c4, (e 5 (by decide) (by decide)).trans h.c5, (e 6 (by decide) (by decide)).trans h.c6, (e 7 (by decide) (by decide)).trans h.c7, (e 8 (by decide) (by decide)).trans h.c8, fun j => by rw [World.frozen?_setCell, World.frozen?_setCell]; exact h.fz j, by simpa [World.setCell] using h.lt⟩
theorem File0.there {w : World} {fb : Nat} {t : ByteArray} {br bn : Int} {ch : Nat → Int} (h : File0 w fb t br bn ch) : w.there fb 3 6 := by
  intro j hj
  refine ⟨?_, h.fz _⟩
  match j, hj with
  | 0, _ => rw [h.c3]; rfl
  | 1, _ => rw [h.c4]; rfl
  | 2, _ => rw [h.c5]; rfl
  | 3, _ => rw [h.c6]; rfl
  | 4, _ => rw [h.c7]; rfl
  | 5, _ => rw [h.c8]; rfl

/-- the time that has one event alone, as a function -/
def tf (r : Nat) (x : Int) (j : Nat) : Int := (one r x).getD j 0
theorem Alone_fn (r : Nat) (x : Int) (w : World) (hr : r < 6) :
    Calls Tryz.prog 55 #[.agg #[.int .i64 r, .int .i64 x]] w fun e w' => e = .returned (.agg #[.int .i64 (tf r x 0), .int .i64 (tf r x 1), .int .i64 (tf r x 2), .int .i64 (tf r x 3), .int .i64 (tf r x 4), .int .i64 (tf r x 5)]) ∧ Below w.heap.size w w' := by
  refine (Alone_any r x w hr).mono ?_
  rintro e w' ⟨rfl, hb⟩
  refine ⟨?_, hb⟩
  match r, hr with
  | 0, _ | 1, _ | 2, _ | 3, _ | 4, _ | 5, _ => rfl

/-- the last step of write: the event among the changes -/
structure EvAt (w : World) (ev : Nat) (r : Nat) (x : Int) : Prop where
  e0 : w.cell? ⟨ev, 0, none⟩ = some (.int .i64 r)
  e1 : w.cell? ⟨ev, 1, none⟩ = some (.int .i64 x)
  lt : ev < w.heap.size
theorem EvAt.more {w w' : World} {ev r : Nat} {x : Int} (h : EvAt w ev r x) (hb : Below w.heap.size w w') : EvAt w' ev r x :=
  ⟨(hb.cell (p := ⟨ev, 0, none⟩) h.lt).trans h.e0, (hb.cell (p := ⟨ev, 1, none⟩) h.lt).trans h.e1, Nat.lt_of_lt_of_le h.lt hb.size⟩
theorem EvAt.set {w : World} {ev r : Nat} {x : Int} (h : EvAt w ev r x) (b j : Nat) (u : Value) (hb : b ≠ ev) : EvAt (w.setCell ⟨b, j, none⟩ u) ev r x :=
  ⟨(World.cell?_setCell_far _ _ _ _ hb).trans h.e0, (World.cell?_setCell_far _ _ _ _ hb).trans h.e1, by simpa [World.setCell] using h.lt⟩

set_option maxRecDepth 100000 in
set_option maxHeartbeats 600000 in
theorem fwrite_old (fb : Nat) (t t' : ByteArray) (br bn : Int) (ch : Nat → Int) (r : Nat) (x : Int) (hr : r < 6) (w : World) (h : File0 w fb t br bn ch) (hbn : 0 < bn) :
    Calls Tryz.prog 52 #[.pointer (some ⟨fb, 0, none⟩), .string t', .agg #[.int .i64 r, .int .i64 x]] w fun e w' => e = .returned (.tuple #[]) ∧ ∃ w1 w3, Below w.heap.size w w1 ∧ Below w1.heap.size (w1.setCell ⟨fb, 0, none⟩ (.string t')) w3 ∧ w' = w3.setCells fb 3 [.int .i64 (gboth ch (tf r x) 0), .int .i64 (gboth ch (tf r x) 1), .int .i64 (gboth ch (tf r x) 2), .int .i64 (gboth ch (tf r x) 3), .int .i64 (gboth ch (tf r x) 4), .int .i64 (gboth ch (tf r x) 5)] := by
  have H := hide h
  obtain ⟨c0, c1, c2, c3, c4, c5, c6, c7, c8, fz, lt⟩ := h
  have hne : fb ≠ w.heap.size := by omega
  have hne' : w.heap.size ≠ fb := by omega
  have hd : decide (0 < bn) = true := by simp [hbn]
  have EV : Hid (EvAt (w.alloc (.cells #[.int .i64 r, .int .i64 x] 114)) w.heap.size r x) := by
    refine ⟨?_, ?_, by simp⟩ <;> (simp only [World.cell?, heap_alloc_new]; rfl)
  have FH := hide (H.out.more ((Below.refl _ _).alloc (Nat.le_refl _) (.cells #[.int .i64 r, .int .i64 x] 114)))
  have HB := hide ((Below.refl w.heap.size w).alloc (Nat.le_refl _) (.cells #[.int .i64 r, .int .i64 x] 114))
  go_enter Tryz.func52, Tryz.ntmps52
  go_wp2_with fail
  refine (isThere_any _ _ _ _ _ _ _ _ _ _).mono ?_
  rintro e w1 ⟨rfl, hb1⟩
  have F1 := FH.out.more hb1
  have E1 := EV.out.more hb1
  have B1 := hide (HB.out.trans (hb1.mono (by simp)))
  have F2 := hide (F1.setText t')
  have E2 := hide (E1.set fb 0 (.string t') hne)
  have d0 := F1.c0
  have df := F1.fz
  clear c0 c1 c2 c3 c4 c5 c6 c7 c8 fz F1 E1 hb1 H EV FH HB
  go_wp2_with fail
  have HZ : Hid ((w1.setCell ⟨fb, 0, none⟩ (.string t')).heap.size = w1.heap.size) := by unfold Hid; simp [World.setCell]
  clear d0 df
  generalize hW : w1.setCell ⟨fb, 0, none⟩ (.string t') = W1 at F2 E2 HZ ⊢
  have HW := hide hW
  clear hW
  obtain ⟨_, _, _, c3, c4, c5, c6, c7, c8, _, clt⟩ := F2.out
  obtain ⟨e0, e1, elt⟩ := E2.out
  go_region_law (first
    | (go_simp; go_at_call 55; refine (Alone_fn r x _ hr).mono ?_; rintro e w2 ⟨rfl, hb2r⟩; have hb2 := hide (⟨hb2r.os, hb2r.tape, hb2r.output, hb2r.size, hb2r.block⟩ : Below W1.heap.size W1 w2); have F3 := hide (F2.out.more hb2.out); obtain ⟨_, _, _, m3, m4, m5, m6, m7, m8, _, mlt⟩ := F2.out.more hb2.out; have KB1 := hide (built12 w2 ch (tf r x) 108).1; have KB2 := hide (built12 w2 ch (tf r x) 108).2; dsimp only)
    | (go_simp; go_at_call 70; refine (Greatest_any w2.heap.size 2 ch (tf r x) _ (by simp) (by exact KB1.out) (by exact KB2.out)).mono ?_; rintro e w3 ⟨rfl, hb3⟩; have hb4 := hide ((hb2.out.alloc hb2.out.size _).trans (hb3.mono (by simp; have := hb2.out.size; omega))); have dth := (F2.out.more hb4.out).there; dsimp only))
  all_goals go_wp2
  all_goals go_end0
  all_goals exact ⟨rfl, w1, w3, B1.out, by rw [HW.out, ← HZ.out]; exact hb4.out, rfl⟩

set_option maxRecDepth 100000 in
set_option maxHeartbeats 600000 in
theorem fwrite_new (fb : Nat) (t t' : ByteArray) (br bn : Int) (ch : Nat → Int) (r : Nat) (x : Int) (hr : r < 6) (w : World) (h : File0 w fb t br bn ch) (hbn : bn = 0) :
    Calls Tryz.prog 52 #[.pointer (some ⟨fb, 0, none⟩), .string t', .agg #[.int .i64 r, .int .i64 x]] w fun e w' => e = .returned (.tuple #[]) ∧ ∃ w1 w3, Below w.heap.size w w1 ∧ Below w1.heap.size (((w1.setCell ⟨fb, 1, none⟩ (.int .i64 r)).setCell ⟨fb, 2, none⟩ (.int .i64 x)).setCell ⟨fb, 0, none⟩ (.string t')) w3 ∧ w' = w3.setCells fb 3 [.int .i64 (gboth ch (tf r x) 0), .int .i64 (gboth ch (tf r x) 1), .int .i64 (gboth ch (tf r x) 2), .int .i64 (gboth ch (tf r x) 3), .int .i64 (gboth ch (tf r x) 4), .int .i64 (gboth ch (tf r x) 5)] := by
  have H := hide h
  obtain ⟨c0, c1, c2, c3, c4, c5, c6, c7, c8, fz, lt⟩ := h
  have hne : fb ≠ w.heap.size := by omega
  have hne' : w.heap.size ≠ fb := by omega
  have hd : decide ((0 : Int) < 0) = false := by simp
  subst hbn
  have EV : Hid (EvAt (w.alloc (.cells #[.int .i64 r, .int .i64 x] 114)) w.heap.size r x) := by
    refine ⟨?_, ?_, by simp⟩ <;> (simp only [World.cell?, heap_alloc_new]; rfl)
  have FH := hide (H.out.more ((Below.refl _ _).alloc (Nat.le_refl _) (.cells #[.int .i64 r, .int .i64 x] 114)))
  have HB := hide ((Below.refl w.heap.size w).alloc (Nat.le_refl _) (.cells #[.int .i64 r, .int .i64 x] 114))
  go_enter Tryz.func52, Tryz.ntmps52
  go_wp2_with fail
  refine (isThere_any _ _ _ _ _ _ _ _ _ _).mono ?_
  rintro e w1 ⟨rfl, hb1⟩
  have F1 := FH.out.more hb1
  have E1 := EV.out.more hb1
  have B1 := hide (HB.out.trans (hb1.mono (by simp)))
  have F2 := hide ((F1.setBirth r x).setText t')
  have E2 := hide (((E1.set fb 1 (.int .i64 r) hne).set fb 2 (.int .i64 x) hne).set fb 0 (.string t') hne)
  have d1 := F1.c1
  have d2 := F1.c2
  have e10 := E1.e0
  have e11 := E1.e1
  have d0 := F1.c0
  have df := F1.fz
  clear c0 c1 c2 c3 c4 c5 c6 c7 c8 fz F1 E1 hb1 H EV FH HB
  go_wp2_with fail
  have HZ : Hid ((((w1.setCell ⟨fb, 1, none⟩ (.int .i64 r)).setCell ⟨fb, 2, none⟩ (.int .i64 x)).setCell ⟨fb, 0, none⟩ (.string t')).heap.size = w1.heap.size) := by unfold Hid; simp [World.setCell]
  clear d0 df d1 d2 e10 e11
  generalize hW : ((w1.setCell ⟨fb, 1, none⟩ (.int .i64 r)).setCell ⟨fb, 2, none⟩ (.int .i64 x)).setCell ⟨fb, 0, none⟩ (.string t') = W1 at F2 E2 HZ ⊢
  have HW := hide hW
  clear hW
  obtain ⟨_, _, _, c3, c4, c5, c6, c7, c8, _, clt⟩ := F2.out
  obtain ⟨e0, e1, elt⟩ := E2.out
  go_region_law (first
    | (go_simp; go_at_call 55; refine (Alone_fn r x _ hr).mono ?_; rintro e w2 ⟨rfl, hb2r⟩; have hb2 := hide (⟨hb2r.os, hb2r.tape, hb2r.output, hb2r.size, hb2r.block⟩ : Below W1.heap.size W1 w2); have F3 := hide (F2.out.more hb2.out); obtain ⟨_, _, _, m3, m4, m5, m6, m7, m8, _, mlt⟩ := F2.out.more hb2.out; have KB1 := hide (built12 w2 ch (tf r x) 108).1; have KB2 := hide (built12 w2 ch (tf r x) 108).2; dsimp only)
    | (go_simp; go_at_call 70; refine (Greatest_any w2.heap.size 2 ch (tf r x) _ (by simp) (by exact KB1.out) (by exact KB2.out)).mono ?_; rintro e w3 ⟨rfl, hb3⟩; have hb4 := hide ((hb2.out.alloc hb2.out.size _).trans (hb3.mono (by simp; have := hb2.out.size; omega))); have dth := (F2.out.more hb4.out).there; dsimp only))
  all_goals go_wp2
  all_goals go_end0
  all_goals exact ⟨rfl, w1, w3, B1.out, by rw [HW.out, ← HZ.out]; exact hb4.out, rfl⟩

end Go.Proofs.YtaelaldmibgibaaGreat
