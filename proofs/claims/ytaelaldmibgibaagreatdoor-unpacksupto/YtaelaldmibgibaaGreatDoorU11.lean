/- The program's records: hear. The program's records: write. The program's reader of times. The program's reader of events. The program's sum, its last line, and Unseal. -/
import Derived.Test.YtaelaldmibgibaaGreatDoorU09
import Derived.Test.YtaelaldmibgibaaGreatDoorU10
import Derived.Deep.RegionLaw
import Derived.Test.YtaelaldmibgibaaGreatDoorU07
import Derived.Test.YtaelaldmibgibaaGreatDoorU04

set_option linter.unusedVariables false
set_option linter.unusedSimpArgs false

namespace Go.Proofs.YtaelaldmibgibaaGreatDoor
open Go.RowKit
attribute [local go_sem ↓] Go.wp_at_zero Go.wp_at_succ

/-- two times, laid one behind the other in a new block -/
theorem built12 (w : World) (a b : Nat → Int) (ty : TypeId) :
    (∀ j, j < 6 → (w.alloc (.cells #[.int .i64 (a 0), .int .i64 (a 1), .int .i64 (a 2), .int .i64 (a 3), .int .i64 (a 4), .int .i64 (a 5), .int .i64 (b 0), .int .i64 (b 1), .int .i64 (b 2), .int .i64 (b 3), .int .i64 (b 4), .int .i64 (b 5)] ty)).cell? ⟨w.heap.size, j, none⟩ = some (.int .i64 (a j))) ∧
    (∀ j, j < 6 → (w.alloc (.cells #[.int .i64 (a 0), .int .i64 (a 1), .int .i64 (a 2), .int .i64 (a 3), .int .i64 (a 4), .int .i64 (a 5), .int .i64 (b 0), .int .i64 (b 1), .int .i64 (b 2), .int .i64 (b 3), .int .i64 (b 4), .int .i64 (b 5)] ty)).cell? ⟨w.heap.size, 6 + j, none⟩ = some (.int .i64 (b j))) := by
  constructor
  · intro j hj
    simp only [World.cell?, heap_alloc_new]
    match j, hj with
    | 0, _ | 1, _ | 2, _ | 3, _ | 4, _ | 5, _ => rfl
  · intro j hj
    simp only [World.cell?, heap_alloc_new]
    match j, hj with
    | 0, _ | 1, _ | 2, _ | 3, _ | 4, _ | 5, _ => rfl
theorem Greatest_built (w : World) (a b : Nat → Int) (ty : TypeId) :
    Calls Tryz.prog 128 #[.slice (some ⟨w.heap.size, 0, none⟩) 2 2] (w.alloc (.cells #[.int .i64 (a 0), .int .i64 (a 1), .int .i64 (a 2), .int .i64 (a 3), .int .i64 (a 4), .int .i64 (a 5), .int .i64 (b 0), .int .i64 (b 1), .int .i64 (b 2), .int .i64 (b 3), .int .i64 (b 4), .int .i64 (b 5)] ty))
      fun e w' => e = .returned (.agg #[.int .i64 (gboth a b 0), .int .i64 (gboth a b 1), .int .i64 (gboth a b 2), .int .i64 (gboth a b 3), .int .i64 (gboth a b 4), .int .i64 (gboth a b 5)]) ∧ Below w.heap.size w w' := by
  obtain ⟨h1, h2⟩ := built12 w a b ty
  refine (Greatest_any w.heap.size 2 a b _ (by simp) h1 h2).mono ?_
  rintro e w' ⟨he, hb⟩
  exact ⟨he, ((Below.refl _ _).alloc (Nat.le_refl _) _).trans (hb.mono (by simp))⟩

theorem stTime2 (w : World) (b o : Nat) (x0 x1 x2 x3 x4 x5 : Int) (ht : w.there b o 6) :
    (stM 186 (.pointer (some ⟨b, o, none⟩)) (.agg #[.int .i64 x0, .int .i64 x1, .int .i64 x2, .int .i64 x3, .int .i64 x4, .int .i64 x5])).run Tryz.prog w = .ok () (w.setCells b o [.int .i64 x0, .int .i64 x1, .int .i64 x2, .int .i64 x3, .int .i64 x4, .int .i64 x5]) :=
  run_storeAt_mid w b o _ #[.int .i64 x0, .int .i64 x1, .int .i64 x2, .int .i64 x3, .int .i64 x4, .int .i64 x5] ht size_Time (by simp [Value.oneCell'])
attribute [local go_sem ↓] stTime
attribute [local go_sem] stTime2

/-- six cells of a block, from 9 on, hold a time -/
structure At9 (w : World) (kb : Nat) (t : Nat → Int) : Prop where
  c0 : w.cell? ⟨kb, 9, none⟩ = some (.int .i64 (t 0))
  c1 : w.cell? ⟨kb, 10, none⟩ = some (.int .i64 (t 1))
  c2 : w.cell? ⟨kb, 11, none⟩ = some (.int .i64 (t 2))
  c3 : w.cell? ⟨kb, 12, none⟩ = some (.int .i64 (t 3))
  c4 : w.cell? ⟨kb, 13, none⟩ = some (.int .i64 (t 4))
  c5 : w.cell? ⟨kb, 14, none⟩ = some (.int .i64 (t 5))
  fz : ∀ j, w.frozen? ⟨kb, j, none⟩ = false
  lt : kb < w.heap.size
theorem At9.there {w : World} {kb : Nat} {t : Nat → Int} (h : At9 w kb t) : w.there kb 9 6 := by
  intro j hj
  refine ⟨?_, h.fz _⟩
  match j, hj with
  | 0, _ => rw [h.c0]; rfl
  | 1, _ => rw [h.c1]; rfl
  | 2, _ => rw [h.c2]; rfl
  | 3, _ => rw [h.c3]; rfl
  | 4, _ => rw [h.c4]; rfl
  | 5, _ => rw [h.c5]; rfl
theorem At9.more {w w' : World} {kb : Nat} {t : Nat → Int} (h : At9 w kb t) (hb : Below w.heap.size w w') : At9 w' kb t :=
  ⟨(hb.cell (p := ⟨kb, 9, none⟩) h.lt).trans h.c0, (hb.cell (p := ⟨kb, 10, none⟩) h.lt).trans h.c1, (hb.cell (p := ⟨kb, 11, none⟩) h.lt).trans h.c2, (hb.cell (p := ⟨kb, 12, none⟩) h.lt).trans h.c3, (hb.cell (p := ⟨kb, 13, none⟩) h.lt).trans h.c4, (hb.cell (p := ⟨kb, 14, none⟩) h.lt).trans h.c5, fun j => (hb.frozen (p := ⟨kb, j, none⟩) h.lt).trans (h.fz j), Nat.lt_of_lt_of_le h.lt hb.size⟩

theorem gboth_g1 (t u : Nat → Int) : gboth t (g1 u) = gboth t u := by
  funext j
  unfold gboth g1 zer
  (repeat' split) <;> omega
/-- a time, laid in a new block -/
theorem built6 (w : World) (a : Nat → Int) (ty : TypeId) (j : Nat) (hj : j < 6) :
    (w.alloc (.cells #[.int .i64 (a 0), .int .i64 (a 1), .int .i64 (a 2), .int .i64 (a 3), .int .i64 (a 4), .int .i64 (a 5)] ty)).cell? ⟨w.heap.size, j, none⟩ = some (.int .i64 (a j)) := by
  simp only [World.cell?, heap_alloc_new]
  match j, hj with
  | 0, _ | 1, _ | 2, _ | 3, _ | 4, _ | 5, _ => rfl

set_option maxRecDepth 100000 in
set_option maxHeartbeats 1000000 in
theorem hear_any (kb g cp : Nat) (t u : Nat → Int) (w : World) (h : At9 w kb t) (hg : g < w.heap.size) (hu : ∀ j, j < 6 → w.cell? ⟨g, j, none⟩ = some (.int .i64 (u j))) :
    Calls Tryz.prog 110 #[.pointer (some ⟨kb, 9, none⟩), .slice (some ⟨g, 0, none⟩) 1 cp] w fun e w' => e = .returned (.tuple #[]) ∧ ∃ w1, Below w.heap.size w w1 ∧ w' = w1.setCells kb 9 [.int .i64 (gboth t u 0), .int .i64 (gboth t u 1), .int .i64 (gboth t u 2), .int .i64 (gboth t u 3), .int .i64 (gboth t u 4), .int .i64 (gboth t u 5)] := by
  rw [← gboth_g1 t u]
  have H := hide h
  have c0 := h.c0
  have c1 := h.c1
  have c2 := h.c2
  have c3 := h.c3
  have c4 := h.c4
  have c5 := h.c5
  have G1 := hide (Greatest_one g cp u w.drew hg hu)
  clear h hg hu
  go_enter Tryz.func110, Tryz.ntmps110
  go_wp2
  go_region_law (first
    | (have hz := BB.out.size; have X1 := hide (built12 w1 t (g1 u) 186); go_simp; go_at_call 128; refine (Greatest_any w1.heap.size 2 t (g1 u) _ (by simp) (by exact X1.out.1) (by exact X1.out.2)).mono ?_; rintro e w2 ⟨rfl, hb2⟩; have B2 := hide ((BB.out.alloc hz _).trans (hb2.mono (by simp; omega))); have dth := (H.out.more B2.out).there; dsimp only)
    | (go_simp; go_at_call 128; refine G1.out.mono ?_; rintro e w1 ⟨rfl, hb1⟩; have BB := hide ((Below.refl w.heap.size w).drew.trans hb1); have H1 := H.out.more BB.out; have d0 := H1.c0; have d1 := H1.c1; have d2 := H1.c2; have d3 := H1.c3; have d4 := H1.c4; have d5 := H1.c5; clear H1 hb1; dsimp only))
  all_goals go_wp2
  all_goals go_end0
  all_goals exact ⟨rfl, w2, B2.out, rfl⟩

end Go.Proofs.YtaelaldmibgibaaGreatDoor

namespace Go.Proofs.YtaelaldmibgibaaGreatDoor
open Go.RowKit
attribute [local go_sem ↓] Go.wp_at_zero Go.wp_at_succ
attribute [local go_sem ↓] stTime
attribute [local go_sem] stTime2

/-- nine cells of a block, from 0 on, hold a file -/
structure File0 (w : World) (fb : Nat) (t : ByteArray) (br bn : Int) (ch : Nat → Int) : Prop where
  c0 : w.cell? ⟨fb, 0, none⟩ = some (.string t)
  c1 : w.cell? ⟨fb, 1, none⟩ = some (.int .i64 br)
  c2 : w.cell? ⟨fb, 2, none⟩ = some (.int .i64 bn)
  c3 : w.cell? ⟨fb, 3, none⟩ = some (.int .i64 (ch 0))
  c4 : w.cell? ⟨fb, 4, none⟩ = some (.int .i64 (ch 1))
  c5 : w.cell? ⟨fb, 5, none⟩ = some (.int .i64 (ch 2))
  c6 : w.cell? ⟨fb, 6, none⟩ = some (.int .i64 (ch 3))
  c7 : w.cell? ⟨fb, 7, none⟩ = some (.int .i64 (ch 4))
  c8 : w.cell? ⟨fb, 8, none⟩ = some (.int .i64 (ch 5))
  fz : ∀ j, w.frozen? ⟨fb, j, none⟩ = false
  lt : fb < w.heap.size

theorem File0.more {w w' : World} {fb : Nat} {t : ByteArray} {br bn : Int} {ch : Nat → Int} (h : File0 w fb t br bn ch) (hb : Below w.heap.size w w') : File0 w' fb t br bn ch :=
  ⟨(hb.cell (p := ⟨fb, 0, none⟩) h.lt).trans h.c0, (hb.cell (p := ⟨fb, 1, none⟩) h.lt).trans h.c1, (hb.cell (p := ⟨fb, 2, none⟩) h.lt).trans h.c2, (hb.cell (p := ⟨fb, 3, none⟩) h.lt).trans h.c3, (hb.cell (p := ⟨fb, 4, none⟩) h.lt).trans h.c4, (hb.cell (p := ⟨fb, 5, none⟩) h.lt).trans h.c5, (hb.cell (p := ⟨fb, 6, none⟩) h.lt).trans h.c6, (hb.cell (p := ⟨fb, 7, none⟩) h.lt).trans h.c7, (hb.cell (p := ⟨fb, 8, none⟩) h.lt).trans h.c8, fun j => (hb.frozen (p := ⟨fb, j, none⟩) h.lt).trans (h.fz j), Nat.lt_of_lt_of_le h.lt hb.size⟩
theorem set_ne (w : World) (b i j : Nat) (u : Value) (h : i ≠ j) : (w.setCell ⟨b, i, none⟩ u).cell? ⟨b, j, none⟩ = w.cell? ⟨b, j, none⟩ := World.cell?_setCell_other w ⟨b, i, none⟩ ⟨b, j, none⟩ u (by simp <;> exact h)
theorem File0.setText {w : World} {fb : Nat} {t : ByteArray} {br bn : Int} {ch : Nat → Int} (h : File0 w fb t br bn ch) (t' : ByteArray) : File0 (w.setCell ⟨fb, 0, none⟩ (.string t')) fb t' br bn ch :=
  ⟨World.cell?_setCell_same _ _ _ h.c0, (set_ne _ _ _ _ _ (by decide)).trans h.c1, (set_ne _ _ _ _ _ (by decide)).trans h.c2, (set_ne _ _ _ _ _ (by decide)).trans h.c3, (set_ne _ _ _ _ _ (by decide)).trans h.c4, (set_ne _ _ _ _ _ (by decide)).trans h.c5, (set_ne _ _ _ _ _ (by decide)).trans h.c6, (set_ne _ _ _ _ _ (by decide)).trans h.c7, (set_ne _ _ _ _ _ (by decide)).trans h.c8, fun j => by rw [World.frozen?_setCell]; exact h.fz j, by simpa [World.setCell] using h.lt⟩
theorem File0.setBirth {w : World} {fb : Nat} {t : ByteArray} {br bn : Int} {ch : Nat → Int} (h : File0 w fb t br bn ch) (x y : Int) : File0 ((w.setCell ⟨fb, 1, none⟩ (.int .i64 x)).setCell ⟨fb, 2, none⟩ (.int .i64 y)) fb t x y ch := by
  have e : ∀ j, 2 ≠ j → 1 ≠ j → ((w.setCell ⟨fb, 1, none⟩ (.int .i64 x)).setCell ⟨fb, 2, none⟩ (.int .i64 y)).cell? ⟨fb, j, none⟩ = w.cell? ⟨fb, j, none⟩ := fun j h2 h1 => (set_ne _ _ _ _ _ h2).trans (set_ne _ _ _ _ _ h1)
  exact ⟨(e 0 (by decide) (by decide)).trans h.c0, (set_ne _ _ _ _ _ (by decide)).trans (World.cell?_setCell_same _ _ _ h.c1), World.cell?_setCell_same _ _ _ ((set_ne _ _ _ _ _ (by decide)).trans h.c2), (e 3 (by decide) (by decide)).trans h.c3, (e 4 (by decide) (by decide)).trans h.c4, (e 5 (by decide) (by decide)).trans h.c5, (e 6 (by decide) (by decide)).trans h.c6, (e 7 (by decide) (by decide)).trans h.c7, (e 8 (by decide) (by decide)).trans h.c8, fun j => by rw [World.frozen?_setCell, World.frozen?_setCell]; exact h.fz j, by simpa [World.setCell] using h.lt⟩
theorem File0.there {w : World} {fb : Nat} {t : ByteArray} {br bn : Int} {ch : Nat → Int} (h : File0 w fb t br bn ch) : w.there fb 3 6 := by
  intro j hj
  refine ⟨?_, h.fz _⟩
  match j, hj with
  | 0, _ => rw [h.c3]; rfl
  | 1, _ => rw [h.c4]; rfl
  | 2, _ => rw [h.c5]; rfl
  | 3, _ => rw [h.c6]; rfl
  | 4, _ => rw [h.c7]; rfl
  | 5, _ => rw [h.c8]; rfl

/-- the time that has one event alone, as a function -/
def tf (r : Nat) (x : Int) (j : Nat) : Int := (one r x).getD j 0
theorem Alone_fn (r : Nat) (x : Int) (w : World) (hr : r < 6) :
    Calls Tryz.prog 111 #[.agg #[.int .i64 r, .int .i64 x]] w fun e w' => e = .returned (.agg #[.int .i64 (tf r x 0), .int .i64 (tf r x 1), .int .i64 (tf r x 2), .int .i64 (tf r x 3), .int .i64 (tf r x 4), .int .i64 (tf r x 5)]) ∧ Below w.heap.size w w' := by
  refine (Alone_any r x w hr).mono ?_
  rintro e w' ⟨rfl, hb⟩
  refine ⟨?_, hb⟩
  match r, hr with
  | 0, _ | 1, _ | 2, _ | 3, _ | 4, _ | 5, _ => rfl

/-- the last step of write: the event among the changes -/
structure EvAt (w : World) (ev : Nat) (r : Nat) (x : Int) : Prop where
  e0 : w.cell? ⟨ev, 0, none⟩ = some (.int .i64 r)
  e1 : w.cell? ⟨ev, 1, none⟩ = some (.int .i64 x)
  lt : ev < w.heap.size
theorem EvAt.more {w w' : World} {ev r : Nat} {x : Int} (h : EvAt w ev r x) (hb : Below w.heap.size w w') : EvAt w' ev r x :=
  ⟨(hb.cell (p := ⟨ev, 0, none⟩) h.lt).trans h.e0, (hb.cell (p := ⟨ev, 1, none⟩) h.lt).trans h.e1, Nat.lt_of_lt_of_le h.lt hb.size⟩
theorem EvAt.set {w : World} {ev r : Nat} {x : Int} (h : EvAt w ev r x) (b j : Nat) (u : Value) (hb : b ≠ ev) : EvAt (w.setCell ⟨b, j, none⟩ u) ev r x :=
  ⟨(World.cell?_setCell_far _ _ _ _ hb).trans h.e0, (World.cell?_setCell_far _ _ _ _ hb).trans h.e1, by simpa [World.setCell] using h.lt⟩

set_option maxRecDepth 100000 in
set_option maxHeartbeats 600000 in
theorem fwrite_old (fb : Nat) (t t' : ByteArray) (br bn : Int) (ch : Nat → Int) (r : Nat) (x : Int) (hr : r < 6) (w : World) (h : File0 w fb t br bn ch) (hbn : 0 < bn) :
    Calls Tryz.prog 108 #[.pointer (some ⟨fb, 0, none⟩), .string t', .agg #[.int .i64 r, .int .i64 x]] w fun e w' => e = .returned (.tuple #[]) ∧ ∃ w1 w3, Below w.heap.size w w1 ∧ Below w1.heap.size (w1.setCell ⟨fb, 0, none⟩ (.string t')) w3 ∧ w' = w3.setCells fb 3 [.int .i64 (gboth ch (tf r x) 0), .int .i64 (gboth ch (tf r x) 1), .int .i64 (gboth ch (tf r x) 2), .int .i64 (gboth ch (tf r x) 3), .int .i64 (gboth ch (tf r x) 4), .int .i64 (gboth ch (tf r x) 5)] := by
  have H := hide h
  obtain ⟨c0, c1, c2, c3, c4, c5, c6, c7, c8, fz, lt⟩ := h
  have hne : fb ≠ w.heap.size := by omega
  have hne' : w.heap.size ≠ fb := by omega
  have hd : decide (0 < bn) = true := by simp [hbn]
  have EV : Hid (EvAt (w.alloc (.cells #[.int .i64 r, .int .i64 x] 191)) w.heap.size r x) := by
    refine ⟨?_, ?_, by simp⟩ <;> (simp only [World.cell?, heap_alloc_new]; rfl)
  have FH := hide (H.out.more ((Below.refl _ _).alloc (Nat.le_refl _) (.cells #[.int .i64 r, .int .i64 x] 191)))
  have HB := hide ((Below.refl w.heap.size w).alloc (Nat.le_refl _) (.cells #[.int .i64 r, .int .i64 x] 191))
  go_enter Tryz.func108, Tryz.ntmps108
  go_wp2_with fail
  refine (isThere_any _ _ _ _ _ _ _ _ _ _).mono ?_
  rintro e w1 ⟨rfl, hb1⟩
  have F1 := FH.out.more hb1
  have E1 := EV.out.more hb1
  have B1 := hide (HB.out.trans (hb1.mono (by simp)))
  have F2 := hide (F1.setText t')
  have E2 := hide (E1.set fb 0 (.string t') hne)
  have d0 := F1.c0
  have df := F1.fz
  clear c0 c1 c2 c3 c4 c5 c6 c7 c8 fz F1 E1 hb1 H EV FH HB
  go_wp2_with fail
  have HZ : Hid ((w1.setCell ⟨fb, 0, none⟩ (.string t')).heap.size = w1.heap.size) := by unfold Hid; simp [World.setCell]
  clear d0 df
  generalize hW : w1.setCell ⟨fb, 0, none⟩ (.string t') = W1 at F2 E2 HZ ⊢
  have HW := hide hW
  clear hW
  obtain ⟨_, _, _, c3, c4, c5, c6, c7, c8, _, clt⟩ := F2.out
  obtain ⟨e0, e1, elt⟩ := E2.out
  go_region_law (first
    | (go_simp; go_at_call 111; refine (Alone_fn r x _ hr).mono ?_; rintro e w2 ⟨rfl, hb2r⟩; have hb2 := hide (⟨hb2r.os, hb2r.tape, hb2r.output, hb2r.size, hb2r.block⟩ : Below W1.heap.size W1 w2); have F3 := hide (F2.out.more hb2.out); obtain ⟨_, _, _, m3, m4, m5, m6, m7, m8, _, mlt⟩ := F2.out.more hb2.out; have KB1 := hide (built12 w2 ch (tf r x) 186).1; have KB2 := hide (built12 w2 ch (tf r x) 186).2; dsimp only)
    | (go_simp; go_at_call 128; refine (Greatest_any w2.heap.size 2 ch (tf r x) _ (by simp) (by exact KB1.out) (by exact KB2.out)).mono ?_; rintro e w3 ⟨rfl, hb3⟩; have hb4 := hide ((hb2.out.alloc hb2.out.size _).trans (hb3.mono (by simp; have := hb2.out.size; omega))); have dth := (F2.out.more hb4.out).there; dsimp only))
  all_goals go_wp2
  all_goals go_end0
  all_goals exact ⟨rfl, w1, w3, B1.out, by rw [HW.out, ← HZ.out]; exact hb4.out, rfl⟩

set_option maxRecDepth 100000 in
set_option maxHeartbeats 600000 in
theorem fwrite_new (fb : Nat) (t t' : ByteArray) (br bn : Int) (ch : Nat → Int) (r : Nat) (x : Int) (hr : r < 6) (w : World) (h : File0 w fb t br bn ch) (hbn : bn = 0) :
    Calls Tryz.prog 108 #[.pointer (some ⟨fb, 0, none⟩), .string t', .agg #[.int .i64 r, .int .i64 x]] w fun e w' => e = .returned (.tuple #[]) ∧ ∃ w1 w3, Below w.heap.size w w1 ∧ Below w1.heap.size (((w1.setCell ⟨fb, 1, none⟩ (.int .i64 r)).setCell ⟨fb, 2, none⟩ (.int .i64 x)).setCell ⟨fb, 0, none⟩ (.string t')) w3 ∧ w' = w3.setCells fb 3 [.int .i64 (gboth ch (tf r x) 0), .int .i64 (gboth ch (tf r x) 1), .int .i64 (gboth ch (tf r x) 2), .int .i64 (gboth ch (tf r x) 3), .int .i64 (gboth ch (tf r x) 4), .int .i64 (gboth ch (tf r x) 5)] := by
  have H := hide h
  obtain ⟨c0, c1, c2, c3, c4, c5, c6, c7, c8, fz, lt⟩ := h
  have hne : fb ≠ w.heap.size := by omega
  have hne' : w.heap.size ≠ fb := by omega
  have hd : decide ((0 : Int) < 0) = false := by simp
  subst hbn
  have EV : Hid (EvAt (w.alloc (.cells #[.int .i64 r, .int .i64 x] 191)) w.heap.size r x) := by
    refine ⟨?_, ?_, by simp⟩ <;> (simp only [World.cell?, heap_alloc_new]; rfl)
  have FH := hide (H.out.more ((Below.refl _ _).alloc (Nat.le_refl _) (.cells #[.int .i64 r, .int .i64 x] 191)))
  have HB := hide ((Below.refl w.heap.size w).alloc (Nat.le_refl _) (.cells #[.int .i64 r, .int .i64 x] 191))
  go_enter Tryz.func108, Tryz.ntmps108
  go_wp2_with fail
  refine (isThere_any _ _ _ _ _ _ _ _ _ _).mono ?_
  rintro e w1 ⟨rfl, hb1⟩
  have F1 := FH.out.more hb1
  have E1 := EV.out.more hb1
  have B1 := hide (HB.out.trans (hb1.mono (by simp)))
  have F2 := hide ((F1.setBirth r x).setText t')
  have E2 := hide (((E1.set fb 1 (.int .i64 r) hne).set fb 2 (.int .i64 x) hne).set fb 0 (.string t') hne)
  have d1 := F1.c1
  have d2 := F1.c2
  have e10 := E1.e0
  have e11 := E1.e1
  have d0 := F1.c0
  have df := F1.fz
  clear c0 c1 c2 c3 c4 c5 c6 c7 c8 fz F1 E1 hb1 H EV FH HB
  go_wp2_with fail
  have HZ : Hid ((((w1.setCell ⟨fb, 1, none⟩ (.int .i64 r)).setCell ⟨fb, 2, none⟩ (.int .i64 x)).setCell ⟨fb, 0, none⟩ (.string t')).heap.size = w1.heap.size) := by unfold Hid; simp [World.setCell]
  clear d0 df d1 d2 e10 e11
  generalize hW : ((w1.setCell ⟨fb, 1, none⟩ (.int .i64 r)).setCell ⟨fb, 2, none⟩ (.int .i64 x)).setCell ⟨fb, 0, none⟩ (.string t') = W1 at F2 E2 HZ ⊢
  have HW := hide hW
  clear hW
  obtain ⟨_, _, _, c3, c4, c5, c6, c7, c8, _, clt⟩ := F2.out
  obtain ⟨e0, e1, elt⟩ := E2.out
  go_region_law (first
    | (go_simp; go_at_call 111; refine (Alone_fn r x _ hr).mono ?_; rintro e w2 ⟨rfl, hb2r⟩; have hb2 := hide (⟨hb2r.os, hb2r.tape, hb2r.output, hb2r.size, hb2r.block⟩ : Below W1.heap.size W1 w2); have F3 := hide (F2.out.more hb2.out); obtain ⟨_, _, _, m3, m4, m5, m6, m7, m8, _, mlt⟩ := F2.out.more hb2.out; have KB1 := hide (built12 w2 ch (tf r x) 186).1; have KB2 := hide (built12 w2 ch (tf r x) 186).2; dsimp only)
    | (go_simp; go_at_call 128; refine (Greatest_any w2.heap.size 2 ch (tf r x) _ (by simp) (by exact KB1.out) (by exact KB2.out)).mono ?_; rintro e w3 ⟨rfl, hb3⟩; have hb4 := hide ((hb2.out.alloc hb2.out.size _).trans (hb3.mono (by simp; have := hb2.out.size; omega))); have dth := (F2.out.more hb4.out).there; dsimp only))
  all_goals go_wp2
  all_goals go_end0
  all_goals exact ⟨rfl, w1, w3, B1.out, by rw [HW.out, ← HZ.out]; exact hb4.out, rfl⟩

end Go.Proofs.YtaelaldmibgibaaGreatDoor

namespace Go.Proofs.YtaelaldmibgibaaGreatDoor
open Go.RowKit Go.Lib

theorem split_any (c : UInt8) (s : ByteArray) (m : Nat) (hm : 1 ≤ m) (hm6 : m ≤ 1000) (hs : s.size ≤ 10000000) (w : World) (hg : Glob w) :
    Calls Tryz.prog 195 #[.string s, .string ⟨#[c]⟩, .int .i64 m] w fun e w' => ∃ C, e = .returned (.slice (some ⟨w.heap.size, 0, none⟩) (splitN (bs s) [c] m).length C) ∧ (∀ (j : Nat) p, (splitN (bs s) [c] m)[j]? = some p → w'.cell? ⟨w.heap.size, j, none⟩ = some (.string (ofBs p))) ∧ w.heap.size < w'.heap.size ∧ Below w.heap.size w w' := by
  obtain ⟨mx, hmx⟩ := hg.max
  refine (Tryz.strings_SplitN s ⟨#[c]⟩ m mx w (by omega) hmx (Nat.le_refl 1) hm (by omega)).mono ?_
  rintro e w' ⟨rfl, rfl⟩
  have hd := splitB_data (⟨#[c]⟩ : ByteArray) 0 (min m (s.size + 1) - 1) s
  have hd' : (splitB ⟨#[c]⟩ 0 (min m (s.size + 1) - 1) s).map (·.data.toList) = splitN (bs s) [c] m := by
    rw [hd]
    unfold splitN
    rw [bs_len]
    rfl
  have hle := splitB_length_le (⟨#[c]⟩ : ByteArray) 0 (min m (s.size + 1) - 1) s
  generalize splitB ⟨#[c]⟩ 0 (min m (s.size + 1) - 1) s = ps at *
  refine ⟨min m (s.size + 1), ?_, fun j p hp => ?_, by simp, (Below.refl _ _).alloc (Nat.le_refl _) _⟩
  · rw [← hd', List.length_map]
  · rw [← hd', List.getElem?_map] at hp
    obtain ⟨q, hq, rfl⟩ := Option.map_eq_some_iff.1 hp
    have hj := (List.getElem?_eq_some_iff.1 hq).1
    simp only [World.cell?, heap_alloc_new, cellsOf]
    rw [List.getElem?_toArray, List.getElem?_append_left (by simpa using hj), List.getElem?_map, hq]
    rfl

/-- while a time is read -/
structure RT (w wr : World) (B : Nat) (ps : List Bs) (tb : Nat) (f : Nat → Int) : Prop where
  bel : Below w.heap.size w wr
  res : ∀ j, j < 6 → (wr.cell? ⟨w.heap.size, j, none⟩).isSome = true
  rfz : ∀ j, wr.frozen? ⟨w.heap.size, j, none⟩ = false
  pc : ∀ (j : Nat) p, ps[j]? = some p → wr.cell? ⟨B, j, none⟩ = some (.string (ofBs p))
  tc : ∀ j, j < 6 → wr.cell? ⟨tb, j, none⟩ = some (.int .i64 (f j))
  tfz : ∀ j, wr.frozen? ⟨tb, j, none⟩ = false
  o1 : w.heap.size < B
  o2 : B < tb
  o3 : tb < wr.heap.size
theorem RT.below {w wr w' : World} {B : Nat} {ps : List Bs} {tb : Nat} {f : Nat → Int} (h : RT w wr B ps tb f) (hb : Below wr.heap.size wr w') : RT w w' B ps tb f := by
  have h1 := h.o1
  have h2 := h.o2
  have h3 := h.o3
  have K : ∀ k j, k < wr.heap.size → w'.cell? ⟨k, j, none⟩ = wr.cell? ⟨k, j, none⟩ := fun k j hk => hb.cell (p := ⟨k, j, none⟩) hk
  have F : ∀ k j, k < wr.heap.size → w'.frozen? ⟨k, j, none⟩ = wr.frozen? ⟨k, j, none⟩ := fun k j hk => World.frozen?_of_block (w := wr) (a := ⟨k, j, none⟩) (hb.block k hk)
  exact ⟨below_step h.bel hb, fun j hj => by rw [K _ _ (by omega)]; exact h.res j hj, fun j => by rw [F _ _ (by omega)]; exact h.rfz j, fun j p hp => by rw [K _ _ (by omega)]; exact h.pc j p hp, fun j hj => by rw [K _ _ h3]; exact h.tc j hj, fun j => by rw [F _ _ h3]; exact h.tfz j, h1, h2, by have := hb.size; omega⟩
theorem RT.put {w wr : World} {B : Nat} {ps : List Bs} {tb : Nat} {f : Nat → Int} (h : RT w wr B ps tb f) (i : Nat) (x : Int) : RT w (wr.setCell ⟨tb, i, none⟩ (.int .i64 x)) B ps tb (fun j => if j = i then x else f j) := by
  have h1 := h.o1
  have h2 := h.o2
  have h3 := h.o3
  refine ⟨h.bel.setCell (by simp only; omega) _, fun j hj => isSome_setCell (h.res j hj), fun j => ?_, fun j p hp => ?_, fun j hj => ?_, fun j => ?_, h1, h2, by simpa using h3⟩
  · rw [World.frozen?_setCell]; exact h.rfz j
  · rw [World.cell?_setCell_far _ _ _ _ (by simp only; omega)]; exact h.pc j p hp
  · by_cases e : j = i
    · subst e
      rw [if_pos rfl]
      exact World.cell?_setCell_same _ _ _ (h.tc j hj)
    · rw [if_neg e, set_ne _ _ _ _ _ (Ne.symm e)]
      exact h.tc j hj
  · rw [World.frozen?_setCell]; exact h.tfz j

theorem RT.there {w wr : World} {B : Nat} {ps : List Bs} {tb : Nat} {f : Nat → Int} (h : RT w wr B ps tb f) : wr.there w.heap.size 0 6 := fun j hj => ⟨by simpa using h.res j hj, h.rfz _⟩
theorem RT.tthere {w wr : World} {B : Nat} {ps : List Bs} {tb : Nat} {f : Nat → Int} (h : RT w wr B ps tb f) : wr.there tb 0 6 := fun j hj => ⟨by simpa using (by rw [h.tc j hj]; rfl : (wr.cell? ⟨tb, j, none⟩).isSome = true), h.tfz _⟩
theorem RT.rng {w wr : World} {B : Nat} {ps : List Bs} {tb : Nat} {f : Nat → Int} (h : RT w wr B ps tb f) : rngv wr tb 0 6 = [.int .i64 (f 0), .int .i64 (f 1), .int .i64 (f 2), .int .i64 (f 3), .int .i64 (f 4), .int .i64 (f 5)] :=
  rngv_eq rfl (fun j v hj => by
    match j with
    | 0 => simp at hj; subst hj; exact h.tc 0 (by omega)
    | 1 => simp at hj; subst hj; exact h.tc 1 (by omega)
    | 2 => simp at hj; subst hj; exact h.tc 2 (by omega)
    | 3 => simp at hj; subst hj; exact h.tc 3 (by omega)
    | 4 => simp at hj; subst hj; exact h.tc 4 (by omega)
    | 5 => simp at hj; subst hj; exact h.tc 5 (by omega)
    | j + 6 => simp at hj)
theorem numsR_app : ∀ a b : List Bs, numsR (a ++ b) = (numsR a).bind fun x => (numsR b).map (x ++ ·)
  | [], b => by cases h : numsR b <;> simp [numsR, h]
  | p :: a, b => by
    rw [List.cons_append, numsR, numsR, numsR_app a b]
    cases numR p with
    | none => rfl
    | some v =>
      cases numsR a with
      | none => rfl
      | some x => cases numsR b <;> simp
theorem numsR_step {ps : List Bs} {i : Nat} {p : Bs} {vs : List Nat} {v : Nat} (h : numsR (ps.take i) = some vs) (hp : ps[i]? = some p) (hv : numR p = some v) : numsR (ps.take (i + 1)) = some (vs ++ [v]) := by
  have hi := (List.getElem?_eq_some_iff.1 hp).1
  have e : ps.take (i + 1) = ps.take i ++ [p] := by rw [List.take_add_one, hp]; rfl
  rw [e, numsR_app, h]
  simp [numsR, hv]
theorem numsR_stop {ps : List Bs} {i : Nat} {p : Bs} (hp : ps[i]? = some p) (hv : numR p = none) : numsR ps = none := by
  have hi := (List.getElem?_eq_some_iff.1 hp).1
  have e : ps = ps.take i ++ (p :: ps.drop (i + 1)) := by
    conv => lhs; rw [← List.take_append_drop i ps]
    rw [List.drop_eq_getElem_cons hi, (List.getElem?_eq_some_iff.1 hp).2]
  rw [e, numsR_app]
  cases numsR (ps.take i) with
  | none => rfl
  | some x => simp [numsR, hv]
theorem numsR_len {ps : List Bs} {vs : List Nat} (h : numsR ps = some vs) : vs.length = ps.length := by
  obtain ⟨_, rfl⟩ := (numsR_iff _ _).1 h
  simp
theorem sepBy_part (c : UInt8) : ∀ (l : List Bs) (p : Bs), p ∈ l → p.length ≤ (sepBy c l).length
  | [x], p, hp => by simp at hp; subst hp; simp [sepBy]
  | x :: y :: l, p, hp => by
    rw [sepBy_cons2]
    rcases List.mem_cons.1 hp with rfl | hp
    · simp
    · have := sepBy_part c (y :: l) p hp
      simp at this ⊢
      omega
def lfn (l : List Nat) : Nat → Int := fun j => (l.getD j 0 : Nat)
theorem lfn_snoc (l : List Nat) (v : Nat) : lfn (l ++ [v]) = fun j => if j = l.length then (v : Int) else lfn l j := by
  funext j
  unfold lfn
  by_cases e : j = l.length
  · subst e
    rw [if_pos rfl]
    simp
  · rw [if_neg e]
    rcases Nat.lt_or_ge j l.length with h | h
    · simp [List.getElem?_append_left h]
    · have h2 : l.length + 1 ≤ j := by omega
      simp [h, h2]

attribute [local go_sem ↓] stTime ldTime
attribute [local go_sem] stTime2 run_ldTime
set_option maxHeartbeats 400000 in
theorem ReadTime_any (t : ByteArray) (ht : t.size ≤ 10000000) (n : Nat) (h1 : 1 ≤ n) (h6 : n ≤ 6) (w : World) (hg : Glob w) :
    Calls Tryz.prog 146 #[.string t, .int .i64 n] w fun e w' => e = .returned (.tuple #[timeVal (lfn ((timeR n (bs t)).getD [])), .bool (timeR n (bs t)).isSome]) ∧ Below w.heap.size w w' := by
  have SP : Hid (∀ W, Glob W → Calls Tryz.prog 195 #[.string t, .string ⟨#[44]⟩, .int .i64 (n + 1)] W fun e w' => ∃ C, e = .returned (.slice (some ⟨W.heap.size, 0, none⟩) (splitN (bs t) [44] (n + 1)).length C) ∧ (∀ (j : Nat) p, (splitN (bs t) [44] (n + 1))[j]? = some p → w'.cell? ⟨W.heap.size, j, none⟩ = some (.string (ofBs p))) ∧ W.heap.size < w'.heap.size ∧ Below W.heap.size W w') := fun W hW => by
    have := split_any 44 t (n + 1) (by omega) (by omega) ht W hW
    simpa using this
  have HR : Hid (timeR n (bs t) = if (splitN (bs t) [44] (n + 1)).length = n then numsR (splitN (bs t) [44] (n + 1)) else none) := rfl
  have HG := hide hg
  clear hg
  have HL : Hid (∀ p ∈ splitN (bs t) [44] (n + 1), p.length ≤ 10000000) := fun p hp => by
    have := sepBy_part 44 _ p hp
    unfold splitN at this
    rw [pieces_join, bs_len] at this
    omega
  generalize timeR n (bs t) = R at *
  generalize splitN (bs t) [44] (n + 1) = ps at *
  have hz := size_Time
  have M0 := hide (Mine.made' w #[.int .i64 0, .int .i64 0, .int .i64 0, .int .i64 0, .int .i64 0, .int .i64 0] 186 (n := 6) rfl)
  go_enter Tryz.func146, Tryz.ntmps146
  go_wp2_with fail
  go_at_call 195
  refine (SP.out _ (HG.out.below M0.out.below)).mono ?_
  rintro e w1 ⟨C, rfl, hpc, hlt, hb⟩
  have M1 := hide (Mine.call (p := True) ⟨M0.out, trivial⟩ hb)
  have PC := hide hpc
  have L1 := hide hlt
  clear hpc hlt hb
  have th1 := M1.out.there
  by_cases hn : ps.length = n
  · have HR' : Hid (R = numsR ps) := by unfold Hid; rw [HR.out, if_pos hn]
    clear HR
    subst hn
    have hz1 := M1.out.below.size
    have hz2 : w.heap.size < w1.heap.size := M1.out.lt
    have T0 : Hid (RT w (w1.alloc (.cells #[.int .i64 0, .int .i64 0, .int .i64 0, .int .i64 0, .int .i64 0, .int .i64 0] 186)) (w.heap.size + 1) ps w1.heap.size (lfn [])) := by
      have M2 := M1.out.alloc (.cells #[.int .i64 0, .int .i64 0, .int .i64 0, .int .i64 0, .int .i64 0, .int .i64 0] 186)
      have q := Mine.made' w1 #[.int .i64 0, .int .i64 0, .int .i64 0, .int .i64 0, .int .i64 0, .int .i64 0] 186 (n := 6) rfl
      have hB := L1.out
      simp at hB
      refine ⟨M2.below, M2.some, M2.fz, fun j p hp => ?_, fun j hj => ?_, q.fz, by omega, by omega, by simp⟩
      · rw [World.cell?_alloc_old _ _ _ (by simp only; omega)]
        have := PC.out j p hp
        simpa using this
      · simp only [World.cell?, heap_alloc_new]
        match j, hj with
        | 0, _ | 1, _ | 2, _ | 3, _ | 4, _ | 5, _ => rfl
    clear PC L1 M0 M1 th1
    have dn : ((ps.length : Int) != (ps.length : Int)) = false := by simp
    go_wp2_with fail
    go_loopw [22] (fun iv wr => ∃ (i : Nat) (vs : List Nat), i ≤ ps.length ∧ iv = .int .i64 i ∧ Hid (numsR (ps.take i) = some vs) ∧ Hid (RT w wr (w.heap.size + 1) ps w1.heap.size (lfn vs))) (fun iv _ => ps.length - (intOf iv).toNat)
    case atStart => exact ⟨0, [], Nat.zero_le _, rfl, rfl, T0⟩
    case round =>
      obtain ⟨i, vs, hi, rfl, hv, hT⟩ := hrel
      clear T0
      by_cases hin : i < ps.length
      · obtain ⟨p, hp⟩ : ∃ p, ps[i]? = some p := ⟨ps[i], List.getElem?_eq_getElem hin⟩
        have pc := hT.out.pc i p hp
        have HQ : Hid (bs (ofBs p) = p) := bs_ofBs p
        have hq : (ofBs p).size ≤ 10000000 := by rw [← bs_len, bs_ofBs]; exact HL.out p (List.mem_of_getElem? hp)
        have HP := hide hp
        clear hp
        generalize ofBs p = q at *
        have RN : Hid (Calls Tryz.prog 144 #[.string q] wr fun e w' => e = .returned (.tuple #[.int .i64 ((numR p).getD 0 : Nat), .bool (numR p).isSome]) ∧ RT w w' (w.heap.size + 1) ps w1.heap.size (lfn vs)) := by
          refine (ReadNumber_any q (by omega) wr (HG.out.below hT.out.bel)).mono ?_
          rintro e w' ⟨rfl, hb⟩
          rw [HQ.out]
          exact ⟨rfl, hT.out.below hb⟩
        have i6 : i < 6 := by omega
        have hvl : Hid (vs.length = i) := by have := numsR_len hv.out; rw [List.length_take] at this; unfold Hid; omega
        cases hN : numR p with
        | none =>
          rw [hN] at RN
          have eR : R = none := by rw [HR'.out]; exact numsR_stop HP.out hN
          subst eR
          go_wp2_with (go_at_call 144; refine (RN.out).mono ?_; rintro e w5 ⟨rfl, h5⟩; have H5 := hide h5; clear h5; have t5 := H5.out.tc i i6; have f5 := H5.out.tfz i; have P5 := hide (H5.out.put i 0); have k5 := P5.out.there; dsimp only)
          exact bodyPost_ret (ret_cell_tmp Tryz.results146 (a := ⟨w.heap.size, 0, none⟩) rfl (load_stored (cs := [_, _, _, _, _, _]) P5.out.there Tryz.underlying186 rfl size_Time)) rfl ⟨rfl, Below.setCells P5.out.bel (Nat.le_refl _) _ _⟩
        | some v =>
          rw [hN] at RN
          simp only [Option.getD_some, Option.isSome_some] at RN
          go_wp2_with (go_at_call 144; refine (RN.out).mono ?_; rintro e w5 ⟨rfl, h5⟩; have H5 := hide h5; clear h5; have t5 := H5.out.tc i i6; have f5 := H5.out.tfz i; have P5 := hide (H5.out.put i v); dsimp only)
          refine ⟨⟨i + 1, vs ++ [v], by omega, by go_num, numsR_step hv.out HP.out hN, ?_⟩, by simp [intOf]; omega⟩
          unfold Hid
          rw [lfn_snoc, hvl.out]
          exact P5.out
      · have ei : i = ps.length := by omega
        subst ei
        have eR : R = some vs := by rw [HR'.out, ← hv.out, List.take_length]
        subst eR
        have k1 := hT.out.there
        have k2 := hT.out.tthere
        have k3 := hT.out.rng
        go_wp2
        exact bodyPost_ret (ret_cell_tmp Tryz.results146 (a := ⟨w.heap.size, 0, none⟩) rfl (load_stored (cs := [_, _, _, _, _, _]) hT.out.there Tryz.underlying186 rfl size_Time)) rfl ⟨rfl, Below.setCells hT.out.bel (Nat.le_refl _) _ _⟩
  · have e : R = none := by rw [HR.out, if_neg hn]
    subst e
    have dn : ((ps.length : Int) != (n : Int)) = true := by simp; omega
    go_wp2
    exact bodyPost_ret (ret_cell_tmp Tryz.results146 (a := ⟨w.heap.size, 0, none⟩) rfl (load_stored (cs := [_, _, _, _, _, _]) M1.out.there Tryz.underlying186 rfl size_Time)) rfl ⟨rfl, (Mine.setCells (p := True) ⟨M1.out, trivial⟩ 0 _).below⟩

end Go.Proofs.YtaelaldmibgibaaGreatDoor

namespace Go.Proofs.YtaelaldmibgibaaGreatDoor
open Go.RowKit Go.Lib

theorem cut_any (c : UInt8) (s : ByteArray) (hs : s.size ≤ 10000000) (w : World) (hg : Glob w) :
    Calls Tryz.prog 79 #[.string s, .string ⟨#[c]⟩] w fun e w' => e = .returned (.tuple #[.string (ofBs (Lib.cut (bs s) [c]).1), .string (ofBs (Lib.cut (bs s) [c]).2.1), .bool (Lib.cut (bs s) [c]).2.2]) ∧ ∃ n, w' = w.drewN n := by
  obtain ⟨mx, hmx⟩ := hg.max
  exact Tryz.strings_Cut s ⟨#[c]⟩ mx w (by omega) hmx
theorem cut_size (c : UInt8) (s : Bs) : (Lib.cut s [c]).1.length ≤ s.length ∧ (Lib.cut s [c]).2.1.length ≤ s.length := by
  rcases idx_one c s with ⟨_, q⟩ | ⟨a, b, rfl, h2, _⟩
  · rw [cut_miss c s q]; simp
  · rw [cut_hit c a b h2]; simp; omega

theorem numR_nil : numR [] = none := rfl
/-- the event that a text tells -/
def eventR (n : Nat) (t : Bs) : Option (Nat × Nat) := (numR (Lib.cut t [58]).1).bind fun r => (numR (Lib.cut t [58]).2.1).bind fun k => if r < n ∧ 1 ≤ k then some (r, k) else none
theorem eventR_iff (n : Nat) (hn : n ≤ 6) (t : Bs) (r k : Nat) : eventR n t = some (r, k) ↔ r < n ∧ 1 ≤ k ∧ k ≤ 1000000000 ∧ t = decDigits r ++ 58 :: decDigits k := by
  unfold eventR
  constructor
  · intro h
    simp only [Option.bind_eq_some_iff] at h
    obtain ⟨r', h1, k', h2, h3⟩ := h
    split at h3
    · rename_i hc
      cases h3
      rcases idx_one 58 t with ⟨_, q⟩ | ⟨a, b, rfl, q, _⟩
      · rw [cut_miss 58 t q, numR_nil] at h2
        cases h2
      · rw [cut_hit 58 a b q] at h1 h2
        obtain ⟨_, rfl⟩ := (numR_iff _ _).1 h1
        obtain ⟨h4, rfl⟩ := (numR_iff _ _).1 h2
        exact ⟨hc.1, hc.2, h4, rfl⟩
    · cases h3
  · rintro ⟨h1, h2, h3, rfl⟩
    rw [cut_hit 58 _ _ (dig_no r 58 (by decide)), numR_told r (by omega), numR_told k h3]
    simp [h1, h2]

theorem size_Event : (Tryz.prog.info? 191).map (·.size) = some 2 := by kernel_rfl
theorem ldEvent (p : Value) : Instr.loadAt 191 p = ldM 191 p := rfl
theorem stEvent (p v : Value) : Instr.storeAt 191 p v = stM 191 p v := rfl
theorem run_ldEvent (w : World) (b o : Nat) (ht : w.there b o 2) : (ldM 191 (.pointer (some ⟨b, o, none⟩))).run Tryz.prog w = .ok (.agg (rngv w b o 2).toArray) w :=
  run_loadAt_mid w b o _ (rngv w b o 2) _ (rngv_range (fun j hj => (ht j hj).1)) Tryz.underlying191 rfl (by rw [rngv_length]; exact size_Event)
theorem run_stEvent (w : World) (b o : Nat) (x0 x1 : Int) (ht : w.there b o 2) :
    (stM 191 (.pointer (some ⟨b, o, none⟩)) (.agg #[.int .i64 x0, .int .i64 x1])).run Tryz.prog w = .ok () (w.setCells b o [.int .i64 x0, .int .i64 x1]) :=
  run_storeAt_mid w b o _ #[.int .i64 x0, .int .i64 x1] ht size_Event (by simp [Value.oneCell'])

/-- while an event is read -/
structure RE (w wr : World) (eb : Nat) (x y : Int) : Prop where
  bel : Below w.heap.size w wr
  res : ∀ j, j < 2 → (wr.cell? ⟨w.heap.size, j, none⟩).isSome = true
  rfz : ∀ j, wr.frozen? ⟨w.heap.size, j, none⟩ = false
  c0 : wr.cell? ⟨eb, 0, none⟩ = some (.int .i64 x)
  c1 : wr.cell? ⟨eb, 1, none⟩ = some (.int .i64 y)
  efz : ∀ j, wr.frozen? ⟨eb, j, none⟩ = false
  o1 : w.heap.size < eb
  o2 : eb < wr.heap.size
theorem RE.below {w wr w' : World} {eb : Nat} {x y : Int} (h : RE w wr eb x y) (hb : Below wr.heap.size wr w') : RE w w' eb x y := by
  have h1 := h.o1
  have h2 := h.o2
  have K : ∀ k j, k < wr.heap.size → w'.cell? ⟨k, j, none⟩ = wr.cell? ⟨k, j, none⟩ := fun k j hk => hb.cell (p := ⟨k, j, none⟩) hk
  have F : ∀ k j, k < wr.heap.size → w'.frozen? ⟨k, j, none⟩ = wr.frozen? ⟨k, j, none⟩ := fun k j hk => World.frozen?_of_block (w := wr) (a := ⟨k, j, none⟩) (hb.block k hk)
  exact ⟨below_step h.bel hb, fun j hj => by rw [K _ _ (by omega)]; exact h.res j hj, fun j => by rw [F _ _ (by omega)]; exact h.rfz j, by rw [K _ _ h2]; exact h.c0, by rw [K _ _ h2]; exact h.c1, fun j => by rw [F _ _ h2]; exact h.efz j, h1, by have := hb.size; omega⟩
theorem RE.put0 {w wr : World} {eb : Nat} {x y : Int} (h : RE w wr eb x y) (z : Int) : RE w (wr.setCell ⟨eb, 0, none⟩ (.int .i64 z)) eb z y :=
  ⟨h.bel.setCell (by have := h.o1; simp only; omega) _, fun j hj => isSome_setCell (h.res j hj), fun j => by rw [World.frozen?_setCell]; exact h.rfz j, World.cell?_setCell_same _ _ _ h.c0, by rw [set_ne _ _ _ _ _ (by omega)]; exact h.c1, fun j => by rw [World.frozen?_setCell]; exact h.efz j, h.o1, by simpa using h.o2⟩
theorem RE.put1 {w wr : World} {eb : Nat} {x y : Int} (h : RE w wr eb x y) (z : Int) : RE w (wr.setCell ⟨eb, 1, none⟩ (.int .i64 z)) eb x z :=
  ⟨h.bel.setCell (by have := h.o1; simp only; omega) _, fun j hj => isSome_setCell (h.res j hj), fun j => by rw [World.frozen?_setCell]; exact h.rfz j, by rw [set_ne _ _ _ _ _ (by omega)]; exact h.c0, World.cell?_setCell_same _ _ _ h.c1, fun j => by rw [World.frozen?_setCell]; exact h.efz j, h.o1, by simpa using h.o2⟩
theorem RE.there {w wr : World} {eb : Nat} {x y : Int} (h : RE w wr eb x y) : wr.there w.heap.size 0 2 := fun j hj => ⟨by simpa using h.res j hj, h.rfz _⟩
theorem RE.ethere {w wr : World} {eb : Nat} {x y : Int} (h : RE w wr eb x y) : wr.there eb 0 2 := fun j hj => ⟨by
  match j, hj with
  | 0, _ => simp [h.c0]
  | 1, _ => simp [h.c1], h.efz _⟩
theorem RE.rng {w wr : World} {eb : Nat} {x y : Int} (h : RE w wr eb x y) : rngv wr eb 0 2 = [.int .i64 x, .int .i64 y] :=
  rngv_eq rfl (fun j v hj => by
    match j with
    | 0 => simp at hj; subst hj; exact h.c0
    | 1 => simp at hj; subst hj; exact h.c1
    | j + 2 => simp at hj)

attribute [local go_sem ↓] stEvent ldEvent
attribute [local go_sem] run_stEvent run_ldEvent
set_option maxHeartbeats 400000 in
theorem ReadEvent_any (t : ByteArray) (ht : t.size ≤ 10000000) (n : Nat) (h6 : n ≤ 6) (w : World) (hg : Glob w) :
    Calls Tryz.prog 251 #[.string t, .int .i64 n] w fun e w' => e = .returned (.tuple #[.agg #[.int .i64 ((eventR n (bs t)).getD (0, 0)).1, .int .i64 ((eventR n (bs t)).getD (0, 0)).2], .bool (eventR n (bs t)).isSome]) ∧ Below w.heap.size w w' := by
  have CU : Hid (∀ W, Glob W → Calls Tryz.prog 79 #[.string t, .string ⟨#[58]⟩] W fun e w' => e = .returned (.tuple #[.string (ofBs (Lib.cut (bs t) [58]).1), .string (ofBs (Lib.cut (bs t) [58]).2.1), .bool (Lib.cut (bs t) [58]).2.2]) ∧ ∃ n, w' = W.drewN n) := fun W hW => cut_any 58 t ht W hW
  have hsz := cut_size 58 (bs t)
  rw [bs_len] at hsz
  have HE : Hid (eventR n (bs t) = (numR (Lib.cut (bs t) [58]).1).bind fun r => (numR (Lib.cut (bs t) [58]).2.1).bind fun k => if r < n ∧ 1 ≤ k then some (r, k) else none) := rfl
  have HG := hide hg
  clear hg
  generalize eventR n (bs t) = R at *
  generalize Lib.cut (bs t) [58] = cc at *
  obtain ⟨a, b, f⟩ := cc
  have NA : Hid (∀ W, Glob W → Calls Tryz.prog 144 #[.string (ofBs a)] W fun e w' => e = .returned (.tuple #[.int .i64 ((numR a).getD 0 : Nat), .bool (numR a).isSome]) ∧ Below W.heap.size W w') := fun W hW => by
    have := ReadNumber_any (ofBs a) (by rw [← bs_len, bs_ofBs]; have := hsz.1; simp only at this; omega) W hW
    rw [bs_ofBs] at this
    exact this
  have NB : Hid (∀ W, Glob W → Calls Tryz.prog 144 #[.string (ofBs b)] W fun e w' => e = .returned (.tuple #[.int .i64 ((numR b).getD 0 : Nat), .bool (numR b).isSome]) ∧ Below W.heap.size W w') := fun W hW => by
    have := ReadNumber_any (ofBs b) (by rw [← bs_len, bs_ofBs]; have := hsz.2; simp only at this; omega) W hW
    rw [bs_ofBs] at this
    exact this
  have hab : ofBs a = ofBs b → a = b := fun e => by rw [← bs_ofBs a, e, bs_ofBs]
  simp only at CU HE
  generalize numR a = ra at *
  generalize numR b = rb at *
  generalize ofBs a = qa at *
  generalize ofBs b = qb at *
  clear hsz hab
  have M0 := hide (Mine.made' w #[.int .i64 0, .int .i64 0] 191 (n := 2) rfl)
  have E0 : Hid (∀ m, RE w (((w.alloc (.cells #[.int .i64 0, .int .i64 0] 191)).drewN m).alloc (.cells #[.int .i64 0, .int .i64 0] 191)) (w.heap.size + 1) 0 0) := fun m => by
    have M1 := (M0.out.drewN m).alloc (.cells #[.int .i64 0, .int .i64 0] 191)
    have q := Mine.made' ((w.alloc (.cells #[.int .i64 0, .int .i64 0] 191)).drewN m) #[.int .i64 0, .int .i64 0] 191 (n := 2) rfl
    have hz : ((w.alloc (.cells #[.int .i64 0, .int .i64 0] 191)).drewN m).heap.size = w.heap.size + 1 := by simp
    have hfz := q.fz
    rw [hz] at hfz
    have hc : ∀ j v, (#[Value.int .i64 0, .int .i64 0] : Array Value)[j]? = some v → (((w.alloc (.cells #[.int .i64 0, .int .i64 0] 191)).drewN m).alloc (.cells #[.int .i64 0, .int .i64 0] 191)).cell? ⟨w.heap.size + 1, j, none⟩ = some v := fun j v hj => by
      rw [← hz]
      simp only [World.cell?, heap_alloc_new]
      exact hj
    exact ⟨M1.below, M1.some, M1.fz, hc 0 _ rfl, hc 1 _ rfl, hfz, by omega, by simp⟩
  go_enter Tryz.func251, Tryz.ntmps251
  go_wp2_with fail
  go_at_call 79
  refine (CU.out _ (HG.out.below M0.out.below)).mono ?_
  rintro e w1 ⟨rfl, m, rfl⟩
  have E1 := hide (E0.out m)
  clear E0 M0 CU
  go_wp2_with fail
  generalize hW : (((w.alloc (.cells #[.int .i64 0, .int .i64 0] 191)).drewN m).alloc (.cells #[.int .i64 0, .int .i64 0] 191)) = W at *
  clear hW
  cases ra with
  | none =>
    have e : R = none := HE.out
    subst e
    clear HE
    simp only [Option.getD_none, Option.isSome_none] at NA
    generalize (rb.getD 0 : Nat) = vb at *
    generalize rb.isSome = ob at *
    go_at_call 144
    refine (NA.out _ (HG.out.below E1.out.bel)).mono ?_
    rintro e w5 ⟨rfl, h5⟩
    have H5 := hide (E1.out.below h5)
    clear h5
    have a5 := H5.out.c0
    have f5 := H5.out.efz 0
    have P5 := hide (H5.out.put0 0)
    dsimp only
    go_wp2_with (go_at_call 144; refine (NB.out _ (HG.out.below P5.out.bel)).mono ?_; rintro e w6 ⟨rfl, h6'⟩; have H6 := hide (P5.out.below h6'); clear h6'; have a6 := H6.out.c0; have b6 := H6.out.c1; have f6 := H6.out.efz 1; have P6 := hide (H6.out.put1 vb); have x6 := P6.out.c0; have y6 := P6.out.c1; have k6 := P6.out.there; have l6 := P6.out.ethere; have g6 := P6.out.rng; dsimp only)
    exact bodyPost_ret (ret_cell_tmp Tryz.results251 (a := ⟨w.heap.size, 0, none⟩) rfl (load_stored (cs := [_, _]) P6.out.there Tryz.underlying191 rfl size_Event)) rfl ⟨rfl, Below.setCells P6.out.bel (Nat.le_refl _) _ _⟩
  | some r =>
    simp only [Option.getD_some, Option.isSome_some] at NA
    cases rb with
    | none =>
      have e : R = none := HE.out
      subst e
      clear HE
      simp only [Option.getD_none, Option.isSome_none] at NB
      go_at_call 144
      refine (NA.out _ (HG.out.below E1.out.bel)).mono ?_
      rintro e w5 ⟨rfl, h5⟩
      have H5 := hide (E1.out.below h5)
      clear h5
      have a5 := H5.out.c0
      have f5 := H5.out.efz 0
      have P5 := hide (H5.out.put0 r)
      dsimp only
      go_wp2_with (go_at_call 144; refine (NB.out _ (HG.out.below P5.out.bel)).mono ?_; rintro e w6 ⟨rfl, h6'⟩; have H6 := hide (P5.out.below h6'); clear h6'; have a6 := H6.out.c0; have b6 := H6.out.c1; have f6 := H6.out.efz 1; have P6 := hide (H6.out.put1 0); have x6 := P6.out.c0; have y6 := P6.out.c1; have k6 := P6.out.there; have l6 := P6.out.ethere; have g6 := P6.out.rng; dsimp only)
      exact bodyPost_ret (ret_cell_tmp Tryz.results251 (a := ⟨w.heap.size, 0, none⟩) rfl (load_stored (cs := [_, _]) P6.out.there Tryz.underlying191 rfl size_Event)) rfl ⟨rfl, Below.setCells P6.out.bel (Nat.le_refl _) _ _⟩
    | some k =>
      simp only [Option.getD_some, Option.isSome_some] at NB
      by_cases hr : r < n
      · have d1 : decide ((n : Int) ≤ (r : Int)) = false := by simp; omega
        by_cases hk : 1 ≤ k
        · have e : R = some (r, k) := by rw [HE.out]; simp [hr, hk]
          subst e
          clear HE
          have d2 : decide ((k : Int) < 1) = false := by simp; omega
          go_at_call 144
          refine (NA.out _ (HG.out.below E1.out.bel)).mono ?_
          rintro e w5 ⟨rfl, h5⟩
          have H5 := hide (E1.out.below h5)
          clear h5
          have a5 := H5.out.c0
          have f5 := H5.out.efz 0
          have P5 := hide (H5.out.put0 r)
          dsimp only
          go_wp2_with (go_at_call 144; refine (NB.out _ (HG.out.below P5.out.bel)).mono ?_; rintro e w6 ⟨rfl, h6'⟩; have H6 := hide (P5.out.below h6'); clear h6'; have a6 := H6.out.c0; have b6 := H6.out.c1; have f6 := H6.out.efz 1; have P6 := hide (H6.out.put1 k); have x6 := P6.out.c0; have y6 := P6.out.c1; have k6 := P6.out.there; have l6 := P6.out.ethere; have g6 := P6.out.rng; dsimp only)
          exact bodyPost_ret (ret_cell_tmp Tryz.results251 (a := ⟨w.heap.size, 0, none⟩) rfl (load_stored (cs := [_, _]) P6.out.there Tryz.underlying191 rfl size_Event)) rfl ⟨rfl, Below.setCells P6.out.bel (Nat.le_refl _) _ _⟩
        · have e : R = none := by rw [HE.out]; simp [hk]
          subst e
          clear HE
          have d2 : decide ((k : Int) < 1) = true := by simp; omega
          go_at_call 144
          refine (NA.out _ (HG.out.below E1.out.bel)).mono ?_
          rintro e w5 ⟨rfl, h5⟩
          have H5 := hide (E1.out.below h5)
          clear h5
          have a5 := H5.out.c0
          have f5 := H5.out.efz 0
          have P5 := hide (H5.out.put0 r)
          dsimp only
          go_wp2_with (go_at_call 144; refine (NB.out _ (HG.out.below P5.out.bel)).mono ?_; rintro e w6 ⟨rfl, h6'⟩; have H6 := hide (P5.out.below h6'); clear h6'; have a6 := H6.out.c0; have b6 := H6.out.c1; have f6 := H6.out.efz 1; have P6 := hide (H6.out.put1 k); have x6 := P6.out.c0; have y6 := P6.out.c1; have k6 := P6.out.there; have l6 := P6.out.ethere; have g6 := P6.out.rng; dsimp only)
          exact bodyPost_ret (ret_cell_tmp Tryz.results251 (a := ⟨w.heap.size, 0, none⟩) rfl (load_stored (cs := [_, _]) P6.out.there Tryz.underlying191 rfl size_Event)) rfl ⟨rfl, Below.setCells P6.out.bel (Nat.le_refl _) _ _⟩
      · have e : R = none := by rw [HE.out]; simp [hr]
        subst e
        clear HE
        have d1 : decide ((n : Int) ≤ (r : Int)) = true := by simp; omega
        go_at_call 144
        refine (NA.out _ (HG.out.below E1.out.bel)).mono ?_
        rintro e w5 ⟨rfl, h5⟩
        have H5 := hide (E1.out.below h5)
        clear h5
        have a5 := H5.out.c0
        have f5 := H5.out.efz 0
        have P5 := hide (H5.out.put0 r)
        dsimp only
        go_wp2_with (go_at_call 144; refine (NB.out _ (HG.out.below P5.out.bel)).mono ?_; rintro e w6 ⟨rfl, h6'⟩; have H6 := hide (P5.out.below h6'); clear h6'; have a6 := H6.out.c0; have b6 := H6.out.c1; have f6 := H6.out.efz 1; have P6 := hide (H6.out.put1 k); have x6 := P6.out.c0; have y6 := P6.out.c1; have k6 := P6.out.there; have l6 := P6.out.ethere; have g6 := P6.out.rng; dsimp only)
        exact bodyPost_ret (ret_cell_tmp Tryz.results251 (a := ⟨w.heap.size, 0, none⟩) rfl (load_stored (cs := [_, _]) P6.out.there Tryz.underlying191 rfl size_Event)) rfl ⟨rfl, Below.setCells P6.out.bel (Nat.le_refl _) _ _⟩

end Go.Proofs.YtaelaldmibgibaaGreatDoor

namespace Go.Proofs.YtaelaldmibgibaaGreatDoor
open Go.RowKit Go.Lib

set_option maxHeartbeats 400000 in
theorem sum_any (s : ByteArray) (hs : s.size ≤ 1000000000000) (w : World) :
    Calls Tryz.prog 117 #[.string s] w fun e w' => e = .returned (.int .i64 (sumTo s s.size)) ∧ ∃ q, w' = w.drewN q := by
  go_enter Tryz.func117, Tryz.ntmps117
  go_wp2
  go_loopw [3, 8] (fun v i wr => ∃ k q : Nat, k ≤ s.size ∧ i = .int .i64 k ∧ v = .int .i64 (sumTo s k) ∧ wr = w.drewN q) (fun _ i _ => s.size - (intOf i).toNat)
  case atStart => exact ⟨0, 0, by omega, rfl, rfl, rfl⟩
  case round =>
    obtain ⟨k, q, hk, rfl, rfl, rfl⟩ := hrel
    have hlt := sumTo_lt s k
    by_cases hx : k < s.size
    · have e : s.data.getD k 0 = s[k] := (Array.getElem_eq_getD (h := hx) 0).symm
      have ST : Hid (sumTo s (k + 1) = (sumTo s k + (k + 1) * s[k].toNat) % 1000003) := by unfold Hid; rw [sumTo, e]
      have hb : s[k].toNat < 256 := s[k].toNat_lt
      clear e
      generalize hS : sumTo s k = S at *
      generalize hB : s[k].toNat = B at *
      have hP : (k + 1) % 1000003 < 1000003 := Nat.mod_lt _ (by omega)
      have eP : ((k : Int) + 1).tmod 1000003 = (((k + 1) % 1000003 : Nat) : Int) := by
        rw [Int.tmod_eq_emod_of_nonneg (by omega)]
        simp
      have HM : Hid ((S + (k + 1) % 1000003 * B) % 1000003 = (S + (k + 1) * B) % 1000003) := by
        unfold Hid
        rw [Nat.add_mod, Nat.mod_mul_mod, ← Nat.add_mod]
      generalize (k + 1) % 1000003 = P at *
      have hm : P * B ≤ 1000003 * 255 := Nat.mul_le_mul (by omega) (by omega)
      have m1 : (0 : Int) ≤ (P : Int) * (B : Int) := Int.mul_nonneg (by omega) (by omega)
      have m2 : (P : Int) * (B : Int) ≤ 255000765 := by
        have : ((P * B : Nat) : Int) ≤ ((1000003 * 255 : Nat) : Int) := Int.ofNat_le.2 hm
        rw [Int.natCast_mul] at this
        simpa using this
      have val : (wrap64 ((S : Int) + wrap64 ((P : Int) * wrap64 (B : Int)))).tmod 1000003 = (((S + P * B) % 1000003 : Nat) : Int) := by
        rw [wrap64_in' (B : Int) (by omega), wrap64_in' ((P : Int) * (B : Int)) (by omega), wrap64_in' _ (by omega), Int.tmod_eq_emod_of_nonneg (by omega)]
        simp
      have HB := hide hB
      have HS := hide hS
      clear hB hS
      go_wp2
      go_roundw
      case rel => exact ⟨k + 1, _, by omega, by go_num, by rw [HB.out, ST.out, ← HM.out, ← val], rfl⟩
      case measure => simp [intOf]; omega
    · have e : k = s.size := by omega
      subst e
      go_wp2
      go_ret
      exact ⟨rfl, _, rfl⟩

theorem sumLine_any (s : ByteArray) (hs : s.size ≤ 1000000000000) (w : World) (hg : Glob w) :
    Calls Tryz.prog 68 #[.string s] w fun e w' => e = .returned (.string (ofBs (lastT (bs s)))) ∧ Below w.heap.size w w' := by
  have hlt := sumTo_lt s s.size
  have SU := hide (sum_any s hs w)
  have IT : Hid (∀ q, Calls Tryz.prog 72 #[.int .i64 (sumTo s s.size)] (w.drewN q) fun e w' => e = .returned (.string (ofBs (decDigits (sumTo s s.size)))) ∧ Below w.heap.size w w') := fun q => by
    have hb : Below w.heap.size w (w.drewN q) := ⟨rfl, rfl, rfl, Nat.le_refl _, fun _ _ => rfl⟩
    refine (Tryz.strconv_Itoa _ (by omega) (by omega) (w.drewN q) (hg.below hb).tab).mono ?_
    rintro e w' ⟨rfl, k, os, rfl⟩
    refine ⟨?_, below_step hb (grow_below _ k os)⟩
    unfold Lib.itoa
    rw [if_neg (by omega), Int.toNat_natCast]
    rfl
  have HL : Hid (ofBs (lastT (bs s)) = (⟨#[115, 117, 109, 32]⟩ : ByteArray) ++ ofBs (decDigits (sumTo s s.size)) ++ ⟨#[10]⟩) := by
    unfold Hid lastT
    apply bs_inj
    rw [bs_ofBs, bs_append, bs_append, bs_ofBs, sumL_bs, List.append_assoc]
    rfl
  have hsz : (ofBs (decDigits (sumTo s s.size))).size ≤ 1000 := by
    rw [← bs_len, bs_ofBs]
    have := dig_len 6 (sumTo s s.size) (Nat.lt_of_lt_of_le hlt (by decide))
    omega
  generalize ofBs (decDigits (sumTo s s.size)) = dd at *
  generalize sumTo s s.size = S at *
  clear hg
  go_enter Tryz.func68, Tryz.ntmps68
  go_wp2_with (first
    | (go_at_call 117; refine (SU.out).mono ?_; rintro e w1 ⟨rfl, q, rfl⟩)
    | (go_at_call 72; refine (IT.out q).mono ?_; rintro e w2 ⟨rfl, hb⟩))
  go_ret
  exact ⟨by rw [HL.out]; rfl, hb⟩

end Go.Proofs.YtaelaldmibgibaaGreatDoor
