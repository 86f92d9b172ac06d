/- The program's records: hear. -/
import Derived.Deep.RegionLaw
import Derived.Test.YtaelaldmibgibaaGreatDoorX05

set_option linter.all false
set_option maxHeartbeats 1000000
set_option maxRecDepth 100000

namespace Go.Proofs.K
open Go.RowKit
variable {w : World} {kb : Nat} {t : Nat → Int}
attribute [local go_sem ↓] Go.wp_at_zero Go.wp_at_succ
theorem yfu (w : World) (a b : Nat → Int) (ty : TypeId) :
  (∀ j, j < 6 → (w.alloc (.cells #[.int .i64 (a 0), .int .i64 (a 1), .int .i64 (a 2), .int .i64 (a 3), .int .i64 (a 4), .int .i64 (a 5), .int .i64 (b 0), .int .i64 (b 1), .int .i64 (b 2), .int .i64 (b 3), .int .i64 (b 4), .int .i64 (b 5)] ty)).cell? ⟨w.heap.size, j, none⟩ = some (.int .i64 (a j))) ∧
  (∀ j, j < 6 → (w.alloc (.cells #[.int .i64 (a 0), .int .i64 (a 1), .int .i64 (a 2), .int .i64 (a 3), .int .i64 (a 4), .int .i64 (a 5), .int .i64 (b 0), .int .i64 (b 1), .int .i64 (b 2), .int .i64 (b 3), .int .i64 (b 4), .int .i64 (b 5)] ty)).cell? ⟨w.heap.size, 6 + j, none⟩ = some (.int .i64 (b j))) := by
 constructor
 ·intro j hj
  simp only [World.cell?, heap_alloc_new]
  match j, hj with
  |0, _ | 1, _ | 2, _ | 3, _ | 4, _ | 5, _ => rfl
 ·intro j hj
  simp only [World.cell?, heap_alloc_new]
  match j, hj with
  |0, _ | 1, _ | 2, _ | 3, _ | 4, _ | 5, _ => rfl
theorem yqx (w : World) (a b : Nat → Int) (ty : TypeId) :
  Calls Tryz.prog 128 #[.slice (some ⟨w.heap.size, 0, none⟩) 2 2] (w.alloc (.cells #[.int .i64 (a 0), .int .i64 (a 1), .int .i64 (a 2), .int .i64 (a 3), .int .i64 (a 4), .int .i64 (a 5), .int .i64 (b 0), .int .i64 (b 1), .int .i64 (b 2), .int .i64 (b 3), .int .i64 (b 4), .int .i64 (b 5)] ty))
   fun e w' => e = .returned (.agg #[.int .i64 (yac a b 0), .int .i64 (yac a b 1), .int .i64 (yac a b 2), .int .i64 (yac a b 3), .int .i64 (yac a b 4), .int .i64 (yac a b 5)]) ∧ Below w.heap.size w w' := by
 obtain ⟨h1, h2⟩ := yfu w a b ty
 refine (ycn w.heap.size 2 a b _ (by simp) h1 h2).mono ?_
 rintro e w' ⟨he, hb⟩
 exact ⟨he, ((Below.refl _ _).alloc (Nat.le_refl _) _).trans (hb.mono (by simp))⟩
theorem ygs (w : World) (b o : Nat) (x0 x1 x2 x3 x4 x5 : Int) (ht : w.there b o 6) :
  (stM 186 (.pointer (some ⟨b, o, none⟩)) (.agg #[.int .i64 x0, .int .i64 x1, .int .i64 x2, .int .i64 x3, .int .i64 x4, .int .i64 x5])).run Tryz.prog w = .ok () (w.setCells b o [.int .i64 x0, .int .i64 x1, .int .i64 x2, .int .i64 x3, .int .i64 x4, .int .i64 x5]) :=
 run_storeAt_mid w b o _ #[.int .i64 x0, .int .i64 x1, .int .i64 x2, .int .i64 x3, .int .i64 x4, .int .i64 x5] ht yhj (by simp [Value.oneCell'])
attribute [local go_sem ↓] ykp
attribute [local go_sem] ygs
structure At9 (w : World) (kb : Nat) (t : Nat → Int) : Prop where
 c0 : w.cell? ⟨kb, 9, none⟩ = some (.int .i64 (t 0))
 c1 : w.cell? ⟨kb, 10, none⟩ = some (.int .i64 (t 1))
 c2 : w.cell? ⟨kb, 11, none⟩ = some (.int .i64 (t 2))
 c3 : w.cell? ⟨kb, 12, none⟩ = some (.int .i64 (t 3))
 c4 : w.cell? ⟨kb, 13, none⟩ = some (.int .i64 (t 4))
 c5 : w.cell? ⟨kb, 14, none⟩ = some (.int .i64 (t 5))
 fz : ∀ j, w.frozen? ⟨kb, j, none⟩ = false
 lt : kb < w.heap.size
theorem At9.there (h : At9 w kb t) : w.there kb 9 6 := by
 intro j hj
 refine ⟨?_, h.fz _⟩
 match j, hj with
 |0, _ => rw [h.c0]; rfl
 |1, _ => rw [h.c1]; rfl
 |2, _ => rw [h.c2]; rfl
 |3, _ => rw [h.c3]; rfl
 |4, _ => rw [h.c4]; rfl
 |5, _ => rw [h.c5]; rfl
theorem At9.more {w' : World} (h : At9 w kb t) (hb : Below w.heap.size w w') : At9 w' kb t :=
 ⟨(hb.cell (p := ⟨kb, 9, none⟩) h.lt).trans h.c0, (hb.cell (p := ⟨kb, 10, none⟩) h.lt).trans h.c1, (hb.cell (p := ⟨kb, 11, none⟩) h.lt).trans h.c2, (hb.cell (p := ⟨kb, 12, none⟩) h.lt).trans h.c3, (hb.cell (p := ⟨kb, 13, none⟩) h.lt).trans h.c4, (hb.cell (p := ⟨kb, 14, none⟩) h.lt).trans h.c5, fun j => (hb.frozen (p := ⟨kb, j, none⟩) h.lt).trans (h.fz j), Nat.lt_of_lt_of_le h.lt hb.size⟩
theorem gboth_g1 (t u : Nat → Int) : yac t (g1 u) = yac t u := by
 funext j
 unfold yac g1 zer
 (repeat' split) <;> omega
theorem ynl (w : World) (a : Nat → Int) (ty : TypeId) (j : Nat) (hj : j < 6) :
  (w.alloc (.cells #[.int .i64 (a 0), .int .i64 (a 1), .int .i64 (a 2), .int .i64 (a 3), .int .i64 (a 4), .int .i64 (a 5)] ty)).cell? ⟨w.heap.size, j, none⟩ = some (.int .i64 (a j)) := by
 simp only [World.cell?, heap_alloc_new]
 match j, hj with
 |0, _ | 1, _ | 2, _ | 3, _ | 4, _ | 5, _ => rfl
theorem hear_any (kb g cp : Nat) (t u : Nat → Int) (w : World) (h : At9 w kb t) (hg : g < w.heap.size) (hu : ∀ j, j < 6 → w.cell? ⟨g, j, none⟩ = some (.int .i64 (u j))) :
  Calls Tryz.prog 110 #[.pointer (some ⟨kb, 9, none⟩), .slice (some ⟨g, 0, none⟩) 1 cp] w fun e w' => e = .returned (.tuple #[]) ∧ ∃ w1, Below w.heap.size w w1 ∧ w' = w1.setCells kb 9 [.int .i64 (yac t u 0), .int .i64 (yac t u 1), .int .i64 (yac t u 2), .int .i64 (yac t u 3), .int .i64 (yac t u 4), .int .i64 (yac t u 5)] := by
 rw [← gboth_g1 t u]
 have H := yab h
 have c0 := h.c0
 have c1 := h.c1
 have c2 := h.c2
 have c3 := h.c3
 have c4 := h.c4
 have c5 := h.c5
 have G1 := yab (ywa g cp u w.drew hg hu)
 clear h hg hu
 go_enter Tryz.func110, Tryz.ntmps110
 go_wp2
 go_region_law (first
  |(have hz := BB.out.size; have X1 := yab (yfu w1 t (g1 u) 186); go_simp; go_at_call 128; refine (ycn w1.heap.size 2 t (g1 u) _ (by simp) (by exact X1.out.1) (by exact X1.out.2)).mono ?_; rintro e w2 ⟨rfl, hb2⟩; have B2 := yab ((BB.out.alloc hz _).trans (hb2.mono (by simp; omega))); have dth := (H.out.more B2.out).there; dsimp only)
  |(go_simp; go_at_call 128; refine G1.out.mono ?_; rintro e w1 ⟨rfl, hb1⟩; have BB := yab ((Below.refl w.heap.size w).drew.trans hb1); have H1 := H.out.more BB.out; have d0 := H1.c0; have d1 := H1.c1; have d2 := H1.c2; have d3 := H1.c3; have d4 := H1.c4; have d5 := H1.c5; clear H1 hb1; dsimp only))
 all_goals go_wp2
 all_goals go_end0
 all_goals exact ⟨rfl, w2, B2.out, rfl⟩
end Go.Proofs.K

namespace Go.Proofs.K
open Go.RowKit
variable {w w' : World} {ev fb r : Nat} {t : ByteArray} {bn br x : Int} {ch : Nat → Int}
attribute [local go_sem ↓] Go.wp_at_zero Go.wp_at_succ
attribute [local go_sem ↓] ykp
attribute [local go_sem] ygs
structure ylg (w : World) (fb : Nat) (t : ByteArray) (br bn : Int) (ch : Nat → Int) : Prop where
 c0 : w.cell? ⟨fb, 0, none⟩ = some (.string t)
 c1 : w.cell? ⟨fb, 1, none⟩ = some (.int .i64 br)
 c2 : w.cell? ⟨fb, 2, none⟩ = some (.int .i64 bn)
 c3 : w.cell? ⟨fb, 3, none⟩ = some (.int .i64 (ch 0))
 c4 : w.cell? ⟨fb, 4, none⟩ = some (.int .i64 (ch 1))
 c5 : w.cell? ⟨fb, 5, none⟩ = some (.int .i64 (ch 2))
 c6 : w.cell? ⟨fb, 6, none⟩ = some (.int .i64 (ch 3))
 c7 : w.cell? ⟨fb, 7, none⟩ = some (.int .i64 (ch 4))
 c8 : w.cell? ⟨fb, 8, none⟩ = some (.int .i64 (ch 5))
 fz : ∀ j, w.frozen? ⟨fb, j, none⟩ = false
 lt : fb < w.heap.size
theorem ylg.more (h : ylg w fb t br bn ch) (hb : Below w.heap.size w w') : ylg w' fb t br bn ch :=
 ⟨(hb.cell (p := ⟨fb, 0, none⟩) h.lt).trans h.c0, (hb.cell (p := ⟨fb, 1, none⟩) h.lt).trans h.c1, (hb.cell (p := ⟨fb, 2, none⟩) h.lt).trans h.c2, (hb.cell (p := ⟨fb, 3, none⟩) h.lt).trans h.c3, (hb.cell (p := ⟨fb, 4, none⟩) h.lt).trans h.c4, (hb.cell (p := ⟨fb, 5, none⟩) h.lt).trans h.c5, (hb.cell (p := ⟨fb, 6, none⟩) h.lt).trans h.c6, (hb.cell (p := ⟨fb, 7, none⟩) h.lt).trans h.c7, (hb.cell (p := ⟨fb, 8, none⟩) h.lt).trans h.c8, fun j => (hb.frozen (p := ⟨fb, j, none⟩) h.lt).trans (h.fz j), Nat.lt_of_lt_of_le h.lt hb.size⟩
theorem yex (w : World) (b i j : Nat) (u : Value) (h : i ≠ j) : (w.setCell ⟨b, i, none⟩ u).cell? ⟨b, j, none⟩ = w.cell? ⟨b, j, none⟩ := World.cell?_setCell_other w ⟨b, i, none⟩ ⟨b, j, none⟩ u (by simp <;> exact h)
theorem ylg.setText (h : ylg w fb t br bn ch) (t' : ByteArray) : ylg (w.setCell ⟨fb, 0, none⟩ (.string t')) fb t' br bn ch :=
 ⟨World.cell?_setCell_same _ _ _ h.c0, (yex _ _ _ _ _ (by decide)).trans h.c1, (yex _ _ _ _ _ (by decide)).trans h.c2, (yex _ _ _ _ _ (by decide)).trans h.c3, (yex _ _ _ _ _ (by decide)).trans h.c4, (yex _ _ _ _ _ (by decide)).trans h.c5, (yex _ _ _ _ _ (by decide)).trans h.c6, (yex _ _ _ _ _ (by decide)).trans h.c7, (yex _ _ _ _ _ (by decide)).trans h.c8, fun j => by rw [World.frozen?_setCell]; exact h.fz j, by simpa [World.setCell] using h.lt⟩
theorem ylg.setBirth (h : ylg w fb t br bn ch) (x y : Int) : ylg ((w.setCell ⟨fb, 1, none⟩ (.int .i64 x)).setCell ⟨fb, 2, none⟩ (.int .i64 y)) fb t x y ch := by
 have e : ∀ j, 2 ≠ j → 1 ≠ j → ((w.setCell ⟨fb, 1, none⟩ (.int .i64 x)).setCell ⟨fb, 2, none⟩ (.int .i64 y)).cell? ⟨fb, j, none⟩ = w.cell? ⟨fb, j, none⟩ := fun j h2 h1 => (yex _ _ _ _ _ h2).trans (yex _ _ _ _ _ h1)
 exact ⟨(e 0 (by decide) (by decide)).trans h.c0, (yex _ _ _ _ _ (by decide)).trans (World.cell?_setCell_same _ _ _ h.c1), World.cell?_setCell_same _ _ _ ((yex _ _ _ _ _ (by decide)).trans h.c2), (e 3 (by decide) (by decide)).trans h.c3, (e 4 (by decide) (by decide)).trans h.c4, (e 5 (by decide) (by decide)).trans h.c5, (e 6 (by decide) (by decide)).trans h.c6, (e 7 (by decide) (by decide)).trans h.c7, (e 8 (by decide) (by decide)).trans h.c8, fun j => by rw [World.frozen?_setCell, World.frozen?_setCell]; exact h.fz j, by simpa [World.setCell] using h.lt⟩
theorem ylg.there (h : ylg w fb t br bn ch) : w.there fb 3 6 := by
 intro j hj
 refine ⟨?_, h.fz _⟩
 match j, hj with
 |0, _ => rw [h.c3]; rfl
 |1, _ => rw [h.c4]; rfl
 |2, _ => rw [h.c5]; rfl
 |3, _ => rw [h.c6]; rfl
 |4, _ => rw [h.c7]; rfl
 |5, _ => rw [h.c8]; rfl
def tf (r : Nat) (x : Int) (j : Nat) : Int := (one r x).getD j 0
theorem yjs (r : Nat) (x : Int) (w : World) (hr : r < 6) :
  Calls Tryz.prog 111 #[.agg #[.int .i64 r, .int .i64 x]] w fun e w' => e = .returned (.agg #[.int .i64 (tf r x 0), .int .i64 (tf r x 1), .int .i64 (tf r x 2), .int .i64 (tf r x 3), .int .i64 (tf r x 4), .int .i64 (tf r x 5)]) ∧ Below w.heap.size w w' := by
 refine (Alone_any r x w hr).mono ?_
 rintro e w' ⟨rfl, hb⟩
 refine ⟨?_, hb⟩
 match r, hr with
 |0, _ | 1, _ | 2, _ | 3, _ | 4, _ | 5, _ => rfl
structure EvAt (w : World) (ev : Nat) (r : Nat) (x : Int) : Prop where
 e0 : w.cell? ⟨ev, 0, none⟩ = some (.int .i64 r)
 e1 : w.cell? ⟨ev, 1, none⟩ = some (.int .i64 x)
 lt : ev < w.heap.size
theorem EvAt.more (h : EvAt w ev r x) (hb : Below w.heap.size w w') : EvAt w' ev r x :=
 ⟨(hb.cell (p := ⟨ev, 0, none⟩) h.lt).trans h.e0, (hb.cell (p := ⟨ev, 1, none⟩) h.lt).trans h.e1, Nat.lt_of_lt_of_le h.lt hb.size⟩
theorem EvAt.set (h : EvAt w ev r x) (b j : Nat) (u : Value) (hb : b ≠ ev) : EvAt (w.setCell ⟨b, j, none⟩ u) ev r x :=
 ⟨(World.cell?_setCell_far _ _ _ _ hb).trans h.e0, (World.cell?_setCell_far _ _ _ _ hb).trans h.e1, by simpa [World.setCell] using h.lt⟩
theorem fwrite_old (fb : Nat) (t t' : ByteArray) (br bn : Int) (ch : Nat → Int) (r : Nat) (x : Int) (hr : r < 6) (w : World) (h : ylg w fb t br bn ch) (hbn : 0 < bn) :
  Calls Tryz.prog 108 #[.pointer (some ⟨fb, 0, none⟩), .string t', .agg #[.int .i64 r, .int .i64 x]] w fun e w' => e = .returned (.tuple #[]) ∧ ∃ w1 w3, Below w.heap.size w w1 ∧ Below w1.heap.size (w1.setCell ⟨fb, 0, none⟩ (.string t')) w3 ∧ w' = w3.setCells fb 3 [.int .i64 (yac ch (tf r x) 0), .int .i64 (yac ch (tf r x) 1), .int .i64 (yac ch (tf r x) 2), .int .i64 (yac ch (tf r x) 3), .int .i64 (yac ch (tf r x) 4), .int .i64 (yac ch (tf r x) 5)] := by
 have H := yab h
 obtain ⟨c0, c1, c2, c3, c4, c5, c6, c7, c8, fz, lt⟩ := h
 have hne : fb ≠ w.heap.size := by omega
 have hne' : w.heap.size ≠ fb := by omega
 have hd : decide (0 < bn) = true := by simp [hbn]
 have EV : Hid (EvAt (w.alloc (.cells #[.int .i64 r, .int .i64 x] 191)) w.heap.size r x) := by
  refine ⟨?_, ?_, by simp⟩ <;> (simp only [World.cell?, heap_alloc_new]; rfl)
 have FH := yab (H.out.more ((Below.refl _ _).alloc (Nat.le_refl _) (.cells #[.int .i64 r, .int .i64 x] 191)))
 have HB := yab ((Below.refl w.heap.size w).alloc (Nat.le_refl _) (.cells #[.int .i64 r, .int .i64 x] 191))
 go_enter Tryz.func108, Tryz.ntmps108
 go_wp2_with fail
 refine (yaw _ _ _ _ _ _ _ _ _ _).mono ?_
 rintro e w1 ⟨rfl, hb1⟩
 have F1 := FH.out.more hb1
 have E1 := EV.out.more hb1
 have B1 := yab (HB.out.trans (hb1.mono (by simp)))
 have F2 := yab (F1.setText t')
 have E2 := yab (E1.set fb 0 (.string t') hne)
 have d0 := F1.c0
 have df := F1.fz
 clear c0 c1 c2 c3 c4 c5 c6 c7 c8 fz F1 E1 hb1 H EV FH HB
 go_wp2_with fail
 have HZ : Hid ((w1.setCell ⟨fb, 0, none⟩ (.string t')).heap.size = w1.heap.size) := by unfold Hid; simp [World.setCell]
 clear d0 df
 generalize hW : w1.setCell ⟨fb, 0, none⟩ (.string t') = W1 at F2 E2 HZ ⊢
 have HW := yab hW
 clear hW
 obtain ⟨_, _, _, c3, c4, c5, c6, c7, c8, _, clt⟩ := F2.out
 obtain ⟨e0, e1, elt⟩ := E2.out
 go_region_law (first
  |(go_simp; go_at_call 111; refine (yjs r x _ hr).mono ?_; rintro e w2 ⟨rfl, hb2r⟩; have hb2 := yab (⟨hb2r.os, hb2r.tape, hb2r.output, hb2r.size, hb2r.block⟩ : Below W1.heap.size W1 w2); have F3 := yab (F2.out.more hb2.out); obtain ⟨_, _, _, m3, m4, m5, m6, m7, m8, _, mlt⟩ := F2.out.more hb2.out; have KB1 := yab (yfu w2 ch (tf r x) 186).1; have KB2 := yab (yfu w2 ch (tf r x) 186).2; dsimp only)
  |(go_simp; go_at_call 128; refine (ycn w2.heap.size 2 ch (tf r x) _ (by simp) (by exact KB1.out) (by exact KB2.out)).mono ?_; rintro e w3 ⟨rfl, hb3⟩; have hb4 := yab ((hb2.out.alloc hb2.out.size _).trans (hb3.mono (by simp; have := hb2.out.size; omega))); have dth := (F2.out.more hb4.out).there; dsimp only))
 all_goals go_wp2
 all_goals go_end0
 all_goals exact ⟨rfl, w1, w3, B1.out, by rw [HW.out, ← HZ.out]; exact hb4.out, rfl⟩
theorem fwrite_new (fb : Nat) (t t' : ByteArray) (br bn : Int) (ch : Nat → Int) (r : Nat) (x : Int) (hr : r < 6) (w : World) (h : ylg w fb t br bn ch) (hbn : bn = 0) :
  Calls Tryz.prog 108 #[.pointer (some ⟨fb, 0, none⟩), .string t', .agg #[.int .i64 r, .int .i64 x]] w fun e w' => e = .returned (.tuple #[]) ∧ ∃ w1 w3, Below w.heap.size w w1 ∧ Below w1.heap.size (((w1.setCell ⟨fb, 1, none⟩ (.int .i64 r)).setCell ⟨fb, 2, none⟩ (.int .i64 x)).setCell ⟨fb, 0, none⟩ (.string t')) w3 ∧ w' = w3.setCells fb 3 [.int .i64 (yac ch (tf r x) 0), .int .i64 (yac ch (tf r x) 1), .int .i64 (yac ch (tf r x) 2), .int .i64 (yac ch (tf r x) 3), .int .i64 (yac ch (tf r x) 4), .int .i64 (yac ch (tf r x) 5)] := by
 have H := yab h
 obtain ⟨c0, c1, c2, c3, c4, c5, c6, c7, c8, fz, lt⟩ := h
 have hne : fb ≠ w.heap.size := by omega
 have hne' : w.heap.size ≠ fb := by omega
 have hd : decide ((0 : Int) < 0) = false := by simp
 subst hbn
 have EV : Hid (EvAt (w.alloc (.cells #[.int .i64 r, .int .i64 x] 191)) w.heap.size r x) := by
  refine ⟨?_, ?_, by simp⟩ <;> (simp only [World.cell?, heap_alloc_new]; rfl)
 have FH := yab (H.out.more ((Below.refl _ _).alloc (Nat.le_refl _) (.cells #[.int .i64 r, .int .i64 x] 191)))
 have HB := yab ((Below.refl w.heap.size w).alloc (Nat.le_refl _) (.cells #[.int .i64 r, .int .i64 x] 191))
 go_enter Tryz.func108, Tryz.ntmps108
 go_wp2_with fail
 refine (yaw _ _ _ _ _ _ _ _ _ _).mono ?_
 rintro e w1 ⟨rfl, hb1⟩
 have F1 := FH.out.more hb1
 have E1 := EV.out.more hb1
 have B1 := yab (HB.out.trans (hb1.mono (by simp)))
 have F2 := yab ((F1.setBirth r x).setText t')
 have E2 := yab (((E1.set fb 1 (.int .i64 r) hne).set fb 2 (.int .i64 x) hne).set fb 0 (.string t') hne)
 have d1 := F1.c1
 have d2 := F1.c2
 have e10 := E1.e0
 have e11 := E1.e1
 have d0 := F1.c0
 have df := F1.fz
 clear c0 c1 c2 c3 c4 c5 c6 c7 c8 fz F1 E1 hb1 H EV FH HB
 go_wp2_with fail
 have HZ : Hid ((((w1.setCell ⟨fb, 1, none⟩ (.int .i64 r)).setCell ⟨fb, 2, none⟩ (.int .i64 x)).setCell ⟨fb, 0, none⟩ (.string t')).heap.size = w1.heap.size) := by unfold Hid; simp [World.setCell]
 clear d0 df d1 d2 e10 e11
 generalize hW : ((w1.setCell ⟨fb, 1, none⟩ (.int .i64 r)).setCell ⟨fb, 2, none⟩ (.int .i64 x)).setCell ⟨fb, 0, none⟩ (.string t') = W1 at F2 E2 HZ ⊢
 have HW := yab hW
 clear hW
 obtain ⟨_, _, _, c3, c4, c5, c6, c7, c8, _, clt⟩ := F2.out
 obtain ⟨e0, e1, elt⟩ := E2.out
 go_region_law (first
  |(go_simp; go_at_call 111; refine (yjs r x _ hr).mono ?_; rintro e w2 ⟨rfl, hb2r⟩; have hb2 := yab (⟨hb2r.os, hb2r.tape, hb2r.output, hb2r.size, hb2r.block⟩ : Below W1.heap.size W1 w2); have F3 := yab (F2.out.more hb2.out); obtain ⟨_, _, _, m3, m4, m5, m6, m7, m8, _, mlt⟩ := F2.out.more hb2.out; have KB1 := yab (yfu w2 ch (tf r x) 186).1; have KB2 := yab (yfu w2 ch (tf r x) 186).2; dsimp only)
  |(go_simp; go_at_call 128; refine (ycn w2.heap.size 2 ch (tf r x) _ (by simp) (by exact KB1.out) (by exact KB2.out)).mono ?_; rintro e w3 ⟨rfl, hb3⟩; have hb4 := yab ((hb2.out.alloc hb2.out.size _).trans (hb3.mono (by simp; have := hb2.out.size; omega))); have dth := (F2.out.more hb4.out).there; dsimp only))
 all_goals go_wp2
 all_goals go_end0
 all_goals exact ⟨rfl, w1, w3, B1.out, by rw [HW.out, ← HZ.out]; exact hb4.out, rfl⟩
end Go.Proofs.K

namespace Go.Proofs.K
open Go.RowKit
variable {w : World} {mb rb s : Nat} {cm : Nat → Int}
attribute [local go_sem ↓] Go.wp_at_zero Go.wp_at_succ
attribute [local go_sem ↓] ykp
attribute [local go_sem] ygs
theorem ygc : (Tryz.prog.info? 193).map (·.size) = some 9 := by kernel_rfl
theorem yyn (p v : Value) : Instr.storeAt 193 p v = stM 193 p v := rfl
theorem yhi (w : World) (b o : Nat) (t : ByteArray) (x0 x1 x2 x3 x4 x5 x6 x7 : Int) (ht : w.there b o 9) :
  (stM 193 (.pointer (some ⟨b, o, none⟩)) (.agg #[.string t, .int .i64 x0, .int .i64 x1, .int .i64 x2, .int .i64 x3, .int .i64 x4, .int .i64 x5, .int .i64 x6, .int .i64 x7])).run Tryz.prog w = .ok () (w.setCells b o [.string t, .int .i64 x0, .int .i64 x1, .int .i64 x2, .int .i64 x3, .int .i64 x4, .int .i64 x5, .int .i64 x6, .int .i64 x7]) :=
 run_storeAt_mid w b o _ #[.string t, .int .i64 x0, .int .i64 x1, .int .i64 x2, .int .i64 x3, .int .i64 x4, .int .i64 x5, .int .i64 x6, .int .i64 x7] ht ygc (by simp [Value.oneCell'])
attribute [local go_sem ↓] yyn
attribute [local go_sem] yhi
theorem fremove_any (fb : Nat) (w : World) (ht : w.there fb 0 9) :
  Calls Tryz.prog 114 #[.pointer (some ⟨fb, 0, none⟩)] w fun e w' => e = .returned (.tuple #[]) ∧ w' = w.setCells fb 0 [.string ⟨#[]⟩, .int .i64 0, .int .i64 0, .int .i64 0, .int .i64 0, .int .i64 0, .int .i64 0, .int .i64 0, .int .i64 0] := by
 go_enter Tryz.func114, Tryz.ntmps114
 go_wp2
 go_end0
 exact ⟨rfl, rfl⟩
theorem ybs.there {w rb s cm mb} (h : ybs w rb s cm mb) : w.there rb 1 6 := by
 intro j hj
 exact ⟨by rw [h.ct j hj]; rfl, h.fz _⟩
structure Nx (w W : World) (s : Nat) (x : Int) : Prop where
 below : Below w.heap.size w W
 ev : EvAt W (w.heap.size + 1) s x
 res : W.there w.heap.size 0 2
 fz : ∀ j, W.frozen? ⟨w.heap.size + 1, j, none⟩ = false
 resf : ∀ j, W.frozen? ⟨w.heap.size, j, none⟩ = false
 size : w.heap.size + 2 ≤ W.heap.size
theorem Nx.a (w : World) (s : Nat) (x : Int) (n : Nat) : Nx w (((w.alloc (.cells #[.int .i64 0, .int .i64 0] 191)).drewN n).alloc (.cells #[.int .i64 s, .int .i64 x] 191)) s x := by
 have M := yhb (ycj.made' w #[.int .i64 0, .int .i64 0] 191 (n := 2) rfl) n
 have hz : ((w.alloc (.cells #[.int .i64 0, .int .i64 0] 191)).drewN n).heap.size = w.heap.size + 1 := by
  show (w.alloc (.cells #[.int .i64 0, .int .i64 0] 191)).heap.size = _
  simp
 generalize (w.alloc (.cells #[.int .i64 0, .int .i64 0] 191)).drewN n = V at *
 have M2 := M.alloc (.cells #[.int .i64 s, .int .i64 x] 191)
 refine ⟨M2.below, ⟨?_, ?_, by simp [hz]⟩, M2.there, ?_, M2.fz, by simp [hz]⟩
 ·rw [← hz]; simp only [World.cell?, heap_alloc_new]; rfl
 ·rw [← hz]; simp only [World.cell?, heap_alloc_new]; rfl
 ·intro j; rw [← hz]; simp only [World.frozen?, heap_alloc_new]; simp
theorem Nx.b (w : World) (s : Nat) (x : Int) (n : Nat) : Nx w (((((w.alloc (.cells #[.int .i64 0, .int .i64 0] 191)).alloc (.cells #[.int .i64 0, .int .i64 0] 191)).drewN n).setCell ⟨w.heap.size + 1, 0, none⟩ (.int .i64 s)).setCell ⟨w.heap.size + 1, 1, none⟩ (.int .i64 x)) s x := by
 have M0 := ycj.made' w #[.int .i64 0, .int .i64 0] 191 (n := 2) rfl
 have hz : (w.alloc (.cells #[.int .i64 0, .int .i64 0] 191)).heap.size = w.heap.size + 1 := by simp
 generalize w.alloc (.cells #[.int .i64 0, .int .i64 0] 191) = V at *
 have M1 := yhb (M0.alloc (.cells #[.int .i64 0, .int .i64 0] 191)) n
 have N1 := yhb (ycj.made' V #[.int .i64 0, .int .i64 0] 191 (n := 2) rfl) n
 rw [hz] at N1
 have hs : ((V.alloc (.cells #[.int .i64 0, .int .i64 0] 191)).drewN n).heap.size = w.heap.size + 2 := by
  show (V.alloc (.cells #[.int .i64 0, .int .i64 0] 191)).heap.size = _
  simp [hz]
 generalize (V.alloc (.cells #[.int .i64 0, .int .i64 0] 191)).drewN n = U at *
 have M3 := (M1.setCell ⟨w.heap.size + 1, 0, none⟩ (.inr (by simp)) (.int .i64 s)).setCell ⟨w.heap.size + 1, 1, none⟩ (.inr (by simp)) (.int .i64 x)
 have hs' : ((U.setCell ⟨w.heap.size + 1, 0, none⟩ (.int .i64 s)).setCell ⟨w.heap.size + 1, 1, none⟩ (.int .i64 x)).heap.size = w.heap.size + 2 := by simpa [World.setCell] using hs
 have e0 := cv_eq (N1.some 0 (by omega))
 have e1 := cv_eq (N1.some 1 (by omega))
 refine ⟨M3.below, ⟨(yex _ _ _ _ _ (by decide)).trans (World.cell?_setCell_same _ _ _ e0), World.cell?_setCell_same _ _ _ ((yex _ _ _ _ _ (by decide)).trans e1), by omega⟩, M3.there, ?_, M3.fz, by omega⟩
 intro j; rw [World.frozen?_setCell, World.frozen?_setCell]; exact N1.fz j
theorem ybs.setTime (h : ybs w rb s cm mb) (t : Nat → Int) : ybs (w.setCells rb 1 [.int .i64 (t 0), .int .i64 (t 1), .int .i64 (t 2), .int .i64 (t 3), .int .i64 (t 4), .int .i64 (t 5)]) rb s t mb := by
 refine ⟨?_, h.hs⟩
 simp only [World.setCells]
 have h1 := heap_setCell_same w rb 1 _ _ (.int .i64 (t 0)) h.blk
 have h2 := heap_setCell_same _ rb 2 _ _ (.int .i64 (t 1)) h1
 have h3 := heap_setCell_same _ rb 3 _ _ (.int .i64 (t 2)) h2
 have h4 := heap_setCell_same _ rb 4 _ _ (.int .i64 (t 3)) h3
 have h5 := heap_setCell_same _ rb 5 _ _ (.int .i64 (t 4)) h4
 have h6 := heap_setCell_same _ rb 6 _ _ (.int .i64 (t 5)) h5
 simpa using h6
theorem Fr.setCells {S : Nat → Prop} {a : World} (h : Fr S a w) (b o : Nat) (vs : List Value) (hb : S b ∨ a.heap.size ≤ b) : Fr S a (w.setCells b o vs) := by
 induction vs generalizing o w with
 |nil => exact h
 |cons v vs ih => exact ih (h.setCell (p := ⟨b, o, none⟩) hb v) (o + 1)
theorem next_end {W w3 : World} {x : Int} (N : Nx w W s x) (R : ybs W rb s cm mb) (hrb : rb < w.heap.size) (hb : Below W.heap.size W w3) (t : Nat → Int) :
  ybs (w3.setCells rb 1 [.int .i64 (t 0), .int .i64 (t 1), .int .i64 (t 2), .int .i64 (t 3), .int .i64 (t 4), .int .i64 (t 5)]) rb s t mb ∧ Fr (fun k => k = rb) w (w3.setCells rb 1 [.int .i64 (t 0), .int .i64 (t 1), .int .i64 (t 2), .int .i64 (t 3), .int .i64 (t 4), .int .i64 (t 5)]) ∧
  (w3.setCells rb 1 [.int .i64 (t 0), .int .i64 (t 1), .int .i64 (t 2), .int .i64 (t 3), .int .i64 (t 4), .int .i64 (t 5)]).cell? ⟨w.heap.size + 1, 0, none⟩ = some (.int .i64 s) ∧ (w3.setCells rb 1 [.int .i64 (t 0), .int .i64 (t 1), .int .i64 (t 2), .int .i64 (t 3), .int .i64 (t 4), .int .i64 (t 5)]).cell? ⟨w.heap.size + 1, 1, none⟩ = some (.int .i64 x) ∧
  (w3.setCells rb 1 [.int .i64 (t 0), .int .i64 (t 1), .int .i64 (t 2), .int .i64 (t 3), .int .i64 (t 4), .int .i64 (t 5)]).cell? ⟨w.heap.size, 0, none⟩ = some (cv (w3.setCells rb 1 [.int .i64 (t 0), .int .i64 (t 1), .int .i64 (t 2), .int .i64 (t 3), .int .i64 (t 4), .int .i64 (t 5)]) w.heap.size 0) ∧ (w3.setCells rb 1 [.int .i64 (t 0), .int .i64 (t 1), .int .i64 (t 2), .int .i64 (t 3), .int .i64 (t 4), .int .i64 (t 5)]).cell? ⟨w.heap.size, 1, none⟩ = some (cv (w3.setCells rb 1 [.int .i64 (t 0), .int .i64 (t 1), .int .i64 (t 2), .int .i64 (t 3), .int .i64 (t 4), .int .i64 (t 5)]) w.heap.size 1) ∧
  (∀ j, (w3.setCells rb 1 [.int .i64 (t 0), .int .i64 (t 1), .int .i64 (t 2), .int .i64 (t 3), .int .i64 (t 4), .int .i64 (t 5)]).frozen? ⟨w.heap.size, j, none⟩ = false) := by
 have hsz := N.size
 have E3 := N.ev.more hb
 have far : ∀ k j, k ≠ rb → (w3.setCells rb 1 [.int .i64 (t 0), .int .i64 (t 1), .int .i64 (t 2), .int .i64 (t 3), .int .i64 (t 4), .int .i64 (t 5)]).cell? ⟨k, j, none⟩ = w3.cell? ⟨k, j, none⟩ := fun k j hk => World.cell?_of_block (yfy w3 rb 1 _ k hk)
 have some2 : ∀ j, j < 2 → ((w3.setCells rb 1 [.int .i64 (t 0), .int .i64 (t 1), .int .i64 (t 2), .int .i64 (t 3), .int .i64 (t 4), .int .i64 (t 5)]).cell? ⟨w.heap.size, j, none⟩).isSome = true := fun j hj => by
  rw [far _ _ (by omega), hb.cell (by simp only; omega)]
  have := (N.res j hj).1
  simpa using this
 refine ⟨(R.keep (hb.block rb (by omega))).setTime t, (Fr.of_below (N.below.trans (hb.mono (by omega)))).setCells rb 1 _ (.inl rfl), (far _ _ (by omega)).trans E3.e0, (far _ _ (by omega)).trans E3.e1, cv_eq (some2 0 (by omega)), cv_eq (some2 1 (by omega)), ?_⟩
 intro j
 rw [World.frozen?_setCells, hb.frozen (by simp only; omega)]
 by_cases hj : j < 2
 ·have := (N.res j hj).2
  simpa using this
 ·exact N.resf j
theorem next_any (rb s : Nat) (cm : Nat → Int) (mb : Nat) (w : World) (h : ybs w rb s cm mb) (hc0 : 0 ≤ cm s) (hc : cm s < 1000000000) :
  Calls Tryz.prog 107 #[.pointer (some ⟨rb, 0, none⟩)] w fun e w' => e = .returned (.agg #[.int .i64 s, .int .i64 (cm s + 1)]) ∧ ybs w' rb s (yac cm (tf s (cm s + 1))) mb ∧ Fr (fun k => k = rb) w w' := by
 have H := yab h
 have hlt := h.lt
 have c0 := h.c0
 have hs := h.hs
 have hne : rb ≠ w.heap.size := by omega
 have hne' : w.heap.size ≠ rb := by omega
 have hw : IntKind.i64.wrap (cm s + 1) = cm s + 1 := by rw [IntKind.wrap_i64]; omega
 have CN := yab (fun (W : World) (e0 : W.heap[rb]? = w.heap[rb]?) => ygx rb s cm mb W (h.keep e0))
 clear h
 go_enter Tryz.func107, Tryz.ntmps107
 go_wp2
 go_region_law (first
  |(go_simp; go_at_call 168; refine (CN.out _ (by first | exact Below.heap_alloc _ _ _ hlt | exact (Below.heap_alloc _ _ _ (by simp; omega)).trans (Below.heap_alloc _ _ _ hlt))).mono ?_; rintro e w1 ⟨rfl, nq, rfl⟩; dsimp only))
 all_goals go_wp2_with fail
 all_goals first
  |(obtain ⟨W, hW⟩ : ∃ W, W = ((w.alloc (.cells #[.int .i64 0, .int .i64 0] 191)).drewN (1 + nq)).alloc (.cells #[.int .i64 s, .int .i64 (cm s + 1)] 191) := ⟨_, rfl⟩; rw [← hW]; have N : Hid (Nx w W s (cm s + 1)) := (by rw [hW]; exact Nx.a w s (cm s + 1) (1 + nq)); clear hW)
  |(obtain ⟨W, hW⟩ : ∃ W, W = ((((w.alloc (.cells #[.int .i64 0, .int .i64 0] 191)).alloc (.cells #[.int .i64 0, .int .i64 0] 191)).drewN (1 + nq)).setCell ⟨w.heap.size + 1, 0, none⟩ (.int .i64 s)).setCell ⟨w.heap.size + 1, 1, none⟩ (.int .i64 (cm s + 1)) := ⟨_, rfl⟩; rw [← hW]; have N : Hid (Nx w W s (cm s + 1)) := (by rw [hW]; exact Nx.b w s (cm s + 1) (1 + nq)); clear hW)
 all_goals
  have RW := yab (H.out.keep (N.out.below.block rb hlt))
  have r1 := RW.out.ct 0 (by omega)
  have r2 := RW.out.ct 1 (by omega)
  have r3 := RW.out.ct 2 (by omega)
  have r4 := RW.out.ct 3 (by omega)
  have r5 := RW.out.ct 4 (by omega)
  have r6 := RW.out.ct 5 (by omega)
  obtain ⟨e0, e1, elt⟩ := N.out.ev
  simp only [Nat.reduceAdd] at r1 r2 r3 r4 r5 r6
  go_region_law (first
   |(go_simp; go_at_call 111; refine (yjs s (cm s + 1) _ hs).mono ?_; rintro e w2 ⟨rfl, hb2r⟩; have hb2 := yab (⟨hb2r.os, hb2r.tape, hb2r.output, hb2r.size, hb2r.block⟩ : Below W.heap.size W w2); have RW2 := yab (RW.out.keep (hb2.out.block rb RW.out.lt)); have p1 := RW2.out.ct 0 (by omega); have p2 := RW2.out.ct 1 (by omega); have p3 := RW2.out.ct 2 (by omega); have p4 := RW2.out.ct 3 (by omega); have p5 := RW2.out.ct 4 (by omega); have p6 := RW2.out.ct 5 (by omega); simp only [Nat.reduceAdd] at p1 p2 p3 p4 p5 p6; have KB1 := yab (yfu w2 cm (tf s (cm s + 1)) 186).1; have KB2 := yab (yfu w2 cm (tf s (cm s + 1)) 186).2; dsimp only)
   |(go_simp; go_at_call 128; refine (ycn w2.heap.size 2 cm (tf s (cm s + 1)) _ (by simp) (by exact KB1.out) (by exact KB2.out)).mono ?_; rintro e w3 ⟨rfl, hb3⟩; have hb4 := yab ((hb2.out.alloc hb2.out.size _).trans (hb3.mono (by simp; have := hb2.out.size; omega))); have dth := (RW.out.keep (hb4.out.block rb RW.out.lt)).there; dsimp only))
 all_goals
  obtain ⟨RF, FR, e0', e1', k0, k1, kf⟩ := next_end N.out RW.out hlt hb4.out (yac cm (tf s (cm s + 1)))
  have RFH := yab RF
  have FRH := yab FR
  generalize w3.setCells rb 1 [.int .i64 (yac cm (tf s (cm s + 1)) 0), .int .i64 (yac cm (tf s (cm s + 1)) 1), .int .i64 (yac cm (tf s (cm s + 1)) 2), .int .i64 (yac cm (tf s (cm s + 1)) 3), .int .i64 (yac cm (tf s (cm s + 1)) 4), .int .i64 (yac cm (tf s (cm s + 1)) 5)] = W4 at e0' e1' k0 k1 kf RFH FRH ⊢
  clear RF FR p1 p2 p3 p4 p5 p6 r1 r2 r3 r4 r5 r6 e0 e1
  go_wp2
  refine bodyPost_ret (v := .agg #[.int .i64 s, .int .i64 (cm s + 1)]) (by simp [results, Tryz.results107, go_sem, k0, k1]) rfl ⟨rfl, ?_, ?_⟩
  ·exact RFH.out.keep (by rw [ybn (by simp only; exact hne), ybn (by simp only; exact hne)])
  ·exact (FRH.out.setCell (.inr (by simp)) _).setCell (.inr (by simp)) _
end Go.Proofs.K

namespace Go.Proofs.K
open Go.RowKit
theorem ykl (t : ByteArray) (br bn : Int) (ch kn u : Nat → Int) (w : World) (hbn : 0 < bn) :
  Calls Tryz.prog 170 #[.agg #[.string t, .int .i64 br, .int .i64 bn, .int .i64 (ch 0), .int .i64 (ch 1), .int .i64 (ch 2), .int .i64 (ch 3), .int .i64 (ch 4), .int .i64 (ch 5), .int .i64 (kn 0), .int .i64 (kn 1), .int .i64 (kn 2), .int .i64 (kn 3), .int .i64 (kn 4), .int .i64 (kn 5)], .agg #[.int .i64 (u 0), .int .i64 (u 1), .int .i64 (u 2), .int .i64 (u 3), .int .i64 (u 4), .int .i64 (u 5)]] w fun e w' => e = .returned (.bool true) ∧ Below w.heap.size w w' := by
 have hd : decide (0 < bn) = true := by simp [hbn]
 go_enter Tryz.func170, Tryz.ntmps170
 go_wp2_with fail
 refine (yaw _ _ _ _ _ _ _ _ _ _).mono ?_
 rintro e w1 ⟨rfl, hb1⟩
 go_wp2
 go_ret
 exact ⟨rfl, (((Below.refl _ _).alloc (Nat.le_refl _) _).alloc (by simp) _).trans (hb1.mono (by simp; omega))⟩
theorem boxes (w : World) (t : ByteArray) (br bn : Int) (ch kn u : Nat → Int) (w1 : World) (hb : Below ((w.alloc (.cells #[.string t, .int .i64 br, .int .i64 bn, .int .i64 (ch 0), .int .i64 (ch 1), .int .i64 (ch 2), .int .i64 (ch 3), .int .i64 (ch 4), .int .i64 (ch 5), .int .i64 (kn 0), .int .i64 (kn 1), .int .i64 (kn 2), .int .i64 (kn 3), .int .i64 (kn 4), .int .i64 (kn 5)] 197)).alloc (.cells #[.int .i64 (u 0), .int .i64 (u 1), .int .i64 (u 2), .int .i64 (u 3), .int .i64 (u 4), .int .i64 (u 5)] 186)).heap.size ((w.alloc (.cells #[.string t, .int .i64 br, .int .i64 bn, .int .i64 (ch 0), .int .i64 (ch 1), .int .i64 (ch 2), .int .i64 (ch 3), .int .i64 (ch 4), .int .i64 (ch 5), .int .i64 (kn 0), .int .i64 (kn 1), .int .i64 (kn 2), .int .i64 (kn 3), .int .i64 (kn 4), .int .i64 (kn 5)] 197)).alloc (.cells #[.int .i64 (u 0), .int .i64 (u 1), .int .i64 (u 2), .int .i64 (u 3), .int .i64 (u 4), .int .i64 (u 5)] 186)) w1) :
  At9 w1 w.heap.size kn ∧ (∀ j, j < 6 → w1.cell? ⟨w.heap.size + 1, j, none⟩ = some (.int .i64 (u j))) := by
 have hz : (w.alloc (.cells #[.string t, .int .i64 br, .int .i64 bn, .int .i64 (ch 0), .int .i64 (ch 1), .int .i64 (ch 2), .int .i64 (ch 3), .int .i64 (ch 4), .int .i64 (ch 5), .int .i64 (kn 0), .int .i64 (kn 1), .int .i64 (kn 2), .int .i64 (kn 3), .int .i64 (kn 4), .int .i64 (kn 5)] 197)).heap.size = w.heap.size + 1 := by simp
 have h9 : At9 (w.alloc (.cells #[.string t, .int .i64 br, .int .i64 bn, .int .i64 (ch 0), .int .i64 (ch 1), .int .i64 (ch 2), .int .i64 (ch 3), .int .i64 (ch 4), .int .i64 (ch 5), .int .i64 (kn 0), .int .i64 (kn 1), .int .i64 (kn 2), .int .i64 (kn 3), .int .i64 (kn 4), .int .i64 (kn 5)] 197)) w.heap.size kn := by
  refine ⟨?_, ?_, ?_, ?_, ?_, ?_, ?_, by simp⟩
  all_goals first | (simp only [World.cell?, heap_alloc_new]; rfl) | (intro j; simp only [World.frozen?, heap_alloc_new]; simp)
 generalize w.alloc (.cells #[.string t, .int .i64 br, .int .i64 bn, .int .i64 (ch 0), .int .i64 (ch 1), .int .i64 (ch 2), .int .i64 (ch 3), .int .i64 (ch 4), .int .i64 (ch 5), .int .i64 (kn 0), .int .i64 (kn 1), .int .i64 (kn 2), .int .i64 (kn 3), .int .i64 (kn 4), .int .i64 (kn 5)] 197) = V at *
 refine ⟨(h9.more ((Below.refl _ _).alloc (Nat.le_refl _) _)).more hb, ?_⟩
 intro j hj
 rw [hb.cell (by simp; omega), ← hz]
 simp only [World.cell?, heap_alloc_new]
 match j, hj with
 |0, _ | 1, _ | 2, _ | 3, _ | 4, _ | 5, _ => rfl
theorem yhy (t : ByteArray) (br bn : Int) (ch kn u : Nat → Int) (w : World) (hbn : ¬ 0 < bn) :
  Calls Tryz.prog 170 #[.agg #[.string t, .int .i64 br, .int .i64 bn, .int .i64 (ch 0), .int .i64 (ch 1), .int .i64 (ch 2), .int .i64 (ch 3), .int .i64 (ch 4), .int .i64 (ch 5), .int .i64 (kn 0), .int .i64 (kn 1), .int .i64 (kn 2), .int .i64 (kn 3), .int .i64 (kn 4), .int .i64 (kn 5)], .agg #[.int .i64 (u 0), .int .i64 (u 1), .int .i64 (u 2), .int .i64 (u 3), .int .i64 (u 4), .int .i64 (u 5)]] w fun e w' => e = .returned (.bool (!eqT kn u)) ∧ Below w.heap.size w w' := by
 have hd : decide (0 < bn) = false := by simp; omega
 have BX := yab (boxes w t br bn ch kn u)
 go_enter Tryz.func170, Tryz.ntmps170
 go_wp2_with fail
 refine (yaw _ _ _ _ _ _ _ _ _ _).mono ?_
 rintro e w1 ⟨rfl, hb1⟩
 obtain ⟨⟨k0, k1, k2, k3, k4, k5, _, _⟩, hu⟩ := BX.out w1 hb1
 have u0 := hu 0 (by omega)
 have u1 := hu 1 (by omega)
 have u2 := hu 2 (by omega)
 have u3 := hu 3 (by omega)
 have u4 := hu 4 (by omega)
 have u5 := hu 5 (by omega)
 have B1 := yab ((((Below.refl w.heap.size w).alloc (Nat.le_refl _) _).alloc (by simp) _).trans (hb1.mono (by simp; omega)))
 clear hu BX hb1
 go_wp2_with fail
 refine (isJust_any kn u _).mono ?_
 rintro e w2 ⟨rfl, hb2⟩
 have B2 := yab (B1.out.trans (hb2.mono B1.out.size))
 clear hb2
 go_wp2
 go_ret
 exact ⟨rfl, B2.out⟩
structure ymk (w : World) (nb n pb : Nat) (rbs : List Nat) : Prop where
 blk : ∃ cap, w.heap[nb]? = some (.cells #[.slice (some ⟨pb, 0, none⟩) n cap] 97 (0, 0))
 len : rbs.length = n
 row : ∀ r b, rbs[r]? = some b → w.cell? ⟨pb, r, none⟩ = some (.pointer (some ⟨b, 0, none⟩))
 n6 : n ≤ 6
theorem has_any (nb n pb : Nat) (rbs : List Nat) (r : Int) (w : World) (h : ymk w nb n pb rbs) :
  Calls Tryz.prog 36 #[.pointer (some ⟨nb, 0, none⟩), .int .i64 r] w fun e w' => e = .returned (.bool (decide (0 ≤ r ∧ r < n))) ∧ w' = w := by
 obtain ⟨cap, hb⟩ := h.blk
 have c0 : w.cell? ⟨nb, 0, none⟩ = some (.slice (some ⟨pb, 0, none⟩) n cap) := by simp [World.cell?, hb]
 have hn6 := h.n6
 clear hb h
 by_cases h1 : 0 ≤ r
 ·have d1 : decide (0 ≤ r) = true := by simp [h1]
  have e : decide (0 ≤ r ∧ r < n) = decide (r < n) := by simp [h1]
  rw [e]
  go_enter Tryz.func36, Tryz.ntmps36
  go_wp2
  go_ret
  exact ⟨rfl, rfl⟩
 ·have d1 : decide (0 ≤ r) = false := by simp; omega
  have e : decide (0 ≤ r ∧ r < n) = false := by simp; omega
  rw [e]
  go_enter Tryz.func36, Tryz.ntmps36
  go_wp2
  go_ret
  exact ⟨rfl, rfl⟩
theorem yjz (nb n pb : Nat) (rbs : List Nat) (r : Nat) (b : Nat) (p : ByteArray) (w : World) (h : ymk w nb n pb rbs) (hr : rbs[r]? = some b) (hp : ybm p = true) (hs : p.size ≤ maxLen) :
  Calls Tryz.prog 61 #[.pointer (some ⟨nb, 0, none⟩), .int .i64 r, .string p] w fun e w' => e = .returned (.tuple #[.pointer (some ⟨b, 0, none⟩), .int .i64 0]) ∧ w' = w := by
 have hrn : r < n := by have := (List.getElem?_eq_some_iff.1 hr).1; have := h.len; omega
 have C := yab (has_any nb n pb rbs r w h)
 rw [decide_eq_true (by omega)] at C
 have D := yab (ysj p w hs)
 rw [hp] at D
 obtain ⟨cap, hb⟩ := h.blk
 have c0 : w.cell? ⟨nb, 0, none⟩ = some (.slice (some ⟨pb, 0, none⟩) n cap) := by simp [World.cell?, hb]
 have cr := h.row r b hr
 have hn6 := h.n6
 clear h hr hp hb
 go_enter Tryz.func61, Tryz.ntmps61
 go_wp2_with (first | (go_at_call 36; refine C.out.mono ?_; rintro e w ⟨rfl, rfl⟩) | (go_at_call 103; refine D.out.mono ?_; rintro e w ⟨rfl, rfl⟩))
 go_ret2
 exact ⟨rfl, rfl⟩
attribute [local go_sem ↓] Go.wp_at_zero Go.wp_at_succ
def newAbs (n : Nat) : Abs := { n := n, F := fun _ => [], c := fun _ => 0 }
end Go.Proofs.K
