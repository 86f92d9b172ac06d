/- The program's replica: remove of a record's file, next. -/
import Derived.Test.YtaelaldmibgibaaGreatRows
import Derived.WalkKit
import Derived.WalkSpells
import Derived.WalkLawsBesides
import Derived.Deep.AppendLies
import Derived.Deep.MidRow
import Derived.Deep.DrawnRows
import Derived.BigQuiet
import Derived.Deep.QuietTactic
import Derived.Deep.RegionWith
import Derived.Deep.RegionHeld3
import Derived.ChangeKeysEq
import Derived.Deep.RegionLaw
import Derived.Deep.DeepMust
import Derived.Test.YtaelaldmibgibaaGreatP01
import Derived.Test.YtaelaldmibgibaaGreatP03
import Derived.Test.YtaelaldmibgibaaGreatP18
import Derived.Test.YtaelaldmibgibaaGreatP19
import Derived.Test.YtaelaldmibgibaaGreatP22
import Derived.Test.YtaelaldmibgibaaGreatP20
import Derived.Test.YtaelaldmibgibaaGreatP23

set_option linter.unusedVariables false
set_option linter.unusedSimpArgs false
set_option linter.unusedSectionVars false

namespace Go.Proofs.YtaelaldmibgibaaGreat
open Go.RowKit
attribute [local go_sem ↓] Go.wp_at_zero Go.wp_at_succ
attribute [local go_sem ↓] stTime
attribute [local go_sem] stTime2

theorem size_file : (Tryz.prog.info? 116).map (·.size) = some 9 := by kernel_rfl
theorem stFile (p v : Value) : Instr.storeAt 116 p v = stM 116 p v := rfl
theorem run_stFile (w : World) (b o : Nat) (t : ByteArray) (x0 x1 x2 x3 x4 x5 x6 x7 : Int) (ht : w.there b o 9) :
    (stM 116 (.pointer (some ⟨b, o, none⟩)) (.agg #[.string t, .int .i64 x0, .int .i64 x1, .int .i64 x2, .int .i64 x3, .int .i64 x4, .int .i64 x5, .int .i64 x6, .int .i64 x7])).run Tryz.prog w = .ok () (w.setCells b o [.string t, .int .i64 x0, .int .i64 x1, .int .i64 x2, .int .i64 x3, .int .i64 x4, .int .i64 x5, .int .i64 x6, .int .i64 x7]) :=
  run_storeAt_mid w b o _ #[.string t, .int .i64 x0, .int .i64 x1, .int .i64 x2, .int .i64 x3, .int .i64 x4, .int .i64 x5, .int .i64 x6, .int .i64 x7] ht size_file (by simp [Value.oneCell'])
attribute [local go_sem ↓] stFile
attribute [local go_sem] run_stFile

set_option maxHeartbeats 400000 in
theorem fremove_any (fb : Nat) (w : World) (ht : w.there fb 0 9) :
    Calls Tryz.prog 61 #[.pointer (some ⟨fb, 0, none⟩)] w fun e w' => e = .returned (.tuple #[]) ∧ w' = w.setCells fb 0 [.string ⟨#[]⟩, .int .i64 0, .int .i64 0, .int .i64 0, .int .i64 0, .int .i64 0, .int .i64 0, .int .i64 0, .int .i64 0] := by
  go_enter Tryz.func61, Tryz.ntmps61
  go_wp2
  go_end0
  exact ⟨rfl, rfl⟩

theorem RepAt.there {w rb s cm mb} (h : RepAt w rb s cm mb) : w.there rb 1 6 := by
  intro j hj
  exact ⟨by rw [h.ct j hj]; rfl, h.fz _⟩

/-- between the two halves of next -/
structure Nx (w W : World) (s : Nat) (x : Int) : Prop where
  below : Below w.heap.size w W
  ev : EvAt W (w.heap.size + 1) s x
  res : W.there w.heap.size 0 2
  fz : ∀ j, W.frozen? ⟨w.heap.size + 1, j, none⟩ = false
  resf : ∀ j, W.frozen? ⟨w.heap.size, j, none⟩ = false
  size : w.heap.size + 2 ≤ W.heap.size
theorem Nx.a (w : World) (s : Nat) (x : Int) (n : Nat) : Nx w (((w.alloc (.cells #[.int .i64 0, .int .i64 0] 114)).drewN n).alloc (.cells #[.int .i64 s, .int .i64 x] 114)) s x := by
  have M := mine_drewN (Mine.made' w #[.int .i64 0, .int .i64 0] 114 (n := 2) rfl) n
  have hz : ((w.alloc (.cells #[.int .i64 0, .int .i64 0] 114)).drewN n).heap.size = w.heap.size + 1 := by
    show (w.alloc (.cells #[.int .i64 0, .int .i64 0] 114)).heap.size = _
    simp
  generalize (w.alloc (.cells #[.int .i64 0, .int .i64 0] 114)).drewN n = V at *
  have M2 := M.alloc (.cells #[.int .i64 s, .int .i64 x] 114)
  refine ⟨M2.below, ⟨?_, ?_, by simp [hz]⟩, M2.there, ?_, M2.fz, by simp [hz]⟩
  · rw [← hz]; simp only [World.cell?, heap_alloc_new]; rfl
  · rw [← hz]; simp only [World.cell?, heap_alloc_new]; rfl
  · intro j; rw [← hz]; simp only [World.frozen?, heap_alloc_new]; simp
theorem Nx.b (w : World) (s : Nat) (x : Int) (n : Nat) : Nx w (((((w.alloc (.cells #[.int .i64 0, .int .i64 0] 114)).alloc (.cells #[.int .i64 0, .int .i64 0] 114)).drewN n).setCell ⟨w.heap.size + 1, 0, none⟩ (.int .i64 s)).setCell ⟨w.heap.size + 1, 1, none⟩ (.int .i64 x)) s x := by
  have M0 := Mine.made' w #[.int .i64 0, .int .i64 0] 114 (n := 2) rfl
  have hz : (w.alloc (.cells #[.int .i64 0, .int .i64 0] 114)).heap.size = w.heap.size + 1 := by simp
  generalize w.alloc (.cells #[.int .i64 0, .int .i64 0] 114) = V at *
  have M1 := mine_drewN (M0.alloc (.cells #[.int .i64 0, .int .i64 0] 114)) n
  have N1 := mine_drewN (Mine.made' V #[.int .i64 0, .int .i64 0] 114 (n := 2) rfl) n
  rw [hz] at N1
  have hs : ((V.alloc (.cells #[.int .i64 0, .int .i64 0] 114)).drewN n).heap.size = w.heap.size + 2 := by
    show (V.alloc (.cells #[.int .i64 0, .int .i64 0] 114)).heap.size = _
    simp [hz]
  generalize (V.alloc (.cells #[.int .i64 0, .int .i64 0] 114)).drewN n = U at *
  have M3 := (M1.setCell ⟨w.heap.size + 1, 0, none⟩ (.inr (by simp)) (.int .i64 s)).setCell ⟨w.heap.size + 1, 1, none⟩ (.inr (by simp)) (.int .i64 x)
  have hs' : ((U.setCell ⟨w.heap.size + 1, 0, none⟩ (.int .i64 s)).setCell ⟨w.heap.size + 1, 1, none⟩ (.int .i64 x)).heap.size = w.heap.size + 2 := by simpa [World.setCell] using hs
  have e0 := cv_eq (N1.some 0 (by omega))
  have e1 := cv_eq (N1.some 1 (by omega))
  refine ⟨M3.below, ⟨(set_ne _ _ _ _ _ (by decide)).trans (World.cell?_setCell_same _ _ _ e0), World.cell?_setCell_same _ _ _ ((set_ne _ _ _ _ _ (by decide)).trans e1), by omega⟩, M3.there, ?_, M3.fz, by omega⟩
  intro j; rw [World.frozen?_setCell, World.frozen?_setCell]; exact N1.fz j

theorem RepAt.setTime {w : World} {rb s : Nat} {cm : Nat → Int} {mb : Nat} (h : RepAt w rb s cm mb) (t : Nat → Int) : RepAt (w.setCells rb 1 [.int .i64 (t 0), .int .i64 (t 1), .int .i64 (t 2), .int .i64 (t 3), .int .i64 (t 4), .int .i64 (t 5)]) rb s t mb := by
  refine ⟨?_, h.hs⟩
  simp only [World.setCells]
  have h1 := heap_setCell_same w rb 1 _ _ (.int .i64 (t 0)) h.blk
  have h2 := heap_setCell_same _ rb 2 _ _ (.int .i64 (t 1)) h1
  have h3 := heap_setCell_same _ rb 3 _ _ (.int .i64 (t 2)) h2
  have h4 := heap_setCell_same _ rb 4 _ _ (.int .i64 (t 3)) h3
  have h5 := heap_setCell_same _ rb 5 _ _ (.int .i64 (t 4)) h4
  have h6 := heap_setCell_same _ rb 6 _ _ (.int .i64 (t 5)) h5
  simpa using h6

theorem Fr.setCells {S : Nat → Prop} {a w : World} (h : Fr S a w) (b o : Nat) (vs : List Value) (hb : S b ∨ a.heap.size ≤ b) : Fr S a (w.setCells b o vs) := by
  induction vs generalizing o w with
  | nil => exact h
  | cons v vs ih => exact ih (h.setCell (p := ⟨b, o, none⟩) hb v) (o + 1)

theorem next_end {w W w3 : World} {rb s : Nat} {cm : Nat → Int} {mb : Nat} {x : Int} (N : Nx w W s x) (R : RepAt W rb s cm mb) (hrb : rb < w.heap.size) (hb : Below W.heap.size W w3) (t : Nat → Int) :
    RepAt (w3.setCells rb 1 [.int .i64 (t 0), .int .i64 (t 1), .int .i64 (t 2), .int .i64 (t 3), .int .i64 (t 4), .int .i64 (t 5)]) rb s t mb ∧ Fr (fun k => k = rb) w (w3.setCells rb 1 [.int .i64 (t 0), .int .i64 (t 1), .int .i64 (t 2), .int .i64 (t 3), .int .i64 (t 4), .int .i64 (t 5)]) ∧
    (w3.setCells rb 1 [.int .i64 (t 0), .int .i64 (t 1), .int .i64 (t 2), .int .i64 (t 3), .int .i64 (t 4), .int .i64 (t 5)]).cell? ⟨w.heap.size + 1, 0, none⟩ = some (.int .i64 s) ∧ (w3.setCells rb 1 [.int .i64 (t 0), .int .i64 (t 1), .int .i64 (t 2), .int .i64 (t 3), .int .i64 (t 4), .int .i64 (t 5)]).cell? ⟨w.heap.size + 1, 1, none⟩ = some (.int .i64 x) ∧
    (w3.setCells rb 1 [.int .i64 (t 0), .int .i64 (t 1), .int .i64 (t 2), .int .i64 (t 3), .int .i64 (t 4), .int .i64 (t 5)]).cell? ⟨w.heap.size, 0, none⟩ = some (cv (w3.setCells rb 1 [.int .i64 (t 0), .int .i64 (t 1), .int .i64 (t 2), .int .i64 (t 3), .int .i64 (t 4), .int .i64 (t 5)]) w.heap.size 0) ∧ (w3.setCells rb 1 [.int .i64 (t 0), .int .i64 (t 1), .int .i64 (t 2), .int .i64 (t 3), .int .i64 (t 4), .int .i64 (t 5)]).cell? ⟨w.heap.size, 1, none⟩ = some (cv (w3.setCells rb 1 [.int .i64 (t 0), .int .i64 (t 1), .int .i64 (t 2), .int .i64 (t 3), .int .i64 (t 4), .int .i64 (t 5)]) w.heap.size 1) ∧
    (∀ j, (w3.setCells rb 1 [.int .i64 (t 0), .int .i64 (t 1), .int .i64 (t 2), .int .i64 (t 3), .int .i64 (t 4), .int .i64 (t 5)]).frozen? ⟨w.heap.size, j, none⟩ = false) := by
  have hsz := N.size
  have E3 := N.ev.more hb
  have far : ∀ k j, k ≠ rb → (w3.setCells rb 1 [.int .i64 (t 0), .int .i64 (t 1), .int .i64 (t 2), .int .i64 (t 3), .int .i64 (t 4), .int .i64 (t 5)]).cell? ⟨k, j, none⟩ = w3.cell? ⟨k, j, none⟩ := fun k j hk => World.cell?_of_block (heap_setCells_other w3 rb 1 _ k hk)
  have some2 : ∀ j, j < 2 → ((w3.setCells rb 1 [.int .i64 (t 0), .int .i64 (t 1), .int .i64 (t 2), .int .i64 (t 3), .int .i64 (t 4), .int .i64 (t 5)]).cell? ⟨w.heap.size, j, none⟩).isSome = true := fun j hj => by
    rw [far _ _ (by omega), hb.cell (by simp only; omega)]
    have := (N.res j hj).1
    simpa using this
  refine ⟨(R.keep (hb.block rb (by omega))).setTime t, (Fr.of_below (N.below.trans (hb.mono (by omega)))).setCells rb 1 _ (.inl rfl), (far _ _ (by omega)).trans E3.e0, (far _ _ (by omega)).trans E3.e1, cv_eq (some2 0 (by omega)), cv_eq (some2 1 (by omega)), ?_⟩
  intro j
  rw [World.frozen?_setCells, hb.frozen (by simp only; omega)]
  by_cases hj : j < 2
  · have := (N.res j hj).2
    simpa using this
  · exact N.resf j

set_option maxRecDepth 100000 in
set_option maxHeartbeats 600000 in
theorem next_any (rb s : Nat) (cm : Nat → Int) (mb : Nat) (w : World) (h : RepAt w rb s cm mb) (hc0 : 0 ≤ cm s) (hc : cm s < 1000000000) :
    Calls Tryz.prog 51 #[.pointer (some ⟨rb, 0, none⟩)] w fun e w' => e = .returned (.agg #[.int .i64 s, .int .i64 (cm s + 1)]) ∧ RepAt w' rb s (gboth cm (tf s (cm s + 1))) mb ∧ Fr (fun k => k = rb) w w' := by
  have H := hide h
  have hlt := h.lt
  have c0 := h.c0
  have hs := h.hs
  have hne : rb ≠ w.heap.size := by omega
  have hne' : w.heap.size ≠ rb := by omega
  have hw : IntKind.i64.wrap (cm s + 1) = cm s + 1 := by rw [IntKind.wrap_i64]; omega
  have CN := hide (fun (W : World) (e0 : W.heap[rb]? = w.heap[rb]?) => count_any rb s cm mb W (h.keep e0))
  clear h
  go_enter Tryz.func51, Tryz.ntmps51
  go_wp2
  go_region_law (first
    | (go_simp; go_at_call 68; refine (CN.out _ (by first | exact Below.heap_alloc _ _ _ hlt | exact (Below.heap_alloc _ _ _ (by simp; omega)).trans (Below.heap_alloc _ _ _ hlt))).mono ?_; rintro e w1 ⟨rfl, nq, rfl⟩; dsimp only))
  all_goals go_wp2_with fail
  all_goals first
    | (obtain ⟨W, hW⟩ : ∃ W, W = ((w.alloc (.cells #[.int .i64 0, .int .i64 0] 114)).drewN (1 + nq)).alloc (.cells #[.int .i64 s, .int .i64 (cm s + 1)] 114) := ⟨_, rfl⟩; rw [← hW]; have N : Hid (Nx w W s (cm s + 1)) := (by rw [hW]; exact Nx.a w s (cm s + 1) (1 + nq)); clear hW)
    | (obtain ⟨W, hW⟩ : ∃ W, W = ((((w.alloc (.cells #[.int .i64 0, .int .i64 0] 114)).alloc (.cells #[.int .i64 0, .int .i64 0] 114)).drewN (1 + nq)).setCell ⟨w.heap.size + 1, 0, none⟩ (.int .i64 s)).setCell ⟨w.heap.size + 1, 1, none⟩ (.int .i64 (cm s + 1)) := ⟨_, rfl⟩; rw [← hW]; have N : Hid (Nx w W s (cm s + 1)) := (by rw [hW]; exact Nx.b w s (cm s + 1) (1 + nq)); clear hW)
  all_goals
    have RW := hide (H.out.keep (N.out.below.block rb hlt))
    have r1 := RW.out.ct 0 (by omega)
    have r2 := RW.out.ct 1 (by omega)
    have r3 := RW.out.ct 2 (by omega)
    have r4 := RW.out.ct 3 (by omega)
    have r5 := RW.out.ct 4 (by omega)
    have r6 := RW.out.ct 5 (by omega)
    obtain ⟨e0, e1, elt⟩ := N.out.ev
    simp only [Nat.reduceAdd] at r1 r2 r3 r4 r5 r6
    go_region_law (first
      | (go_simp; go_at_call 55; refine (Alone_fn s (cm s + 1) _ hs).mono ?_; rintro e w2 ⟨rfl, hb2r⟩; have hb2 := hide (⟨hb2r.os, hb2r.tape, hb2r.output, hb2r.size, hb2r.block⟩ : Below W.heap.size W w2); have RW2 := hide (RW.out.keep (hb2.out.block rb RW.out.lt)); have p1 := RW2.out.ct 0 (by omega); have p2 := RW2.out.ct 1 (by omega); have p3 := RW2.out.ct 2 (by omega); have p4 := RW2.out.ct 3 (by omega); have p5 := RW2.out.ct 4 (by omega); have p6 := RW2.out.ct 5 (by omega); simp only [Nat.reduceAdd] at p1 p2 p3 p4 p5 p6; have KB1 := hide (built12 w2 cm (tf s (cm s + 1)) 108).1; have KB2 := hide (built12 w2 cm (tf s (cm s + 1)) 108).2; dsimp only)
      | (go_simp; go_at_call 70; refine (Greatest_any w2.heap.size 2 cm (tf s (cm s + 1)) _ (by simp) (by exact KB1.out) (by exact KB2.out)).mono ?_; rintro e w3 ⟨rfl, hb3⟩; have hb4 := hide ((hb2.out.alloc hb2.out.size _).trans (hb3.mono (by simp; have := hb2.out.size; omega))); have dth := (RW.out.keep (hb4.out.block rb RW.out.lt)).there; dsimp only))
  all_goals
    obtain ⟨RF, FR, e0', e1', k0, k1, kf⟩ := next_end N.out RW.out hlt hb4.out (gboth cm (tf s (cm s + 1)))
    have RFH := hide RF
    have FRH := hide FR
    generalize w3.setCells rb 1 [.int .i64 (gboth cm (tf s (cm s + 1)) 0), .int .i64 (gboth cm (tf s (cm s + 1)) 1), .int .i64 (gboth cm (tf s (cm s + 1)) 2), .int .i64 (gboth cm (tf s (cm s + 1)) 3), .int .i64 (gboth cm (tf s (cm s + 1)) 4), .int .i64 (gboth cm (tf s (cm s + 1)) 5)] = W4 at e0' e1' k0 k1 kf RFH FRH ⊢
    clear RF FR p1 p2 p3 p4 p5 p6 r1 r2 r3 r4 r5 r6 e0 e1
    go_wp2
    refine bodyPost_ret (v := .agg #[.int .i64 s, .int .i64 (cm s + 1)]) (by simp [results, Tryz.results51, go_sem, k0, k1]) rfl ⟨rfl, ?_, ?_⟩
    · exact RFH.out.keep (by rw [heap_set_other (by simp only; exact hne), heap_set_other (by simp only; exact hne)])
    · exact (FRH.out.setCell (.inr (by simp)) _).setCell (.inr (by simp)) _

end Go.Proofs.YtaelaldmibgibaaGreat
