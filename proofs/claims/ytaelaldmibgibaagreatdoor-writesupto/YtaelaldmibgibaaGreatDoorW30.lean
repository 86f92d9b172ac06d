/- local: Look. -/
import Derived.Test.YtaelaldmibgibaaGreatDoorW29
import Derived.Deep.DeepCutAuto

set_option linter.unusedVariables false
set_option linter.unusedSimpArgs false

namespace Go.Proofs.YtaelaldmibgibaaGreatDoor
open Go.RowKit

theorem lookV_form (A : Abs) (r : Int) : ∃ x0 x1 x2 : Int, A.lookV r = .agg #[.int .i64 x0, .int .i64 x1, .int .i64 x2] := by
  unfold Abs.lookV
  split
  · exact ⟨_, _, _, rfl⟩
  · exact ⟨_, _, _, rfl⟩

theorem keep_state {W0 w1 : World} (hb : Below (W0.drew.alloc (.cells #[.int .i64 0, .int .i64 0, .int .i64 0] 166)).heap.size (W0.drew.alloc (.cells #[.int .i64 0, .int .i64 0, .int .i64 0] 166)) w1) :
    w1.heap[W0.heap.size]? = some (.cells #[.int .i64 0, .int .i64 0, .int .i64 0] 166 (0, 0)) ∧ w1.cell? ⟨W0.heap.size, 0, none⟩ = some (.int .i64 0) ∧ w1.cell? ⟨W0.heap.size, 1, none⟩ = some (.int .i64 0) ∧ w1.cell? ⟨W0.heap.size, 2, none⟩ = some (.int .i64 0) ∧ (∀ j, w1.frozen? ⟨W0.heap.size, j, none⟩ = false) := by
  have e : w1.heap[W0.heap.size]? = some (.cells #[.int .i64 0, .int .i64 0, .int .i64 0] 166 (0, 0)) := by
    rw [hb.block W0.heap.size (by simp)]
    exact heap_alloc_new W0.drew _
  exact ⟨e, by simp [World.cell?, e], by simp [World.cell?, e], by simp [World.cell?, e], fun j => by simp [World.frozen?, e]⟩
/-- a struct of three numbers in a block -/
def St3 (W : World) (sb : Nat) (x0 x1 x2 : Int) : Prop := W.heap[sb]? = some (.cells #[.int .i64 x0, .int .i64 x1, .int .i64 x2] 166 (0, 0))
theorem St3.made (W : World) (x0 x1 x2 : Int) : St3 (W.alloc (.cells #[.int .i64 x0, .int .i64 x1, .int .i64 x2] 166)) W.heap.size x0 x1 x2 := heap_alloc_new _ _
theorem St3.set {W : World} {sb : Nat} (h : W.heap[sb]? = some (.cells #[.int .i64 0, .int .i64 0, .int .i64 0] 166 (0, 0))) (x0 x1 x2 : Int) : St3 (((W.setCell ⟨sb, 0, none⟩ (.int .i64 x0)).setCell ⟨sb, 1, none⟩ (.int .i64 x1)).setCell ⟨sb, 2, none⟩ (.int .i64 x2)) sb x0 x1 x2 := by
  have h1 := heap_setCell_same W sb 0 _ _ (.int .i64 x0) h
  have h2 := heap_setCell_same _ sb 1 _ _ (.int .i64 x1) h1
  have h3 := heap_setCell_same _ sb 2 _ _ (.int .i64 x2) h2
  unfold St3
  simpa using h3
theorem St3.cells {W : World} {sb : Nat} {x0 x1 x2 : Int} (h : St3 W sb x0 x1 x2) : W.cell? ⟨sb, 0, none⟩ = some (.int .i64 x0) ∧ W.cell? ⟨sb, 1, none⟩ = some (.int .i64 x1) ∧ W.cell? ⟨sb, 2, none⟩ = some (.int .i64 x2) := by
  have h0 : W.heap[sb]? = some (.cells #[.int .i64 x0, .int .i64 x1, .int .i64 x2] 166 (0, 0)) := h
  exact ⟨by simp [World.cell?, h0], by simp [World.cell?, h0], by simp [World.cell?, h0]⟩
theorem St3.more {W V : World} {sb : Nat} {x0 x1 x2 : Int} (h : St3 W sb x0 x1 x2) (hb : Below W.heap.size W V) : St3 V sb x0 x1 x2 := by
  unfold St3 at *
  rw [hb.block sb (Array.getElem?_eq_some_iff.1 h).1]; exact h

section
variable {w w' w1 w2 : World} {pb nb b : Nat} {P : PN} {ρ ρ' : Nat → Nat × Nat} {S S' : RS} {A A' : Abs}

theorem Lcl.set1 {W : World} {o : OpV} (h : Lcl w W pb nb b P ρ S A o) (sb j : Nat) (hsb : w.heap.size < sb) (u : Value) : Lcl w (W.setCell ⟨sb, j, none⟩ u) pb nb b P ρ S A o :=
  ⟨h.below.setCell (by simp only; omega) u, h.pair.keep (by simp [World.setCell]) (fun k hk => heap_set_other (by have := h.old.lt hk; simp only; omega)), h.old, by rw [heap_set_other (by simp only; omega)]; exact h.op⟩
theorem Lcl.set3 {W : World} {o : OpV} (h : Lcl w W pb nb b P ρ S A o) (sb : Nat) (hsb : w.heap.size < sb) (x0 x1 x2 : Int) : Lcl w (((W.setCell ⟨sb, 0, none⟩ (.int .i64 x0)).setCell ⟨sb, 1, none⟩ (.int .i64 x1)).setCell ⟨sb, 2, none⟩ (.int .i64 x2)) pb nb b P ρ S A o :=
  ((h.set1 sb 0 hsb _).set1 sb 1 hsb _).set1 sb 2 hsb _
theorem St3.set1 {W : World} {tb : Nat} {y0 y1 y2 : Int} (h : St3 W tb y0 y1 y2) (sb j : Nat) (hne : tb ≠ sb) (u : Value) : St3 (W.setCell ⟨sb, j, none⟩ u) tb y0 y1 y2 := by
  unfold St3 at *
  rw [heap_set_other hne]; exact h

set_option maxRecDepth 100000 in
set_option maxHeartbeats 1000000 in
theorem local_look (pb nb b : Nat) (P : PN) (ρ : Nat → Nat × Nat) (S : RS) (A : Abs) (bb : Nat) (o : OpV) (w : World) (h : PairAt w pb nb b P ρ S A) (hk : o.kind = 5) (hm : S.paths.length ≤ 100000000) :
    Calls Tryz.prog 44 #[.pointer (some ⟨pb, 0, none⟩), .pointer (some ⟨bb, 0, none⟩), .agg #[.int .i64 o.kind, .int .i64 o.r, .int .i64 o.f, .string o.path, .string o.text, .bool o.theirs, o.pairs]] w fun e w' => e = .returned (.bool true) ∧ Below w.heap.size w w' := by
  have L0 := hide (Lcl.mk' h o)
  obtain ⟨W0, hW0⟩ : ∃ W0, w.alloc o.obj = W0 := ⟨_, rfl⟩
  rw [hW0] at L0
  unfold OpV.obj at hW0
  rw [hk] at hW0 ⊢
  have HW := hide hW0
  obtain ⟨x0, x1, x2, hV⟩ := lookV_form A o.r
  have NL : Hid (∀ V, Lcl w V pb nb b P ρ S A o → Calls Tryz.prog 86 #[.pointer (some ⟨nb, 0, none⟩), .int .i64 o.r] V fun e w' => e = .returned (.tuple #[.agg #[.int .i64 x0, .int .i64 x1, .int .i64 x2], .int .i64 (A.lookE o.r)]) ∧ Below V.heap.size V w') := by
    intro V hL
    have := netLook_any nb P A o.r V hL.pair.net
    rw [hV] at this
    exact this
  have RL : Hid (∀ V, Lcl w V pb nb b P ρ S A o → Calls Tryz.prog 87 #[.pointer (some ⟨b, 0, none⟩), .int .i64 o.r] V fun e w' => e = .returned (.tuple #[.agg #[.int .i64 x0, .int .i64 x1, .int .i64 x2], .int .i64 (A.lookE o.r)]) ∧ Below V.heap.size V w') := by
    intro V hL
    have := refLook_any b o.r ρ S A V hL.pair.ref hL.pair.inv hm
    rw [hV] at this
    exact this
  clear h hW0 hV
  go_enter Tryz.func44, Tryz.ntmps44
  go_upto_region 14 with fail
  rw [HW.out]
  clear HW
  go_cut [13, 14] (fun s13 s14 wx => ∃ sb, s13 = .pointer (some ⟨sb, 0, none⟩) ∧ s14 = .int .i64 (A.lookE o.r) ∧ Hid (Lcl w wx pb nb b P ρ S A o) ∧ Hid (St3 wx sb x0 x1 x2))
  case first =>
    have LD := hide L0.out.drew
    have LA := hide (LD.out.more ((Below.refl _ _).alloc (Nat.le_refl _) (.cells #[.int .i64 0, .int .i64 0, .int .i64 0] 166)))
    obtain ⟨s0, s1, s2, s3, s4, s5⟩ := L0.out.seen
    have hpl := L0.out.pair.plt
    have hol := L0.out.olt
    have hn1 : pb ≠ W0.heap.size := by omega
    have hn2 : w.heap.size ≠ W0.heap.size := by omega
    go_region_law (first
      | (go_simp; go_at_call 86; refine (NL.out _ (by first | exact LD.out | exact LA.out)).mono ?_; rintro e w1 ⟨rfl, hb1⟩; have L1 := hide ((by first | exact LD.out.more hb1 | exact LA.out.more hb1) : Lcl w w1 pb nb b P ρ S A o); try (have Y := keep_state hb1; have YB := hide Y.1; obtain ⟨_, y0, y1, y2, yf⟩ := Y); clear hb1; dsimp only))
    all_goals
      go_wp2_with fail
      go_meet
      first
        | exact ⟨W0.heap.size, rfl, rfl, L1.out.set3 _ hol _ _ _, St3.set YB.out _ _ _⟩
        | exact ⟨w1.heap.size, rfl, rfl, L1.out.more ((Below.refl _ _).alloc (Nat.le_refl _) _), St3.made _ _ _ _⟩
  case rest =>
    obtain ⟨sb, rfl, rfl, L1, T1⟩ := hcut
    clear L0 NL
    go_upto_region 15 with fail
    go_cut [15, 16] (fun s15 s16 wx => ∃ tb, s15 = .pointer (some ⟨tb, 0, none⟩) ∧ s16 = .int .i64 (A.lookE o.r) ∧ Hid (Lcl w wx pb nb b P ρ S A o) ∧ Hid (St3 wx sb x0 x1 x2) ∧ Hid (St3 wx tb x0 x1 x2))
    case first =>
      have LD := hide L1.out.drew
      have BA : Hid (Below wc.heap.size wc (wc.drew.alloc (.cells #[.int .i64 0, .int .i64 0, .int .i64 0] 166))) := (Below.refl _ _).drew.alloc (Nat.le_refl _) _
      have LA := hide (LD.out.more ((Below.refl _ _).alloc (Nat.le_refl _) (.cells #[.int .i64 0, .int .i64 0, .int .i64 0] 166)))
      obtain ⟨s0, s1, s2, s3, s4, s5⟩ := L1.out.seen
      have hpl := L1.out.pair.plt
      have hol := L1.out.olt
      have hsl : sb < wc.heap.size := (Array.getElem?_eq_some_iff.1 T1.out).1
      have hn1 : pb ≠ wc.heap.size := by omega
      have hn2 : w.heap.size ≠ wc.heap.size := by omega
      have hn3 : sb ≠ wc.heap.size := by omega
      go_region_law (first
        | (go_simp; go_at_call 87; refine (RL.out _ (by first | exact LD.out | exact LA.out)).mono ?_; rintro e w1 ⟨rfl, hb1⟩; have L2 := hide ((by first | exact LD.out.more hb1 | exact LA.out.more hb1) : Lcl w w1 pb nb b P ρ S A o); have T2 := hide ((by first | exact T1.out.more (Below.undrew hb1) | exact (T1.out.more BA.out).more hb1) : St3 w1 sb x0 x1 x2); try (have Y := keep_state hb1; have YB := hide Y.1; obtain ⟨_, y0, y1, y2, yf⟩ := Y); clear hb1; dsimp only))
      all_goals
        go_wp2_with fail
        go_meet
        first
          | exact ⟨wc.heap.size, rfl, rfl, L2.out.set3 _ hol _ _ _, ((T2.out.set1 _ 0 hn3 _).set1 _ 1 hn3 _).set1 _ 2 hn3 _, St3.set YB.out _ _ _⟩
          | exact ⟨w1.heap.size, rfl, rfl, L2.out.more ((Below.refl _ _).alloc (Nat.le_refl _) _), T2.out.more ((Below.refl _ _).alloc (Nat.le_refl _) _), St3.made _ _ _ _⟩
    case rest =>
      obtain ⟨tb, rfl, rfl, L3, T3, T4⟩ := hcut
      obtain ⟨a0, a1, a2⟩ := T3.out.cells
      obtain ⟨b0, b1, b2⟩ := T4.out.cells
      clear L1 T1
      go_wp2_with (go_at_call 27; refine (lnum_any _ _).mono ?_; rintro e wn ⟨rfl, rfl⟩)
      go_ret
      exact ⟨rfl, L3.out.below⟩
end

end Go.Proofs.YtaelaldmibgibaaGreatDoor
