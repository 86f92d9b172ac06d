/- list: both nets' lists, and the book takes the program's two. local: Look. -/
import Derived.Test.YtaelaldmibgibaaGreatDoorW22
import Derived.Deep.DeepCutAuto

namespace Go.Proofs.YtaelaldmibgibaaGreatDoor
open Go.RowKit

/-- a book in which all is well -/
structure Bok (w : World) (bb : Nat) (β : Nat → Nat) (B : Bk) : Prop where
  at_ : BookAt w bb β B
  ms : B.ms = B.ps.map BEnt.mark
  num : B.ps.length = 4 * B.next
theorem Bok.fr {w w' : World} {bb : Nat} {β : Nat → Nat} {B : Bk} {F : Nat → Prop} (h : Bok w bb β B) (hf : Fr F w w') (hd : ∀ k, β k ≠ 0 → ¬ F k) : Bok w' bb β B := ⟨h.at_.fr hf hd, h.ms, h.num⟩
theorem Bok.below {w w' : World} {bb : Nat} {β : Nat → Nat} {B : Bk} (h : Bok w bb β B) (hb : Below w.heap.size w w') : Bok w' bb β B := ⟨h.at_.below hb, h.ms, h.num⟩
/-- the book takes a list -/
theorem Bok.owns {w : World} {bb : Nat} {β : Nat → Nat} {B : Bk} (h : Bok w bb β B) (v : Value) (n : Nat) (xs : List Value) (hv : w.ownsRow 0 9 1 v n xs) (hfree : ∀ k, v.ownBlock = some k → β k = 0) (hn : n ≤ 1000000) (hnx : B.next < 1000000000) :
    Calls Tryz.prog 97 #[.pointer (some ⟨bb, 0, none⟩), v] w fun e w' => e = .returned (.tuple #[]) ∧ ∃ β' B', Bok w' bb β' B' ∧ B'.next = B.next + 1 ∧ Fr (fun k => β k ≠ 0 ∨ v.ownBlock = some k) w w' ∧ (∀ k, β' k ≠ 0 → β k ≠ 0 ∨ v.ownBlock = some k ∨ w.heap.size ≤ k) := by
  have hnum := h.num
  have hml : B.ms.length = B.ps.length := by rw [h.ms, List.length_map]
  refine (owns_any bb β B w h.at_ v n xs hv hfree hn (by omega) (by omega) (by omega)).mono ?_
  rintro e w' ⟨rfl, β', m, pv', mv', new, hnew, hB, hF, hG⟩
  refine ⟨rfl, β', _, ⟨hB, ?_, ?_⟩, rfl, hF, hG⟩
  · simp only [List.map_append, hnew, h.ms]
  · have : new.length = 4 := by have := congrArg List.length hnew; simpa using this
    simp only [List.length_append, this, hnum]
    omega

theorem listL_le {w : World} {nb : Nat} {P : PN} {A : Abs} (h : PNet w nb P A) (r : Int) : (A.listL r).length ≤ 20 := by
  unfold Abs.listL
  cases ho : A.out r with
  | true => simp
  | false =>
    obtain ⟨q, rfl, hq⟩ := out_nat ho
    obtain ⟨rb, mb, E, _, _, hE, hF⟩ := h.at q hq
    simp only [Bool.false_eq_true, if_false, List.length_map, Int.toNat_natCast, hF, files_length]
    exact hE.len

/-- where a value's block may lie -/
theorem row_in {w : World} {base : Nat} {e : TypeId} {size : Nat} {v : Value} {n : Nat} {xs : List Value} (h : w.ownsRow base e size v n xs) {k : Nat} (hk : v.ownBlock = some k) : base ≤ k ∧ k < w.heap.size := World.ownsRow.lt h k hk

set_option maxRecDepth 100000 in
set_option maxHeartbeats 2000000 in
theorem list_any (pb nb b : Nat) (P : PN) (ρ : Nat → Nat × Nat) (S : RS) (A : Abs) (bb : Nat) (β : Nat → Nat) (B : Bk) (r : Int) (w : World) (h : PairAt w pb nb b P ρ S A) (hB : Bok w bb β B) (hd : ∀ k, pmem pb nb P ρ k → β k = 0) (hm : S.paths.length ≤ 100000000) (hnx : B.next < 100000000) :
    Calls Tryz.prog 47 #[.pointer (some ⟨pb, 0, none⟩), .pointer (some ⟨bb, 0, none⟩), .int .i64 r] w fun e w' => e = .returned (.bool true) ∧ PairAt w' pb nb b P ρ S A ∧ ∃ β' B', Bok w' bb β' B' ∧ B'.next = B.next + 2 ∧ Fr (fun k => β k ≠ 0) w w' ∧ (∀ k, β' k ≠ 0 → β k ≠ 0 ∨ w.heap.size ≤ k) := by
  obtain ⟨s0, s1⟩ := h.cells
  have hll := listL_le h.net r
  have H := hide h
  have HB := hide hB
  have HD := hide hd
  have NL := hide (fun V (hV : Below w.heap.size w V) => netList_any nb P A r V (h.below hV).net)
  have RL := hide (fun V (hV : Below w.heap.size w V) => refList_any b r ρ S A V (h.below hV).ref h.inv hm)
  have CE := hide (fun V (hV : Below w.heap.size w V) => (h.below hV).cells)
  clear h hB hd
  generalize hL : A.listL r = L at *
  clear hL
  go_enter Tryz.func47, Tryz.ntmps47
  go_wp2_with (first
    | (go_at_call 95; refine (NL.out _ (by first | exact B1.out | exact Below.refl _ _)).mono ?_; first | (rintro e w2 ⟨v2, rfl, ho2, hb2⟩; have O2 := hide ho2; have B2 := hide (B1.out.trans (hb2.mono B1.out.size)); have B12 := hide hb2; obtain ⟨t0, t1⟩ := CE.out w2 B2.out; clear ho2 hb2))
    | (go_at_call 95; refine (NL.out _ (by first | exact Below.refl _ _)).mono ?_; rintro e w1 ⟨v1, rfl, ho1, hb1⟩; have O1 := hide ho1; have B1 := hide hb1; obtain ⟨q0, q1⟩ := CE.out w1 hb1; clear ho1 hb1)
    | (go_at_call 96; refine (RL.out _ B2.out).mono ?_; rintro e w3 ⟨v3, rfl, ho3, hb3⟩; have O3 := hide ho3; have B23 := hide hb3; clear ho3 hb3; obtain ⟨_, a1, c1, rfl, hc1⟩ := strRow_form O1.out; obtain ⟨_, a2, c2, rfl, hc2⟩ := strRow_form O2.out; obtain ⟨_, a3, c3, rfl, hc3⟩ := strRow_form O3.out; have HC1 := hide hc1; have HC2 := hide hc2; have HC3 := hide hc3; clear hc1 hc2 hc3 t0 t1 q0 q1 s0 s1)
    | (go_at_call 27; refine (lnum_any _ _).mono ?_; rintro e w3 ⟨rfl, rfl⟩))
  have CL : Hid (∀ k s, L[k]? = some s → ∃ g1 g2 g3, a1 = some ⟨g1, 0, none⟩ ∧ a2 = some ⟨g2, 0, none⟩ ∧ a3 = some ⟨g3, 0, none⟩ ∧ w3.cell? ⟨g1, k, none⟩ = some (.string s) ∧ w3.cell? ⟨g2, k, none⟩ = some (.string s) ∧ w3.cell? ⟨g3, k, none⟩ = some (.string s)) := by
    intro k s hks
    obtain ⟨g1, e1, l1, x1⟩ := HC1.out k s hks
    obtain ⟨g2, e2, l2, x2⟩ := HC2.out k s hks
    obtain ⟨g3, e3, l3, x3⟩ := HC3.out k s hks
    have z12 := B12.out.size
    refine ⟨g1, g2, g3, e1, e2, e3, ?_, ?_, x3⟩
    · exact ((B23.out.cell (p := ⟨g1, k, none⟩) (by simp only; omega)).trans (B12.out.cell (p := ⟨g1, k, none⟩) l1)).trans x1
    · exact (B23.out.cell (p := ⟨g2, k, none⟩) l2).trans x2
  clear HC1 HC2 HC3
  have B3 := hide (B2.out.trans (B23.out.mono B2.out.size))
  have fin1 : Hid (∀ V, Below w3.heap.size w3 V → Calls Tryz.prog 97 #[.pointer (some ⟨bb, 0, none⟩), .slice a1 L.length c1] V fun e w4 => e = .returned (.tuple #[]) ∧ PairAt w4 pb nb b P ρ S A ∧ Calls Tryz.prog 97 #[.pointer (some ⟨bb, 0, none⟩), .slice a2 L.length c2] w4 fun e w5 => e = .returned (.tuple #[]) ∧ PairAt w5 pb nb b P ρ S A ∧ ∃ β' B', Bok w5 bb β' B' ∧ B'.next = B.next + 2 ∧ Fr (fun k => β k ≠ 0) w w5 ∧ (∀ k, β' k ≠ 0 → β k ≠ 0 ∨ w.heap.size ≤ k)) := by
    intro V hV
    have bV := B3.out.trans (hV.mono B3.out.size)
    have z1 := B1.out.size
    have z2 := B12.out.size
    have z3 := B23.out.size
    have zV := hV.size
    have r1 : V.ownsRow w.heap.size 9 1 (.slice a1 L.length c1) L.length (svs L) := ownsRow_keep O1.out (fun k e => by
      have := (row_in O1.out e).2
      rw [hV.block k (by omega), B23.out.block k (by omega), B12.out.block k this])
    have r2 : V.ownsRow w1.heap.size 9 1 (.slice a2 L.length c2) L.length (svs L) := ownsRow_keep O2.out (fun k e => by
      have := (row_in O2.out e).2
      rw [hV.block k (by omega), B23.out.block k (by omega)])
    have hB := HB.out.below bV
    have hlt := HB.out.at_.lt
    refine (hB.owns _ _ _ (ownsRow_base r1 (fun _ _ => Nat.zero_le _)) (fun k e => ?_) (by omega) (by omega)).mono ?_
    · have := (row_in O1.out e).1
      by_cases e0 : β k = 0
      · exact e0
      · have := hlt k e0; omega
    · rintro e w4 ⟨rfl, β', B', hB', hn', hF', hG'⟩
      have hP4 : PairAt w4 pb nb b P ρ S A := (H.out.below bV).fr hF' (fun k hk e => by
        rcases e with e | e
        · exact e (HD.out k hk)
        · have := (row_in O1.out e).1
          have := H.out.lt hk
          omega)
      refine ⟨rfl, hP4, ?_⟩
      have r2' : w4.ownsRow w1.heap.size 9 1 (.slice a2 L.length c2) L.length (svs L) := ownsRow_keep r2 (fun k e => by
        have q1 := row_in O2.out e
        refine hF'.block k (by omega) (fun e' => ?_)
        rcases e' with e' | e'
        · have := hlt k e'; omega
        · have := (row_in O1.out e').2; omega)
      refine (hB'.owns _ _ _ (ownsRow_base r2' (fun _ _ => Nat.zero_le _)) (fun k e => ?_) (by omega) (by omega)).mono ?_
      · have q1 := row_in O2.out e
        by_cases e0 : β' k = 0
        · exact e0
        · rcases hG' k e0 with q | q | q
          · have := hlt k q; omega
          · have := (row_in O1.out q).2; omega
          · omega
      · rintro e w5 ⟨rfl, β2, B2', hB2, hn2, hF2, hG2⟩
        have hin2 : ∀ k, β' k ≠ 0 ∨ (Value.slice a2 L.length c2).ownBlock = some k → β k ≠ 0 ∨ w.heap.size ≤ k := fun k e => by
          rcases e with e | e
          · rcases hG' k e with q | q | q
            · exact .inl q
            · right; exact (row_in O1.out q).1
            · right; omega
          · right; have := (row_in O2.out e).1; omega
        refine ⟨rfl, hP4.fr hF2 (fun k hk e => ?_), β2, B2', hB2, by omega, ?_, fun k hk => ?_⟩
        · have h1 := HD.out k hk
          have h2 := H.out.lt hk
          rcases hin2 k e with q | q
          · exact q h1
          · omega
        · have f1 : Fr (fun k => β k ≠ 0) w V := Fr.of_below bV
          have f2 : Fr (fun k => β k ≠ 0) w w4 := f1.trans' hF' (fun i hi e => by
            rcases e with e | e
            · exact e
            · have := (row_in O1.out e).1; omega)
          exact f2.trans' hF2 (fun i hi e => by
            rcases hin2 i e with q | q
            · exact q
            · omega)
        · rcases hG2 k hk with q | q | q
          · exact hin2 k (.inl q)
          · exact hin2 k (.inr q)
          · right; have := hF'.size; omega
  clear O1 O2 O3 B1 B12 B2 B23 HB HD NL RL CE H
  go_loopw [13, 14] (fun sv iv wr => sv = .bool true ∧ ∃ i : Nat, i ≤ L.length ∧ iv = .int .i64 i ∧ ∃ nq, wr = w3.drewN nq) (fun _ iv _ => L.length - (intOf iv).toNat)
  case atStart => exact ⟨rfl, 0, Nat.zero_le _, rfl, 0, rfl⟩
  case round =>
    obtain ⟨rfl, i, hi, rfl, nq, rfl⟩ := hrel
    by_cases hlt : i < L.length
    · obtain ⟨g1, g2, g3, rfl, rfl, rfl, x1, x2, x3⟩ := CL.out i L[i] (List.getElem?_eq_getElem hlt)
      generalize L[i] = s at x1 x2 x3
      go_wp2
      go_quiet (fail)
      go_wp2
      go_roundw
      case rel => exact ⟨by simp, i + 1, by omega, by go_num, _, rfl⟩
      case measure => simp [intOf]; omega
    · have ei : i = L.length := by omega
      subst ei
      go_wp2_with (first
        | (go_at_call 97; refine C4.out.mono ?_; rintro e w5 ⟨rfl, hP5, hR5⟩; have P5 := hide hP5; have R5 := hide hR5; clear hP5 hR5)
        | (go_at_call 97; refine (fin1.out _ (by exact ⟨rfl, rfl, rfl, Nat.le_refl _, fun _ _ => rfl⟩)).mono ?_; rintro e w4 ⟨rfl, _, hC⟩; have C4 := hide hC; clear hC))
      go_ret
      exact ⟨rfl, P5.out, R5.out⟩

end Go.Proofs.YtaelaldmibgibaaGreatDoor

namespace Go.Proofs.YtaelaldmibgibaaGreatDoor
open Go.RowKit

theorem lookV_form (A : Abs) (r : Int) : ∃ x0 x1 x2 : Int, A.lookV r = .agg #[.int .i64 x0, .int .i64 x1, .int .i64 x2] := by
  unfold Abs.lookV
  split
  · exact ⟨_, _, _, rfl⟩
  · exact ⟨_, _, _, rfl⟩

theorem keep_state {W0 w1 : World} (hb : Below (W0.drew.alloc (.cells #[.int .i64 0, .int .i64 0, .int .i64 0] 166)).heap.size (W0.drew.alloc (.cells #[.int .i64 0, .int .i64 0, .int .i64 0] 166)) w1) :
    w1.heap[W0.heap.size]? = some (.cells #[.int .i64 0, .int .i64 0, .int .i64 0] 166 (0, 0)) ∧ w1.cell? ⟨W0.heap.size, 0, none⟩ = some (.int .i64 0) ∧ w1.cell? ⟨W0.heap.size, 1, none⟩ = some (.int .i64 0) ∧ w1.cell? ⟨W0.heap.size, 2, none⟩ = some (.int .i64 0) ∧ (∀ j, w1.frozen? ⟨W0.heap.size, j, none⟩ = false) := by
  have e : w1.heap[W0.heap.size]? = some (.cells #[.int .i64 0, .int .i64 0, .int .i64 0] 166 (0, 0)) := by
    rw [hb.block W0.heap.size (by simp)]
    exact heap_alloc_new W0.drew _
  exact ⟨e, by simp [World.cell?, e], by simp [World.cell?, e], by simp [World.cell?, e], fun j => by simp [World.frozen?, e]⟩
/-- a struct of three numbers in a block -/
def St3 (W : World) (sb : Nat) (x0 x1 x2 : Int) : Prop := W.heap[sb]? = some (.cells #[.int .i64 x0, .int .i64 x1, .int .i64 x2] 166 (0, 0))
theorem St3.made (W : World) (x0 x1 x2 : Int) : St3 (W.alloc (.cells #[.int .i64 x0, .int .i64 x1, .int .i64 x2] 166)) W.heap.size x0 x1 x2 := heap_alloc_new _ _
theorem St3.set {W : World} {sb : Nat} (h : W.heap[sb]? = some (.cells #[.int .i64 0, .int .i64 0, .int .i64 0] 166 (0, 0))) (x0 x1 x2 : Int) : St3 (((W.setCell ⟨sb, 0, none⟩ (.int .i64 x0)).setCell ⟨sb, 1, none⟩ (.int .i64 x1)).setCell ⟨sb, 2, none⟩ (.int .i64 x2)) sb x0 x1 x2 := by
  have h1 := heap_setCell_same W sb 0 _ _ (.int .i64 x0) h
  have h2 := heap_setCell_same _ sb 1 _ _ (.int .i64 x1) h1
  have h3 := heap_setCell_same _ sb 2 _ _ (.int .i64 x2) h2
  unfold St3
  simpa using h3
theorem St3.cells {W : World} {sb : Nat} {x0 x1 x2 : Int} (h : St3 W sb x0 x1 x2) : W.cell? ⟨sb, 0, none⟩ = some (.int .i64 x0) ∧ W.cell? ⟨sb, 1, none⟩ = some (.int .i64 x1) ∧ W.cell? ⟨sb, 2, none⟩ = some (.int .i64 x2) := by
  have h0 : W.heap[sb]? = some (.cells #[.int .i64 x0, .int .i64 x1, .int .i64 x2] 166 (0, 0)) := h
  exact ⟨by simp [World.cell?, h0], by simp [World.cell?, h0], by simp [World.cell?, h0]⟩
theorem St3.more {W V : World} {sb : Nat} {x0 x1 x2 : Int} (h : St3 W sb x0 x1 x2) (hb : Below W.heap.size W V) : St3 V sb x0 x1 x2 := by
  unfold St3 at *
  rw [hb.block sb (Array.getElem?_eq_some_iff.1 h).1]; exact h

section
variable {w w' w1 w2 : World} {pb nb b : Nat} {P : PN} {ρ ρ' : Nat → Nat × Nat} {S S' : RS} {A A' : Abs}

theorem Lcl.set1 {W : World} {o : OpV} (h : Lcl w W pb nb b P ρ S A o) (sb j : Nat) (hsb : w.heap.size < sb) (u : Value) : Lcl w (W.setCell ⟨sb, j, none⟩ u) pb nb b P ρ S A o :=
  ⟨h.below.setCell (by simp only; omega) u, h.pair.keep (by simp [World.setCell]) (fun k hk => heap_set_other (by have := h.old.lt hk; simp only; omega)), h.old, by rw [heap_set_other (by simp only; omega)]; exact h.op⟩
theorem Lcl.set3 {W : World} {o : OpV} (h : Lcl w W pb nb b P ρ S A o) (sb : Nat) (hsb : w.heap.size < sb) (x0 x1 x2 : Int) : Lcl w (((W.setCell ⟨sb, 0, none⟩ (.int .i64 x0)).setCell ⟨sb, 1, none⟩ (.int .i64 x1)).setCell ⟨sb, 2, none⟩ (.int .i64 x2)) pb nb b P ρ S A o :=
  ((h.set1 sb 0 hsb _).set1 sb 1 hsb _).set1 sb 2 hsb _
theorem St3.set1 {W : World} {tb : Nat} {y0 y1 y2 : Int} (h : St3 W tb y0 y1 y2) (sb j : Nat) (hne : tb ≠ sb) (u : Value) : St3 (W.setCell ⟨sb, j, none⟩ u) tb y0 y1 y2 := by
  unfold St3 at *
  rw [heap_set_other hne]; exact h

set_option maxRecDepth 100000 in
set_option maxHeartbeats 1000000 in
theorem local_look (pb nb b : Nat) (P : PN) (ρ : Nat → Nat × Nat) (S : RS) (A : Abs) (bb : Nat) (o : OpV) (w : World) (h : PairAt w pb nb b P ρ S A) (hk : o.kind = 5) (hm : S.paths.length ≤ 100000000) :
    Calls Tryz.prog 44 #[.pointer (some ⟨pb, 0, none⟩), .pointer (some ⟨bb, 0, none⟩), .agg #[.int .i64 o.kind, .int .i64 o.r, .int .i64 o.f, .string o.path, .string o.text, .bool o.theirs, o.pairs]] w fun e w' => e = .returned (.bool true) ∧ Below w.heap.size w w' := by
  have L0 := hide (Lcl.mk' h o)
  obtain ⟨W0, hW0⟩ : ∃ W0, w.alloc o.obj = W0 := ⟨_, rfl⟩
  rw [hW0] at L0
  unfold OpV.obj at hW0
  rw [hk] at hW0 ⊢
  have HW := hide hW0
  obtain ⟨x0, x1, x2, hV⟩ := lookV_form A o.r
  have NL : Hid (∀ V, Lcl w V pb nb b P ρ S A o → Calls Tryz.prog 86 #[.pointer (some ⟨nb, 0, none⟩), .int .i64 o.r] V fun e w' => e = .returned (.tuple #[.agg #[.int .i64 x0, .int .i64 x1, .int .i64 x2], .int .i64 (A.lookE o.r)]) ∧ Below V.heap.size V w') := by
    intro V hL
    have := netLook_any nb P A o.r V hL.pair.net
    rw [hV] at this
    exact this
  have RL : Hid (∀ V, Lcl w V pb nb b P ρ S A o → Calls Tryz.prog 87 #[.pointer (some ⟨b, 0, none⟩), .int .i64 o.r] V fun e w' => e = .returned (.tuple #[.agg #[.int .i64 x0, .int .i64 x1, .int .i64 x2], .int .i64 (A.lookE o.r)]) ∧ Below V.heap.size V w') := by
    intro V hL
    have := refLook_any b o.r ρ S A V hL.pair.ref hL.pair.inv hm
    rw [hV] at this
    exact this
  clear h hW0 hV
  go_enter Tryz.func44, Tryz.ntmps44
  go_upto_region 14 with fail
  rw [HW.out]
  clear HW
  go_cut [13, 14] (fun s13 s14 wx => ∃ sb, s13 = .pointer (some ⟨sb, 0, none⟩) ∧ s14 = .int .i64 (A.lookE o.r) ∧ Hid (Lcl w wx pb nb b P ρ S A o) ∧ Hid (St3 wx sb x0 x1 x2))
  case first =>
    have LD := hide L0.out.drew
    have LA := hide (LD.out.more ((Below.refl _ _).alloc (Nat.le_refl _) (.cells #[.int .i64 0, .int .i64 0, .int .i64 0] 166)))
    obtain ⟨s0, s1, s2, s3, s4, s5⟩ := L0.out.seen
    have hpl := L0.out.pair.plt
    have hol := L0.out.olt
    have hn1 : pb ≠ W0.heap.size := by omega
    have hn2 : w.heap.size ≠ W0.heap.size := by omega
    go_region_law (first
      | (go_simp; go_at_call 86; refine (NL.out _ (by first | exact LD.out | exact LA.out)).mono ?_; rintro e w1 ⟨rfl, hb1⟩; have L1 := hide ((by first | exact LD.out.more hb1 | exact LA.out.more hb1) : Lcl w w1 pb nb b P ρ S A o); try (have Y := keep_state hb1; have YB := hide Y.1; obtain ⟨_, y0, y1, y2, yf⟩ := Y); clear hb1; dsimp only))
    all_goals
      go_wp2_with fail
      go_meet
      first
        | exact ⟨W0.heap.size, rfl, rfl, L1.out.set3 _ hol _ _ _, St3.set YB.out _ _ _⟩
        | exact ⟨w1.heap.size, rfl, rfl, L1.out.more ((Below.refl _ _).alloc (Nat.le_refl _) _), St3.made _ _ _ _⟩
  case rest =>
    obtain ⟨sb, rfl, rfl, L1, T1⟩ := hcut
    clear L0 NL
    go_upto_region 15 with fail
    go_cut [15, 16] (fun s15 s16 wx => ∃ tb, s15 = .pointer (some ⟨tb, 0, none⟩) ∧ s16 = .int .i64 (A.lookE o.r) ∧ Hid (Lcl w wx pb nb b P ρ S A o) ∧ Hid (St3 wx sb x0 x1 x2) ∧ Hid (St3 wx tb x0 x1 x2))
    case first =>
      have LD := hide L1.out.drew
      have BA : Hid (Below wc.heap.size wc (wc.drew.alloc (.cells #[.int .i64 0, .int .i64 0, .int .i64 0] 166))) := (Below.refl _ _).drew.alloc (Nat.le_refl _) _
      have LA := hide (LD.out.more ((Below.refl _ _).alloc (Nat.le_refl _) (.cells #[.int .i64 0, .int .i64 0, .int .i64 0] 166)))
      obtain ⟨s0, s1, s2, s3, s4, s5⟩ := L1.out.seen
      have hpl := L1.out.pair.plt
      have hol := L1.out.olt
      have hsl : sb < wc.heap.size := (Array.getElem?_eq_some_iff.1 T1.out).1
      have hn1 : pb ≠ wc.heap.size := by omega
      have hn2 : w.heap.size ≠ wc.heap.size := by omega
      have hn3 : sb ≠ wc.heap.size := by omega
      go_region_law (first
        | (go_simp; go_at_call 87; refine (RL.out _ (by first | exact LD.out | exact LA.out)).mono ?_; rintro e w1 ⟨rfl, hb1⟩; have L2 := hide ((by first | exact LD.out.more hb1 | exact LA.out.more hb1) : Lcl w w1 pb nb b P ρ S A o); have T2 := hide ((by first | exact T1.out.more (Below.undrew hb1) | exact (T1.out.more BA.out).more hb1) : St3 w1 sb x0 x1 x2); try (have Y := keep_state hb1; have YB := hide Y.1; obtain ⟨_, y0, y1, y2, yf⟩ := Y); clear hb1; dsimp only))
      all_goals
        go_wp2_with fail
        go_meet
        first
          | exact ⟨wc.heap.size, rfl, rfl, L2.out.set3 _ hol _ _ _, ((T2.out.set1 _ 0 hn3 _).set1 _ 1 hn3 _).set1 _ 2 hn3 _, St3.set YB.out _ _ _⟩
          | exact ⟨w1.heap.size, rfl, rfl, L2.out.more ((Below.refl _ _).alloc (Nat.le_refl _) _), T2.out.more ((Below.refl _ _).alloc (Nat.le_refl _) _), St3.made _ _ _ _⟩
    case rest =>
      obtain ⟨tb, rfl, rfl, L3, T3, T4⟩ := hcut
      obtain ⟨a0, a1, a2⟩ := T3.out.cells
      obtain ⟨b0, b1, b2⟩ := T4.out.cells
      clear L1 T1
      go_wp2_with (go_at_call 27; refine (lnum_any _ _).mono ?_; rintro e wn ⟨rfl, rfl⟩)
      go_ret
      exact ⟨rfl, L3.out.below⟩
end

end Go.Proofs.YtaelaldmibgibaaGreatDoor
