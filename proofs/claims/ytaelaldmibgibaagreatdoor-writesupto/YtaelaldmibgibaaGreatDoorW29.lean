/- list: both nets' lists, and the book takes the program's two. -/
import Derived.Test.YtaelaldmibgibaaGreatDoorW28

set_option linter.unusedVariables false
set_option linter.unusedSimpArgs false

namespace Go.Proofs.YtaelaldmibgibaaGreatDoor
open Go.RowKit

/-- a book in which all is well -/
structure Bok (w : World) (bb : Nat) (β : Nat → Nat) (B : Bk) : Prop where
  at_ : BookAt w bb β B
  ms : B.ms = B.ps.map BEnt.mark
  num : B.ps.length = 4 * B.next
theorem Bok.fr {w w' : World} {bb : Nat} {β : Nat → Nat} {B : Bk} {F : Nat → Prop} (h : Bok w bb β B) (hf : Fr F w w') (hd : ∀ k, β k ≠ 0 → ¬ F k) : Bok w' bb β B := ⟨h.at_.fr hf hd, h.ms, h.num⟩
theorem Bok.below {w w' : World} {bb : Nat} {β : Nat → Nat} {B : Bk} (h : Bok w bb β B) (hb : Below w.heap.size w w') : Bok w' bb β B := ⟨h.at_.below hb, h.ms, h.num⟩
/-- the book takes a list -/
theorem Bok.owns {w : World} {bb : Nat} {β : Nat → Nat} {B : Bk} (h : Bok w bb β B) (v : Value) (n : Nat) (xs : List Value) (hv : w.ownsRow 0 9 1 v n xs) (hfree : ∀ k, v.ownBlock = some k → β k = 0) (hn : n ≤ 1000000) (hnx : B.next < 1000000000) :
    Calls Tryz.prog 97 #[.pointer (some ⟨bb, 0, none⟩), v] w fun e w' => e = .returned (.tuple #[]) ∧ ∃ β' B', Bok w' bb β' B' ∧ B'.next = B.next + 1 ∧ Fr (fun k => β k ≠ 0 ∨ v.ownBlock = some k) w w' ∧ (∀ k, β' k ≠ 0 → β k ≠ 0 ∨ v.ownBlock = some k ∨ w.heap.size ≤ k) := by
  have hnum := h.num
  have hml : B.ms.length = B.ps.length := by rw [h.ms, List.length_map]
  refine (owns_any bb β B w h.at_ v n xs hv hfree hn (by omega) (by omega) (by omega)).mono ?_
  rintro e w' ⟨rfl, β', m, pv', mv', new, hnew, hB, hF, hG⟩
  refine ⟨rfl, β', _, ⟨hB, ?_, ?_⟩, rfl, hF, hG⟩
  · simp only [List.map_append, hnew, h.ms]
  · have : new.length = 4 := by have := congrArg List.length hnew; simpa using this
    simp only [List.length_append, this, hnum]
    omega

theorem listL_le {w : World} {nb : Nat} {P : PN} {A : Abs} (h : PNet w nb P A) (r : Int) : (A.listL r).length ≤ 20 := by
  unfold Abs.listL
  cases ho : A.out r with
  | true => simp
  | false =>
    obtain ⟨q, rfl, hq⟩ := out_nat ho
    obtain ⟨rb, mb, E, _, _, hE, hF⟩ := h.at q hq
    simp only [Bool.false_eq_true, if_false, List.length_map, Int.toNat_natCast, hF, files_length]
    exact hE.len

/-- where a value's block may lie -/
theorem row_in {w : World} {base : Nat} {e : TypeId} {size : Nat} {v : Value} {n : Nat} {xs : List Value} (h : w.ownsRow base e size v n xs) {k : Nat} (hk : v.ownBlock = some k) : base ≤ k ∧ k < w.heap.size := World.ownsRow.lt h k hk

set_option maxRecDepth 100000 in
set_option maxHeartbeats 2000000 in
theorem list_any (pb nb b : Nat) (P : PN) (ρ : Nat → Nat × Nat) (S : RS) (A : Abs) (bb : Nat) (β : Nat → Nat) (B : Bk) (r : Int) (w : World) (h : PairAt w pb nb b P ρ S A) (hB : Bok w bb β B) (hd : ∀ k, pmem pb nb P ρ k → β k = 0) (hm : S.paths.length ≤ 100000000) (hnx : B.next < 100000000) :
    Calls Tryz.prog 47 #[.pointer (some ⟨pb, 0, none⟩), .pointer (some ⟨bb, 0, none⟩), .int .i64 r] w fun e w' => e = .returned (.bool true) ∧ PairAt w' pb nb b P ρ S A ∧ ∃ β' B', Bok w' bb β' B' ∧ B'.next = B.next + 2 ∧ Fr (fun k => β k ≠ 0) w w' ∧ (∀ k, β' k ≠ 0 → β k ≠ 0 ∨ w.heap.size ≤ k) := by
  obtain ⟨s0, s1⟩ := h.cells
  have hll := listL_le h.net r
  have H := hide h
  have HB := hide hB
  have HD := hide hd
  have NL := hide (fun V (hV : Below w.heap.size w V) => netList_any nb P A r V (h.below hV).net)
  have RL := hide (fun V (hV : Below w.heap.size w V) => refList_any b r ρ S A V (h.below hV).ref h.inv hm)
  have CE := hide (fun V (hV : Below w.heap.size w V) => (h.below hV).cells)
  clear h hB hd
  generalize hL : A.listL r = L at *
  clear hL
  go_enter Tryz.func47, Tryz.ntmps47
  go_wp2_with (first
    | (go_at_call 95; refine (NL.out _ (by first | exact B1.out | exact Below.refl _ _)).mono ?_; first | (rintro e w2 ⟨v2, rfl, ho2, hb2⟩; have O2 := hide ho2; have B2 := hide (B1.out.trans (hb2.mono B1.out.size)); have B12 := hide hb2; obtain ⟨t0, t1⟩ := CE.out w2 B2.out; clear ho2 hb2))
    | (go_at_call 95; refine (NL.out _ (by first | exact Below.refl _ _)).mono ?_; rintro e w1 ⟨v1, rfl, ho1, hb1⟩; have O1 := hide ho1; have B1 := hide hb1; obtain ⟨q0, q1⟩ := CE.out w1 hb1; clear ho1 hb1)
    | (go_at_call 96; refine (RL.out _ B2.out).mono ?_; rintro e w3 ⟨v3, rfl, ho3, hb3⟩; have O3 := hide ho3; have B23 := hide hb3; clear ho3 hb3; obtain ⟨_, a1, c1, rfl, hc1⟩ := strRow_form O1.out; obtain ⟨_, a2, c2, rfl, hc2⟩ := strRow_form O2.out; obtain ⟨_, a3, c3, rfl, hc3⟩ := strRow_form O3.out; have HC1 := hide hc1; have HC2 := hide hc2; have HC3 := hide hc3; clear hc1 hc2 hc3 t0 t1 q0 q1 s0 s1)
    | (go_at_call 27; refine (lnum_any _ _).mono ?_; rintro e w3 ⟨rfl, rfl⟩))
  have CL : Hid (∀ k s, L[k]? = some s → ∃ g1 g2 g3, a1 = some ⟨g1, 0, none⟩ ∧ a2 = some ⟨g2, 0, none⟩ ∧ a3 = some ⟨g3, 0, none⟩ ∧ w3.cell? ⟨g1, k, none⟩ = some (.string s) ∧ w3.cell? ⟨g2, k, none⟩ = some (.string s) ∧ w3.cell? ⟨g3, k, none⟩ = some (.string s)) := by
    intro k s hks
    obtain ⟨g1, e1, l1, x1⟩ := HC1.out k s hks
    obtain ⟨g2, e2, l2, x2⟩ := HC2.out k s hks
    obtain ⟨g3, e3, l3, x3⟩ := HC3.out k s hks
    have z12 := B12.out.size
    refine ⟨g1, g2, g3, e1, e2, e3, ?_, ?_, x3⟩
    · exact ((B23.out.cell (p := ⟨g1, k, none⟩) (by simp only; omega)).trans (B12.out.cell (p := ⟨g1, k, none⟩) l1)).trans x1
    · exact (B23.out.cell (p := ⟨g2, k, none⟩) l2).trans x2
  clear HC1 HC2 HC3
  have B3 := hide (B2.out.trans (B23.out.mono B2.out.size))
  have fin1 : Hid (∀ V, Below w3.heap.size w3 V → Calls Tryz.prog 97 #[.pointer (some ⟨bb, 0, none⟩), .slice a1 L.length c1] V fun e w4 => e = .returned (.tuple #[]) ∧ PairAt w4 pb nb b P ρ S A ∧ Calls Tryz.prog 97 #[.pointer (some ⟨bb, 0, none⟩), .slice a2 L.length c2] w4 fun e w5 => e = .returned (.tuple #[]) ∧ PairAt w5 pb nb b P ρ S A ∧ ∃ β' B', Bok w5 bb β' B' ∧ B'.next = B.next + 2 ∧ Fr (fun k => β k ≠ 0) w w5 ∧ (∀ k, β' k ≠ 0 → β k ≠ 0 ∨ w.heap.size ≤ k)) := by
    intro V hV
    have bV := B3.out.trans (hV.mono B3.out.size)
    have z1 := B1.out.size
    have z2 := B12.out.size
    have z3 := B23.out.size
    have zV := hV.size
    have r1 : V.ownsRow w.heap.size 9 1 (.slice a1 L.length c1) L.length (svs L) := ownsRow_keep O1.out (fun k e => by
      have := (row_in O1.out e).2
      rw [hV.block k (by omega), B23.out.block k (by omega), B12.out.block k this])
    have r2 : V.ownsRow w1.heap.size 9 1 (.slice a2 L.length c2) L.length (svs L) := ownsRow_keep O2.out (fun k e => by
      have := (row_in O2.out e).2
      rw [hV.block k (by omega), B23.out.block k (by omega)])
    have hB := HB.out.below bV
    have hlt := HB.out.at_.lt
    refine (hB.owns _ _ _ (ownsRow_base r1 (fun _ _ => Nat.zero_le _)) (fun k e => ?_) (by omega) (by omega)).mono ?_
    · have := (row_in O1.out e).1
      by_cases e0 : β k = 0
      · exact e0
      · have := hlt k e0; omega
    · rintro e w4 ⟨rfl, β', B', hB', hn', hF', hG'⟩
      have hP4 : PairAt w4 pb nb b P ρ S A := (H.out.below bV).fr hF' (fun k hk e => by
        rcases e with e | e
        · exact e (HD.out k hk)
        · have := (row_in O1.out e).1
          have := H.out.lt hk
          omega)
      refine ⟨rfl, hP4, ?_⟩
      have r2' : w4.ownsRow w1.heap.size 9 1 (.slice a2 L.length c2) L.length (svs L) := ownsRow_keep r2 (fun k e => by
        have q1 := row_in O2.out e
        refine hF'.block k (by omega) (fun e' => ?_)
        rcases e' with e' | e'
        · have := hlt k e'; omega
        · have := (row_in O1.out e').2; omega)
      refine (hB'.owns _ _ _ (ownsRow_base r2' (fun _ _ => Nat.zero_le _)) (fun k e => ?_) (by omega) (by omega)).mono ?_
      · have q1 := row_in O2.out e
        by_cases e0 : β' k = 0
        · exact e0
        · rcases hG' k e0 with q | q | q
          · have := hlt k q; omega
          · have := (row_in O1.out q).2; omega
          · omega
      · rintro e w5 ⟨rfl, β2, B2', hB2, hn2, hF2, hG2⟩
        have hin2 : ∀ k, β' k ≠ 0 ∨ (Value.slice a2 L.length c2).ownBlock = some k → β k ≠ 0 ∨ w.heap.size ≤ k := fun k e => by
          rcases e with e | e
          · rcases hG' k e with q | q | q
            · exact .inl q
            · right; exact (row_in O1.out q).1
            · right; omega
          · right; have := (row_in O2.out e).1; omega
        refine ⟨rfl, hP4.fr hF2 (fun k hk e => ?_), β2, B2', hB2, by omega, ?_, fun k hk => ?_⟩
        · have h1 := HD.out k hk
          have h2 := H.out.lt hk
          rcases hin2 k e with q | q
          · exact q h1
          · omega
        · have f1 : Fr (fun k => β k ≠ 0) w V := Fr.of_below bV
          have f2 : Fr (fun k => β k ≠ 0) w w4 := f1.trans' hF' (fun i hi e => by
            rcases e with e | e
            · exact e
            · have := (row_in O1.out e).1; omega)
          exact f2.trans' hF2 (fun i hi e => by
            rcases hin2 i e with q | q
            · exact q
            · omega)
        · rcases hG2 k hk with q | q | q
          · exact hin2 k (.inl q)
          · exact hin2 k (.inr q)
          · right; have := hF'.size; omega
  clear O1 O2 O3 B1 B12 B2 B23 HB HD NL RL CE H
  go_loopw [13, 14] (fun sv iv wr => sv = .bool true ∧ ∃ i : Nat, i ≤ L.length ∧ iv = .int .i64 i ∧ ∃ nq, wr = w3.drewN nq) (fun _ iv _ => L.length - (intOf iv).toNat)
  case atStart => exact ⟨rfl, 0, Nat.zero_le _, rfl, 0, rfl⟩
  case round =>
    obtain ⟨rfl, i, hi, rfl, nq, rfl⟩ := hrel
    by_cases hlt : i < L.length
    · obtain ⟨g1, g2, g3, rfl, rfl, rfl, x1, x2, x3⟩ := CL.out i L[i] (List.getElem?_eq_getElem hlt)
      generalize L[i] = s at x1 x2 x3
      go_wp2
      go_quiet (fail)
      go_wp2
      go_roundw
      case rel => exact ⟨by simp, i + 1, by omega, by go_num, _, rfl⟩
      case measure => simp [intOf]; omega
    · have ei : i = L.length := by omega
      subst ei
      go_wp2_with (first
        | (go_at_call 97; refine C4.out.mono ?_; rintro e w5 ⟨rfl, hP5, hR5⟩; have P5 := hide hP5; have R5 := hide hR5; clear hP5 hR5)
        | (go_at_call 97; refine (fin1.out _ (by exact ⟨rfl, rfl, rfl, Nat.le_refl _, fun _ _ => rfl⟩)).mono ?_; rintro e w4 ⟨rfl, _, hC⟩; have C4 := hide hC; clear hC))
      go_ret
      exact ⟨rfl, P5.out, R5.out⟩

end Go.Proofs.YtaelaldmibgibaaGreatDoor
