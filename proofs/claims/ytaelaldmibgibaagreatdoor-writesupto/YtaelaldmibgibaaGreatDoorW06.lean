/- The law's book: Decimal; append to a list all of whose elements are one mark. -/
import Derived.Test.YtaelaldmibgibaaGreatDoorW01

set_option linter.unusedVariables false
set_option linter.unusedSimpArgs false

namespace Go.Proofs.YtaelaldmibgibaaGreatDoor
open Go.RowKit

theorem digit_size (n : Nat) : (({ data := #[48, 49, 50, 51, 52, 53, 54, 55, 56, 57] } : ByteArray).extract (n % 10) (n % 10 + 1)).size ≤ 1 := by
  rw [ByteArray.size_extract]
  omega

set_option maxHeartbeats 400000 in
theorem Decimal_any : ∀ (k n : Nat), n < 10 ^ (k + 1) → k ≤ 17 → ∀ w : World,
    Calls Tryz.prog 54 #[.int .i64 n] w fun e w' => ∃ d : ByteArray, e = .returned (.string d) ∧ d.size ≤ k + 1 ∧ w' = w := by
  intro k
  induction k with
  | zero =>
    intro n hn _ w
    have h1 : (0 : Int) ≤ (n : Int) % 10 := by omega
    go_enter Tryz.func54, Tryz.ntmps54
    go_wp2
    go_ret
    exact ⟨_, rfl, digit_size n, rfl⟩
  | succ k ih =>
    intro n hn hk w
    by_cases h10 : n < 10
    · have h1 : (0 : Int) ≤ (n : Int) % 10 := by omega
      have h2 : (n : Int) < 10 := by omega
      go_enter Tryz.func54, Tryz.ntmps54
      go_wp2
      go_ret
      exact ⟨_, rfl, Nat.le_trans (digit_size n) (by omega), rfl⟩
    · have h1 : (0 : Int) ≤ (n : Int) % 10 := by omega
      have h2 : ¬ (n : Int) < 10 := by omega
      have hq : n / 10 < 10 ^ (k + 1) := by
        have e : 10 ^ (k + 1 + 1) = 10 ^ (k + 1) * 10 := Nat.pow_succ _ _
        omega
      have IH := hide (ih (n / 10) hq (by omega) w)
      have hmax : 10 ^ (k + 1 + 1) ≤ 10 ^ 19 := Nat.pow_le_pow_right (by omega) (by omega)
      clear ih hn
      go_enter Tryz.func54, Tryz.ntmps54
      go_wp2_with (go_at_call 54; refine IH.out.mono ?_; rintro e w' ⟨d, rfl, hd, rfl⟩)
      go_ret
      refine ⟨_, rfl, ?_, rfl⟩
      have := digit_size n
      rw [ByteArray.size_append]
      omega

/-- all of a list's elements are the mark -/
def marks (n : Nat) (m : ByteArray) : List Value := List.replicate n (.string m)
/-- what an append of marks to a list of marks may have turned -/
structure Marked (w w' : World) (v : Value) (m : ByteArray) : Prop where
  grow : w.grownBy w' v.ownBlock
  cell : ∀ g i, v.ownBlock = some g → g < w.heap.size → w'.cell? ⟨g, i, none⟩ = w.cell? ⟨g, i, none⟩ ∨ w'.cell? ⟨g, i, none⟩ = some (.string m)
  blk : ∀ g cur e, v.ownBlock = some g → w.heap[g]? = some (.cells cur e (0, 0)) → ∃ cur', w'.heap[g]? = some (.cells cur' e (0, 0)) ∧ cur'.size = cur.size

theorem add_lit0 (k q : Nat) : (⟨k, 0, none⟩ : Addr).add q = ⟨k, q, none⟩ := by unfold Addr.add; split <;> simp_all
theorem past_row (l ms : List Value) (n j i : Nat) (hl : n + j ≤ l.length) (hm : ms.length = j) (hi : n + j ≤ i) : (l.take n ++ ms ++ l.drop (n + j))[i]? = l[i]? := by
  rw [List.getElem?_append_right (by simp; omega)]
  simp only [List.length_append, List.length_take, List.getElem?_drop]
  congr 1
  omega

theorem run_app_marks (w : World) (ty : TypeId) (base : Nat) (v : Value) (n : Nat) (m : ByteArray) (hown : w.ownsRow base 9 1 v n (marks n m)) (k j c : Nat) (hj : 0 < j) (hnews : ∀ i, i < j → w.cell? ⟨k, i, none⟩ = some (.string m)) (hn : n + j ≤ 1000000000000) (hb : base ≤ w.heap.size) :
    ∃ g cap w', (Builtin.append_ #[25, 25] ty #[v, .slice (some ⟨k, 0, none⟩) j c]).run Tryz.prog w = .ok (.slice (some ⟨g, 0, none⟩) (n + j) cap) w' ∧ Marked w w' v m ∧ (∀ i, i < n + j → w'.cell? ⟨g, i, none⟩ = some (.string m)) ∧ (v.ownBlock = some g ∨ g = w.heap.size) ∧ g < w'.heap.size ∧ w'.ownsRow base 9 1 v n (marks n m) := by
  obtain ⟨i0, hi, hz0, hz1, hz2⟩ := info_parts info_string
  have hnw : ∀ q u, (marks j m)[q]? = some u → w.cell? ((⟨k, 0, none⟩ : Addr).add q) = some u := by
    intro q u hq
    unfold marks at hq
    rw [List.getElem?_replicate] at hq
    split at hq
    · cases hq
      rw [add_lit0]
      exact hnews q (by assumption)
    · cases hq
  have h1c : ∀ u ∈ marks j m, u.oneCell' = true := by
    intro u hu
    rw [(List.mem_replicate.1 hu).2]
    rfl
  have hlj : (marks j m).length = j * 1 := by simp [marks]
  obtain ⟨g, cap, w', hr, h2, h3, h4, h5⟩ := run_append_lies (P := Tryz.prog) w 25 ty base 9 i0 _ 1 16 Tryz.underlying25 hi hz0 hz1 hz2 rfl (by decide) v n (marks n m) hown ⟨k, 0, none⟩ j c (marks j m) hlj hnw h1c hj (by unfold maxLen; omega) (by omega) hb w.heap.size rfl
  have hall : ∀ i, i < n + j → w'.cell? ⟨g, i, none⟩ = some (.string m) := by
    intro i hi'
    rw [World.ownsRow.cellAt h2 i (by omega)]
    unfold marks
    rw [List.replicate_append_replicate, List.getElem?_replicate, if_pos hi']
  refine ⟨g, cap, w', hr, ?_, hall, h4, h5, ?_⟩
  · refine ⟨h3, ?_, ?_⟩
    · intro q i hq hqs
      rcases hown.2 with ⟨rfl, _⟩ | ⟨g', cap', cur, rfl, hbg, hg, hnc, hcm, hcs, htake⟩
      · cases hq
      · cases hq
        simp only at hqs
        by_cases hroom : n + j ≤ cap'
        · have hfit : n * i0.size + (marks j m).length ≤ cur.size := by rw [hlj, hcs, hz1]; omega
          have hr' := run_append_room (P := Tryz.prog) w 25 ty 9 i0 Tryz.underlying25 hi g' n cap' cur hg ⟨k, 0, none⟩ j c (marks j m) (by rw [hlj, hz1]) hnw h1c hroom hfit
          rw [hr] at hr'
          injection hr' with hA hW
          injection hA with hA1 hA2 hA3
          injection hA1 with hA1
          injection hA1 with hA1
          subst hA1
          by_cases hi' : i < n + j
          · exact .inr (hall i hi')
          · left
            rw [hW]
            have hrow := setRow_heap w g cur (cur.toList.take (n * i0.size) ++ marks j m ++ cur.toList.drop (n * i0.size + (marks j m).length)).toArray _ _ hg
            have hp := past_row cur.toList (marks j m) n j i (by simp; omega) (by simp [marks]) (by omega)
            have e1 : n * i0.size = n := by rw [hz1]; omega
            have e2 : n * i0.size + (marks j m).length = n + j := by rw [hlj, hz1]; omega
            rw [e1] at hrow
            rw [hlj, Nat.mul_one] at hrow
            rw [e1, hlj, Nat.mul_one]
            simp only [World.cell?, hrow, hg]
            simp only [List.getElem?_toArray, hp, Array.getElem?_toList]
        · have holds : ∀ q u, (marks n m)[q]? = some u → w.cell? ((⟨g', 0, none⟩ : Addr).add q) = some u := hown.cells (g := g') rfl
          have hr' := run_append_grow (P := Tryz.prog) w 25 ty 9 i0 _ Tryz.underlying25 hi hz0 ⟨g', 0, none⟩ n cap' (marks n m) (by rw [hz1]; exact hown.1) holds ⟨k, 0, none⟩ j c (marks j m) (by rw [hlj, hz1]) hnw (by omega) (by omega) (growslice_fits (by omega) (by rw [hz2]; omega))
          rw [hr] at hr'
          injection hr' with hA hW
          left
          rw [hW]
          exact World.cell?_of_block (w := w) (heap_alloc_old w.drew _ hqs)
    · intro q cur0 e0 hq hqb
      rcases hown.2 with ⟨rfl, _⟩ | ⟨g', cap', cur, rfl, hbg, hg, hnc, hcm, hcs, htake⟩
      · cases hq
      · cases hq
        simp only at hqb
        rw [hg] at hqb
        cases hqb
        by_cases hroom : n + j ≤ cap'
        · have hfit : n * i0.size + (marks j m).length ≤ cur0.size := by rw [hlj, hcs, hz1]; omega
          have hr' := run_append_room (P := Tryz.prog) w 25 ty 9 i0 Tryz.underlying25 hi g' n cap' cur0 hg ⟨k, 0, none⟩ j c (marks j m) (by rw [hlj, hz1]) hnw h1c hroom hfit
          rw [hr] at hr'
          injection hr' with hA hW
          refine ⟨_, by rw [hW]; exact setRow_heap w g' cur0 _ _ _ hg, ?_⟩
          simp only [List.size_toArray, List.length_append, List.length_take, List.length_drop, Array.length_toList]
          omega
        · have holds : ∀ q u, (marks n m)[q]? = some u → w.cell? ((⟨g', 0, none⟩ : Addr).add q) = some u := hown.cells (g := g') rfl
          have hr' := run_append_grow (P := Tryz.prog) w 25 ty 9 i0 _ Tryz.underlying25 hi hz0 ⟨g', 0, none⟩ n cap' (marks n m) (by rw [hz1]; exact hown.1) holds ⟨k, 0, none⟩ j c (marks j m) (by rw [hlj, hz1]) hnw (by omega) (by omega) (growslice_fits (by omega) (by rw [hz2]; omega))
          rw [hr] at hr'
          injection hr' with hA hW
          refine ⟨cur0, ?_, rfl⟩
          rw [hW]
          exact (heap_alloc_old w.drew _ (Array.getElem?_eq_some_iff.1 hg).1).trans hg
  · refine ⟨hown.1, ?_⟩
    rcases hown.2 with h0 | ⟨g', cap', cur, rfl, hbg, hg, hnc, hcm, hcs, htake⟩
    · exact .inl h0
    · by_cases hroom : n + j ≤ cap'
      · have hfit : n * i0.size + (marks j m).length ≤ cur.size := by rw [hlj, hcs, hz1]; omega
        have hr' := run_append_room (P := Tryz.prog) w 25 ty 9 i0 Tryz.underlying25 hi g' n cap' cur hg ⟨k, 0, none⟩ j c (marks j m) (by rw [hlj, hz1]) hnw h1c hroom hfit
        rw [hr] at hr'
        injection hr' with hA hW
        refine .inr ⟨g', cap', _, rfl, hbg, by rw [hW]; exact setRow_heap w g' cur _ _ _ hg, hnc, hcm, ?_, ?_⟩
        · simp only [List.size_toArray, List.length_append, List.length_take, List.length_drop, Array.length_toList]
          omega
        · have e1 : n * i0.size = n := by rw [hz1]; omega
          rw [e1, List.append_assoc]
          simp only [Nat.mul_one] at htake ⊢
          rw [← htake]
          have hcl : n ≤ cur.toList.length := by simp; omega
          rw [List.take_append_of_le_length (by simp; omega), List.take_take, Nat.min_self]
      · have holds : ∀ q u, (marks n m)[q]? = some u → w.cell? ((⟨g', 0, none⟩ : Addr).add q) = some u := hown.cells (g := g') rfl
        have hr' := run_append_grow (P := Tryz.prog) w 25 ty 9 i0 _ Tryz.underlying25 hi hz0 ⟨g', 0, none⟩ n cap' (marks n m) (by rw [hz1]; exact hown.1) holds ⟨k, 0, none⟩ j c (marks j m) (by rw [hlj, hz1]) hnw (by omega) (by omega) (growslice_fits (by omega) (by rw [hz2]; omega))
        rw [hr] at hr'
        injection hr' with hA hW
        exact .inr ⟨g', cap', cur, rfl, hbg, by rw [hW]; exact (heap_alloc_old w.drew _ (Array.getElem?_eq_some_iff.1 hg).1).trans hg, hnc, hcm, hcs, htake⟩

end Go.Proofs.YtaelaldmibgibaaGreatDoor
