/- plays: the script; Writes. -/
import Derived.Test.YtaelaldmibgibaaGreatDoorW33

set_option linter.unusedVariables false
set_option linter.unusedSimpArgs false

namespace Go.Proofs.YtaelaldmibgibaaGreatDoor
open Go.RowKit

/-- a step of the script in memory -/
structure OpAt (w : World) (ad : Addr) (i : Nat) (o : OpV) : Prop where
  lt : ad.block < w.heap.size
  c0 : w.cell? (ad.add (i * 7)) = some (.int .i64 o.kind)
  c1 : w.cell? (ad.add (i * 7 + 1)) = some (.int .i64 o.r)
  c2 : w.cell? (ad.add (i * 7 + 2)) = some (.int .i64 o.f)
  c3 : w.cell? (ad.add (i * 7 + 3)) = some (.string o.path)
  c4 : w.cell? (ad.add (i * 7 + 4)) = some (.string o.text)
  c5 : w.cell? (ad.add (i * 7 + 5)) = some (.bool o.theirs)
  c6 : w.cell? (ad.add (i * 7 + 6)) = some o.pairs
  pairs : ∃ a n c, o.pairs = .slice a n c
  hp : o.path.size ≤ 1000000000
  ht : o.text.size ≤ 1000000000
theorem add_block' (ad : Addr) (k : Nat) : (ad.add k).block = ad.block := by unfold Addr.add; split <;> rfl
theorem add_next (ad : Addr) (k j : Nat) (hj : j ≠ 0) : ad.add (k + j) = ⟨(ad.add k).block, (ad.add k).off + j, none⟩ := by
  by_cases hk : k = 0
  · subst hk
    simp [Addr.add, hj]
  · have h1 : k + j ≠ 0 := by omega
    simp [Addr.add, hk, Nat.add_assoc]
theorem OpAt.below {w w' : World} {ad : Addr} {i : Nat} {o : OpV} (h : OpAt w ad i o) (hb : Below w.heap.size w w') : OpAt w' ad i o := by
  have e : ∀ k, w'.cell? (ad.add k) = w.cell? (ad.add k) := fun k => hb.cell (by rw [add_block']; exact h.lt)
  exact ⟨Nat.lt_of_lt_of_le h.lt hb.size, (e _).trans h.c0, (e _).trans h.c1, (e _).trans h.c2, (e _).trans h.c3, (e _).trans h.c4, (e _).trans h.c5, (e _).trans h.c6, h.pairs, h.hp, h.ht⟩

/-- an empty book -/
theorem book_new (w : World) : Bok (w.alloc (.cells #[.slice none 0 0, .slice none 0 0, .slice none 0 0, .slice none 0 0, .int .i64 0] 60)) w.heap.size (fun k => if k = w.heap.size then 1 else 0) ⟨.slice none 0 0, .slice none 0 0, [], [], 0⟩ := by
  refine ⟨⟨heap_alloc_new _ _, World.ownsRow_nil _ _ _ _, World.ownsRow_nil _ _ _ _, fun e he => (by cases he), (by simp), fun k hk => (by cases hk), fun k hk => (by cases hk), fun k hk => ?_⟩, rfl, rfl⟩
  by_cases e : k = w.heap.size
  · subst e; simp
  · simp [e] at hk

theorem rel_two {w0 w1 w2 : World} {p1 n1 b1 : Nat} {P1 : PN} {ρ1 : Nat → Nat × Nat} {S1 : RS} {A1 : Abs} {p2 n2 b2 : Nat} {P2 : PN} {ρ2 : Nat → Nat × Nat} {S2 : RS} {A2 : Abs}
    (h1 : PairAt w1 p1 n1 b1 P1 ρ1 S1 A1) (e1 : S1.paths = []) (l1 : ∀ k, pmem p1 n1 P1 ρ1 k → w0.heap.size ≤ k) (hb1 : Below w0.heap.size w0 w1)
    (h2 : PairAt w2 p2 n2 b2 P2 ρ2 S2 A2) (e2 : S2.paths = []) (l2 : ∀ k, pmem p2 n2 P2 ρ2 k → w1.heap.size ≤ k) (hb2 : Below w1.heap.size w1 w2) :
    Rel w0 (w2.alloc (.cells #[.slice none 0 0, .slice none 0 0, .slice none 0 0, .slice none 0 0, .int .i64 0] 60)) (.pointer (some ⟨p1, 0, none⟩)) (.pointer (some ⟨p2, 0, none⟩)) w2.heap.size 0 := by
  have hz1 := hb1.size
  have hz2 := hb2.size
  have hb3 : Below w2.heap.size w2 (w2.alloc (.cells #[.slice none 0 0, .slice none 0 0, .slice none 0 0, .slice none 0 0, .int .i64 0] 60)) := (Below.refl _ _).alloc (Nat.le_refl _) _
  have h1' := (h1.below hb2).below hb3
  have h2' := h2.below hb3
  refine ⟨⟨p1, n1, b1, P1, ρ1, S1, A1⟩, ⟨p2, n2, b2, P2, ρ2, S2, A2⟩, _, _, rfl, rfl, .inl ⟨⟨⟨h1', by simp only; rw [e1]; exact Nat.le_refl _, fun q hq => (by simp only at hq; rw [e1] at hq; cases hq), l1⟩, ⟨book_new w2, Nat.le_refl _, fun k hk => ?_⟩, fun k hk => ?_, (hb1.trans (hb2.mono hz1)).trans (hb3.mono (by omega))⟩, ⟨h2', by simp only; rw [e2]; exact Nat.le_refl _, fun q hq => (by simp only at hq; rw [e2] at hq; cases hq), fun k hk => by have := l2 k hk; omega⟩, fun k hk => ?_, fun k hk he => ?_⟩⟩
  · by_cases e : k = w2.heap.size
    · omega
    · simp [e] at hk
  · have := h1.lt hk
    exact if_neg (by omega)
  · have := h2.lt hk
    exact if_neg (by omega)
  · have := h1.lt hk
    have := l2 k he
    omega
theorem rel_one {w0 w2 : World} {p2 n2 b2 : Nat} {P2 : PN} {ρ2 : Nat → Nat × Nat} {S2 : RS} {A2 : Abs}
    (h2 : PairAt w2 p2 n2 b2 P2 ρ2 S2 A2) (e2 : S2.paths = []) (l2 : ∀ k, pmem p2 n2 P2 ρ2 k → w0.heap.size ≤ k) (hb2 : Below w0.heap.size w0 w2) :
    Rel w0 (w2.alloc (.cells #[.slice none 0 0, .slice none 0 0, .slice none 0 0, .slice none 0 0, .int .i64 0] 60)) (.pointer (some ⟨p2, 0, none⟩)) (.pointer (some ⟨p2, 0, none⟩)) w2.heap.size 0 := by
  have hz2 := hb2.size
  have hb3 : Below w2.heap.size w2 (w2.alloc (.cells #[.slice none 0 0, .slice none 0 0, .slice none 0 0, .slice none 0 0, .int .i64 0] 60)) := (Below.refl _ _).alloc (Nat.le_refl _) _
  refine ⟨⟨p2, n2, b2, P2, ρ2, S2, A2⟩, ⟨p2, n2, b2, P2, ρ2, S2, A2⟩, _, _, rfl, rfl, .inr ⟨rfl, ⟨⟨h2.below hb3, by simp only; rw [e2]; exact Nat.le_refl _, fun q hq => (by simp only at hq; rw [e2] at hq; cases hq), l2⟩, ⟨book_new w2, Nat.le_refl _, fun k hk => ?_⟩, fun k hk => ?_, hb2.trans (hb3.mono hz2)⟩⟩⟩
  · by_cases e : k = w2.heap.size
    · omega
    · simp [e] at hk
  · have := h2.lt hk
    exact if_neg (by omega)

set_option maxRecDepth 100000 in
set_option maxHeartbeats 2000000 in
theorem plays_any (n : Int) (a : Option Addr) (len cap : Nat) (w : World) (hlen : len ≤ 1048576) (hops : ∀ i, i < len → ∃ ad o, a = some ad ∧ OpAt w ad i o) :
    Calls Tryz.prog 10 #[.int .i64 n, .slice a len cap, .int .i64 6] w fun e w' => e = .returned (.bool true) ∧ Below w.heap.size w w' := by
  have HO := hide hops
  clear hops
  by_cases hn : n < 1 ∨ 6 < n
  · have C1 := hide (begun_bad n w hn)
    have C2 := hide (begun_ok 3 w (by omega) (by omega))
    clear hn
    go_enter Tryz.func10, Tryz.ntmps10
    go_wp2_with (first
      | (go_at_call 11; have F2 := F1; refine C2.out.mono ?_; rintro e w2 ⟨p2, n2, b2, P2, ρ2, S2, rfl, hP2, hS2, hl2, hb2⟩; have RL := hide (rel_one hP2 hS2 hl2 hb2); clear hP2 hS2 hl2 hb2)
      | (go_at_call 11; refine C1.out.mono ?_; rintro e w ⟨rfl, rfl⟩; have F1 := hide True.intro))
    clear C1 C2
    generalize w2.alloc (.cells #[.slice none 0 0, .slice none 0 0, .slice none 0 0, .slice none 0 0, .int .i64 0] 60) = W at *
    generalize w2.heap.size = bb at *
    go_loopw [7, 8, 9, 12] (fun pv okv qv iv wr => okv = .bool true ∧ ∃ i : Nat, i ≤ len ∧ iv = .int .i64 i ∧ Hid (Rel w wr pv qv bb i)) (fun _ _ _ iv _ => len - (intOf iv).toNat)
    case atStart => exact ⟨rfl, 0, Nat.zero_le _, rfl, RL⟩
    case round =>
      obtain ⟨rfl, i, hi, rfl, RI⟩ := hrel
      by_cases hlt : i < len
      · obtain ⟨ad, o, rfl, hO⟩ := HO.out i hlt
        obtain ⟨_, c0, c1, c2, c3, c4, c5, c6, ⟨qa, qn, qc, eq⟩, hp, ht⟩ := hO.below RI.out.under
        rw [eq] at c6
        rw [add_next _ _ _ (by decide)] at c1 c2 c3 c4 c5 c6
        have RA := hide (fun ob => RI.out.below ((Below.refl _ _).alloc (Nat.le_refl _) ob))
        clear hO
        by_cases h6 : o.kind = 6
        · rw [h6] at c0
          go_wp2_with (go_at_call 23; refine (Rel.looks (RA.out _).swap (by omega)).mono ?_; rintro e w5 ⟨rfl, R5r⟩; have R5 := hide (R5r.mono (Nat.le_succ i)); clear R5r)
          go_roundw
          case rel => exact ⟨rfl, i + 1, by omega, by go_num, R5⟩
          case measure => simp [intOf]; omega
        · by_cases h5 : o.kind ≤ 5
          · have d6 : (o.kind == 6) = false := by simp [h6]
            have d6' : decide (o.kind = 6) = false := by simp [h6]
            have d7 : decide (o.kind ≤ 6) = true := by simp; omega
            have RS := hide (fun ob => Rel.step (RA.out ob) (by omega) o h5 hp ht)
            rw [eq] at RS
            clear eq
            go_wp2_with (first
              | (go_at_call 22; refine (RS.out _).mono ?_; rintro e w4 ⟨rfl, R4r⟩; have R4 := hide R4r; clear R4r)
              | (go_at_call 23; refine (Rel.looks R4.out (by omega)).mono ?_; rintro e w5 ⟨rfl, R5r⟩; have R5 := hide R5r; clear R5r))
            go_roundw
            case rel => exact ⟨rfl, i + 1, by omega, by go_num, R5⟩
            case measure => simp [intOf]; omega
          · have d6 : (o.kind == 6) = false := by simp [h6]
            have d6' : decide (o.kind = 6) = false := by simp [h6]
            have d7 : decide (o.kind ≤ 6) = false := by simp; omega
            go_wp2_with (go_at_call 23; refine (Rel.looks (RA.out _) (by omega)).mono ?_; rintro e w5 ⟨rfl, R5r⟩; have R5 := hide (R5r.mono (Nat.le_succ i)); clear R5r)
            go_roundw
            case rel => exact ⟨rfl, i + 1, by omega, by go_num, R5⟩
            case measure => simp [intOf]; omega
      · have ei : i = len := by omega
        subst ei
        go_wp2_with (first
          | (go_at_call 24; refine (Rel.asked R5.out.swap (by omega)).mono ?_; rintro e w6 ⟨rfl, R6r⟩; have R6 := hide R6r; clear R6r)
          | (go_at_call 24; refine (Rel.asked RI.out (by omega)).mono ?_; rintro e w5 ⟨rfl, R5r⟩; have R5 := hide R5r; clear R5r))
        go_ret
        exact ⟨rfl, R6.out.under⟩
  · have C1 := hide (begun_ok n.toNat w (by omega) (by omega))
    rw [Int.toNat_of_nonneg (by omega)] at C1
    have C2 := hide (fun V => begun_ok 3 V (by omega) (by omega))
    clear hn
    go_enter Tryz.func10, Tryz.ntmps10
    go_wp2_with (first
      | (go_at_call 11; refine (C2.out w1).mono ?_; rintro e w2 ⟨p2, n2, b2, P2, ρ2, S2, rfl, hP2, hS2, hl2, hb2⟩; have RL := hide (rel_two HP1.out.1 HP1.out.2.1 HP1.out.2.2.1 HP1.out.2.2.2 hP2 hS2 hl2 hb2); clear hP2 hS2 hl2 hb2)
      | (go_at_call 11; refine C1.out.mono ?_; rintro e w1 ⟨p1, n1, b1, P1, ρ1, S1, rfl, hP1, hS1, hl1, hb1⟩; have HP1 := hide (And.intro hP1 (And.intro hS1 (And.intro hl1 hb1))); clear hP1 hS1 hl1 hb1))
    clear C1 C2 HP1
    generalize w2.alloc (.cells #[.slice none 0 0, .slice none 0 0, .slice none 0 0, .slice none 0 0, .int .i64 0] 60) = W at *
    generalize w2.heap.size = bb at *
    go_loopw [7, 8, 9, 12] (fun pv okv qv iv wr => okv = .bool true ∧ ∃ i : Nat, i ≤ len ∧ iv = .int .i64 i ∧ Hid (Rel w wr pv qv bb i)) (fun _ _ _ iv _ => len - (intOf iv).toNat)
    case atStart => exact ⟨rfl, 0, Nat.zero_le _, rfl, RL⟩
    case round =>
      obtain ⟨rfl, i, hi, rfl, RI⟩ := hrel
      by_cases hlt : i < len
      · obtain ⟨ad, o, rfl, hO⟩ := HO.out i hlt
        obtain ⟨_, c0, c1, c2, c3, c4, c5, c6, ⟨qa, qn, qc, eq⟩, hp, ht⟩ := hO.below RI.out.under
        rw [eq] at c6
        rw [add_next _ _ _ (by decide)] at c1 c2 c3 c4 c5 c6
        have RA := hide (fun ob => RI.out.below ((Below.refl _ _).alloc (Nat.le_refl _) ob))
        clear hO
        by_cases h6 : o.kind = 6
        · rw [h6] at c0
          go_wp2_with (go_at_call 23; refine (Rel.looks (RA.out _).swap (by omega)).mono ?_; rintro e w5 ⟨rfl, R5r⟩; have R5 := hide (R5r.mono (Nat.le_succ i)); clear R5r)
          go_roundw
          case rel => exact ⟨rfl, i + 1, by omega, by go_num, R5⟩
          case measure => simp [intOf]; omega
        · by_cases h5 : o.kind ≤ 5
          · have d6 : (o.kind == 6) = false := by simp [h6]
            have d6' : decide (o.kind = 6) = false := by simp [h6]
            have d7 : decide (o.kind ≤ 6) = true := by simp; omega
            have RS := hide (fun ob => Rel.step (RA.out ob) (by omega) o h5 hp ht)
            rw [eq] at RS
            clear eq
            go_wp2_with (first
              | (go_at_call 22; refine (RS.out _).mono ?_; rintro e w4 ⟨rfl, R4r⟩; have R4 := hide R4r; clear R4r)
              | (go_at_call 23; refine (Rel.looks R4.out (by omega)).mono ?_; rintro e w5 ⟨rfl, R5r⟩; have R5 := hide R5r; clear R5r))
            go_roundw
            case rel => exact ⟨rfl, i + 1, by omega, by go_num, R5⟩
            case measure => simp [intOf]; omega
          · have d6 : (o.kind == 6) = false := by simp [h6]
            have d6' : decide (o.kind = 6) = false := by simp [h6]
            have d7 : decide (o.kind ≤ 6) = false := by simp; omega
            go_wp2_with (go_at_call 23; refine (Rel.looks (RA.out _) (by omega)).mono ?_; rintro e w5 ⟨rfl, R5r⟩; have R5 := hide (R5r.mono (Nat.le_succ i)); clear R5r)
            go_roundw
            case rel => exact ⟨rfl, i + 1, by omega, by go_num, R5⟩
            case measure => simp [intOf]; omega
      · have ei : i = len := by omega
        subst ei
        go_wp2_with (first
          | (go_at_call 24; refine (Rel.asked R5.out.swap (by omega)).mono ?_; rintro e w6 ⟨rfl, R6r⟩; have R6 := hide R6r; clear R6r)
          | (go_at_call 24; refine (Rel.asked RI.out (by omega)).mono ?_; rintro e w5 ⟨rfl, R5r⟩; have R5 := hide R5r; clear R5r))
        go_ret
        exact ⟨rfl, R6.out.under⟩

set_option maxHeartbeats 400000 in
theorem writes_walk (n : Int) (a : Option Addr) (len cap : Nat) (w : World) (hlen : len ≤ 1048576) (hops : ∀ i, i < len → ∃ ad o, a = some ad ∧ OpAt w ad i o) :
    Calls Tryz.prog 3 #[.int .i64 n, .slice a len cap] w fun e w' => e = .returned (.bool true) ∧ Below w.heap.size w w' := by
  have C := hide (plays_any n a len cap w hlen hops)
  clear hops
  go_enter Tryz.func3, Tryz.ntmps3
  go_wp2_with (go_at_call 10; refine C.out.mono ?_; rintro e w1 ⟨rfl, hb⟩; have HB := hide hb; clear hb)
  go_ret
  exact ⟨rfl, HB.out⟩

end Go.Proofs.YtaelaldmibgibaaGreatDoor
