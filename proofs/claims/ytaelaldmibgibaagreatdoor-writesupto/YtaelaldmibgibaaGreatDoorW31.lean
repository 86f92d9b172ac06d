/- local of whatever kind; step. -/
import Derived.Test.YtaelaldmibgibaaGreatDoorW30

set_option linter.unusedVariables false
set_option linter.unusedSimpArgs false

namespace Go.Proofs.YtaelaldmibgibaaGreatDoor
open Go.RowKit

/-- what a step leaves of a pair and of the book -/
structure Stp (w w' : World) (pb nb b : Nat) (P : PN) (ρ : Nat → Nat × Nat) (S : RS) (bb : Nat) (β : Nat → Nat) (B : Bk) (ρ' : Nat → Nat × Nat) (S' : RS) (A' : Abs) (β' : Nat → Nat) (B' : Bk) : Prop where
  pair : PairAt w' pb nb b P ρ' S' A'
  book : Bok w' bb β' B'
  dis : ∀ k, pmem pb nb P ρ' k → β' k = 0
  fr : Fr (fun k => pmem pb nb P ρ k ∨ β k ≠ 0) w w'
  grow : Grow w ρ ρ'
  growB : ∀ k, β' k ≠ 0 → β k ≠ 0 ∨ w.heap.size ≤ k
  len : S'.paths.length ≤ S.paths.length + 1
  next : B'.next ≤ B.next + 2
  sub : ∀ q ∈ S'.paths, q ∈ S.paths ∨ pathOk q = true

section
variable {w w' W : World} {pb nb b : Nat} {P : PN} {ρ ρ' : Nat → Nat × Nat} {S S' : RS} {A A' : Abs} {bb : Nat} {β β' : Nat → Nat} {B B' : Bk}

theorem Stp.ofDone (hB : Bok w bb β B) (h : PairAt w pb nb b P ρ S A) (hd : ∀ k, pmem pb nb P ρ k → β k = 0) (hD : Done w w' pb nb b P ρ S ρ' S' A') : Stp w w' pb nb b P ρ S bb β B ρ' S' A' β B := by
  refine ⟨hD.pair, hB.fr hD.fr (fun k hk e => hk (hd k e)), fun k hk => ?_, hD.fr.mono (fun k _ e => .inl e), hD.grow, fun k hk => .inl hk, hD.len, by omega, hD.sub⟩
  by_cases e0 : β k = 0
  · exact e0
  · have hlt := hB.at_.lt k e0
    rcases hk with rfl | hk | hk
    · exact hd _ (.inl rfl)
    · exact hd _ (.inr (.inl hk))
    · rcases hD.grow k hk with q | q
      · exact hd _ (.inr (.inr q))
      · omega
theorem Stp.ofBelow (hB : Bok w bb β B) (h : PairAt w pb nb b P ρ S A) (hd : ∀ k, pmem pb nb P ρ k → β k = 0) (hb : Below w.heap.size w w') : Stp w w' pb nb b P ρ S bb β B ρ S A β B :=
  ⟨h.below hb, hB.below hb, hd, Fr.of_below hb, Grow.refl _ _, fun k hk => .inl hk, by omega, by omega, fun q hq => .inl hq⟩
theorem Stp.back (hb : Below w.heap.size w W) (hS : Stp W w' pb nb b P ρ S bb β B ρ' S' A' β' B') : Stp w w' pb nb b P ρ S bb β B ρ' S' A' β' B' := by
  have hz := hb.size
  refine ⟨hS.pair, hS.book, hS.dis, (Fr.of_below hb).trans' hS.fr (fun _ _ e => e), fun k hk => ?_, fun k hk => ?_, hS.len, hS.next, hS.sub⟩
  · rcases hS.grow k hk with q | q
    · exact .inl q
    · right; omega
  · rcases hS.growB k hk with q | q
    · exact .inl q
    · right; omega

set_option maxRecDepth 100000 in
set_option maxHeartbeats 1000000 in
theorem local_list (pb nb b : Nat) (P : PN) (ρ : Nat → Nat × Nat) (S : RS) (A : Abs) (bb : Nat) (β : Nat → Nat) (B : Bk) (o : OpV) (w : World) (h : PairAt w pb nb b P ρ S A) (hB : Bok w bb β B) (hd : ∀ k, pmem pb nb P ρ k → β k = 0) (hk : o.kind = 4) (hm : S.paths.length ≤ 100000000) (hnx : B.next < 100000000) :
    Calls Tryz.prog 44 #[.pointer (some ⟨pb, 0, none⟩), .pointer (some ⟨bb, 0, none⟩), .agg #[.int .i64 o.kind, .int .i64 o.r, .int .i64 o.f, .string o.path, .string o.text, .bool o.theirs, o.pairs]] w fun e w' => e = .returned (.bool true) ∧ ∃ β' B', Stp w w' pb nb b P ρ S bb β B ρ S A β' B' := by
  have L0 := hide (Lcl.mk' h o)
  obtain ⟨W0, hW0⟩ : ∃ W0, w.alloc o.obj = W0 := ⟨_, rfl⟩
  rw [hW0] at L0
  unfold OpV.obj at hW0
  rw [hk] at hW0 ⊢
  have HW := hide hW0
  have LI := hide (list_any pb nb b P ρ S A bb β B o.r W0 L0.out.pair (hB.below L0.out.below) hd hm hnx)
  have HD := hide hd
  clear h hW0 hB hd
  go_enter Tryz.func44, Tryz.ntmps44
  go_wp2_with fail
  rw [HW.out]
  refine LI.out.mono ?_
  rintro e w1 ⟨rfl, hP, β', B', hB', hn, hF, hG⟩
  have ST : Hid (∃ β' B', Stp w w1 pb nb b P ρ S bb β B ρ S A β' B') := by
    refine ⟨β', B', Stp.back L0.out.below ⟨hP, hB', fun k hk => ?_, hF.mono (fun k _ e => .inr e), Grow.refl _ _, hG, by omega, by omega, fun q hq => .inl hq⟩⟩
    by_cases e0 : β' k = 0
    · exact e0
    · rcases hG k e0 with q | q
      · exact absurd (HD.out k hk) q
      · have := L0.out.pair.lt hk; omega
  clear hP hB' hn hF hG
  go_wp2
  go_ret
  exact ⟨rfl, ST.out⟩

theorem local_any (pb nb b : Nat) (P : PN) (ρ : Nat → Nat × Nat) (S : RS) (A : Abs) (bb : Nat) (β : Nat → Nat) (B : Bk) (o : OpV) (w : World) (h : PairAt w pb nb b P ρ S A) (hB : Bok w bb β B) (hd : ∀ k, pmem pb nb P ρ k → β k = 0) (h1 : 1 ≤ o.kind) (h5 : o.kind ≤ 5) (hp : o.path.size ≤ 1000000000) (ht : o.text.size ≤ 1000000000) (hm : S.paths.length ≤ 100000000) (hnx : B.next < 100000000) :
    Calls Tryz.prog 44 #[.pointer (some ⟨pb, 0, none⟩), .pointer (some ⟨bb, 0, none⟩), .agg #[.int .i64 o.kind, .int .i64 o.r, .int .i64 o.f, .string o.path, .string o.text, .bool o.theirs, o.pairs]] w fun e w' => e = .returned (.bool true) ∧ ∃ ρ' S' A' β' B', Stp w w' pb nb b P ρ S bb β B ρ' S' A' β' B' := by
  have hk : o.kind = 1 ∨ o.kind = 2 ∨ o.kind = 3 ∨ o.kind = 4 ∨ o.kind = 5 := by omega
  rcases hk with hk | hk | hk | hk | hk
  · refine (local_write pb nb b P ρ S A bb o w h hk hp ht hm).mono ?_
    rintro e w' ⟨rfl, ρ', S', hD⟩
    exact ⟨rfl, ρ', S', _, β, B, Stp.ofDone hB h hd hD⟩
  · refine (local_remove pb nb b P ρ S A bb o w h hk hp hm).mono ?_
    rintro e w' ⟨rfl, ρ', S', hD⟩
    exact ⟨rfl, ρ', S', _, β, B, Stp.ofDone hB h hd hD⟩
  · refine (local_read pb nb b P ρ S A bb o w h hk hp hm).mono ?_
    rintro e w' ⟨rfl, ρ', S', hD⟩
    exact ⟨rfl, ρ', S', _, β, B, Stp.ofDone hB h hd hD⟩
  · refine (local_list pb nb b P ρ S A bb β B o w h hB hd hk hm hnx).mono ?_
    rintro e w' ⟨rfl, β', B', hS⟩
    exact ⟨rfl, ρ, S, A, β', B', hS⟩
  · refine (local_look pb nb b P ρ S A bb o w h hk hm).mono ?_
    rintro e w' ⟨rfl, hb⟩
    exact ⟨rfl, ρ, S, A, β, B, Stp.ofBelow hB h hd hb⟩

theorem op_cells {W : World} {ob : Nat} {o : OpV} (h : W.heap[ob]? = some o.obj) : W.cell? ⟨ob, 0, none⟩ = some (.int .i64 o.kind) ∧ W.cell? ⟨ob, 1, none⟩ = some (.int .i64 o.r) ∧ W.cell? ⟨ob, 2, none⟩ = some (.int .i64 o.f) ∧ W.cell? ⟨ob, 3, none⟩ = some (.string o.path) ∧ W.cell? ⟨ob, 4, none⟩ = some (.string o.text) ∧ W.cell? ⟨ob, 5, none⟩ = some (.bool o.theirs) ∧ W.cell? ⟨ob, 6, none⟩ = some o.pairs := by
  refine ⟨?_, ?_, ?_, ?_, ?_, ?_, ?_⟩ <;> (simp only [World.cell?, h, OpV.obj]; rfl)

set_option maxRecDepth 100000 in
set_option maxHeartbeats 1000000 in
theorem step_any (pb nb b : Nat) (P : PN) (ρ : Nat → Nat × Nat) (S : RS) (A : Abs) (bb : Nat) (β : Nat → Nat) (B : Bk) (o : OpV) (w : World) (h : PairAt w pb nb b P ρ S A) (hB : Bok w bb β B) (hd : ∀ k, pmem pb nb P ρ k → β k = 0) (h5 : o.kind ≤ 5) (hp : o.path.size ≤ 1000000000) (ht : o.text.size ≤ 1000000000) (hm : S.paths.length ≤ 100000000) (hnx : B.next < 100000000) :
    Calls Tryz.prog 22 #[.pointer (some ⟨pb, 0, none⟩), .pointer (some ⟨bb, 0, none⟩), .agg #[.int .i64 o.kind, .int .i64 o.r, .int .i64 o.f, .string o.path, .string o.text, .bool o.theirs, o.pairs]] w fun e w' => e = .returned (.bool true) ∧ ∃ ρ' S' A' β' B', Stp w w' pb nb b P ρ S bb β B ρ' S' A' β' B' := by
  have L0 := hide (Lcl.mk' h o)
  obtain ⟨W0, hW0⟩ : ∃ W0, w.alloc o.obj = W0 := ⟨_, rfl⟩
  rw [hW0] at L0
  unfold OpV.obj at hW0
  have HW := hide hW0
  by_cases h1 : 1 ≤ o.kind
  · have LO := hide (local_any pb nb b P ρ S A bb β B o W0 L0.out.pair (hB.below L0.out.below) hd h1 h5 hp ht hm hnx)
    have d1 : decide (1 ≤ o.kind) = true := by simp [h1]
    have d2 : decide (o.kind ≤ 5) = true := by simp [h5]
    clear h hW0 hB hd
    go_enter Tryz.func22, Tryz.ntmps22
    go_wp2_with fail
    rw [HW.out]
    refine LO.out.mono ?_
    rintro e w1 ⟨rfl, ρ', S', A', β', B', hS⟩
    have ST : Hid (∃ ρ' S' A' β' B', Stp w w1 pb nb b P ρ S bb β B ρ' S' A' β' B') := ⟨ρ', S', A', β', B', Stp.back L0.out.below hS⟩
    clear hS
    go_wp2
    go_ret
    exact ⟨rfl, ST.out⟩
  · have d1 : decide (1 ≤ o.kind) = false := by simp; omega
    have d2 : decide (7 ≤ o.kind) = false := by simp; omega
    have d3 : decide (o.kind = 11) = false := by simp; omega
    have d4 : decide (o.kind = 12) = false := by simp; omega
    have d5 : decide (o.kind = 13) = false := by simp; omega
    have d3' : (o.kind == 11) = false := by simp; omega
    have d4' : (o.kind == 12) = false := by simp; omega
    have d5' : (o.kind == 13) = false := by simp; omega
    have ST : Hid (∃ ρ' S' A' β' B', Stp w W0 pb nb b P ρ S bb β B ρ' S' A' β' B') := ⟨ρ, S, A, β, B, Stp.ofBelow hB h hd L0.out.below⟩
    clear h hW0 hB hd
    go_enter Tryz.func22, Tryz.ntmps22
    go_wp2
    rw [HW.out]
    go_ret
    exact ⟨rfl, ST.out⟩
end

end Go.Proofs.YtaelaldmibgibaaGreatDoor
