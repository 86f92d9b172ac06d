/- local: Read. -/
import Derived.Test.YtaelaldmibgibaaGreatDoorW27
import Derived.Test.YtaelaldmibgibaaGreatDoorW16

set_option linter.unusedVariables false
set_option linter.unusedSimpArgs false

namespace Go.Proofs.YtaelaldmibgibaaGreatDoor
open Go.RowKit

section
variable {w w' w1 w2 : World} {pb nb b : Nat} {P : PN} {ρ ρ' : Nat → Nat × Nat} {S S' : RS} {A A' : Abs}

/-- where the program's half only makes memory -/
theorem Lcl.hlf {W0 : World} {o : OpV} (h : Lcl w W0 pb nb b P ρ S A o) : Hlf W0 W0 pb nb b P ρ S A A :=
  ⟨h.pair.blk, h.pair.net, h.pair.ref, h.pair.inv, h.pair.d1, h.pair.d2, h.pair.d3, Fr.refl _ _⟩

set_option maxRecDepth 100000 in
set_option maxHeartbeats 1000000 in
/-- Read, whatever the document's answer leaves: F says what -/
theorem local_read_by (pb nb b : Nat) (P : PN) (ρ : Nat → Nat × Nat) (S : RS) (A : Abs) (bb : Nat) (o : OpV) (w : World) (h : PairAt w pb nb b P ρ S A) (hk : o.kind = 3) (hp : o.path.size ≤ 1000000000) (F : World → World → Prop)
    (hR : ∀ V, RefRep V b ρ S → Calls Tryz.prog 85 #[.pointer (some ⟨b, 0, none⟩), .int .i64 o.r, .string o.path] V fun e w' => e = .returned (.tuple #[.string (A.readT o.r o.path), .int .i64 (A.readE o.r o.path)]) ∧ F V w')
    (hF : ∀ V w2, F V w2 → ∃ ρ' S', After V b ρ S A w2 ρ' S') :
    Calls Tryz.prog 44 #[.pointer (some ⟨pb, 0, none⟩), .pointer (some ⟨bb, 0, none⟩), .agg #[.int .i64 o.kind, .int .i64 o.r, .int .i64 o.f, .string o.path, .string o.text, .bool o.theirs, o.pairs]] w fun e w' => e = .returned (.bool true) ∧ ∃ V, Lcl w V pb nb b P ρ S A o ∧ F V w' := by
  have L0 := hide (Lcl.mk' h o)
  obtain ⟨W0, hW0⟩ : ∃ W0, w.alloc o.obj = W0 := ⟨_, rfl⟩
  rw [hW0] at L0
  unfold OpV.obj at hW0
  rw [hk] at hW0 ⊢
  have HW := hide hW0
  have HR := hide hR
  have HF := hide hF
  clear h hW0 hR hF
  go_enter Tryz.func44, Tryz.ntmps44
  go_wp2
  rw [HW.out]
  clear HW
  have LD := hide L0.out.drew
  obtain ⟨s0, s1, s2, s3, s4, s5⟩ := L0.out.seen
  have WR := hide (netRead_any nb P A o.r o.path W0.drew LD.out.pair.net (by omega))
  go_region_held3 (fun W => W.cell? ⟨pb, 0, none⟩ = some (.pointer (some ⟨nb, 0, none⟩)) ∧ W.cell? ⟨w.heap.size, 1, none⟩ = some (.int .i64 o.r) ∧ W.cell? ⟨w.heap.size, 3, none⟩ = some (.string o.path))
    (first | exact ⟨T.out.seen.x, T.out.seen.r, T.out.seen.p⟩ | exact ⟨s0, s3, s4⟩)
    (first | (go_at_call 30; refine WR.out.mono ?_; rintro e w1 ⟨rfl, hb1⟩; have T := hide (LD.out.more hb1); clear hb1))
  clear s0 s1 s2 s3 s4 s5 WR
  obtain ⟨s0, s1, s2, s3, s4, s5⟩ := T.out.seen
  have TD := hide T.out.drew
  have RW := hide (HR.out w1.drew TD.out.pair.ref)
  go_wp2
  go_region_held3 (fun W => W.cell? ⟨pb, 1, none⟩ = some (.pointer (some ⟨b, 0, none⟩)) ∧ W.cell? ⟨w.heap.size, 1, none⟩ = some (.int .i64 o.r) ∧ W.cell? ⟨w.heap.size, 3, none⟩ = some (.string o.path))
    (first | exact ⟨T2.out.y, T2.out.r, T2.out.p⟩ | exact ⟨s1, s3, s4⟩)
    (first | (go_at_call 85; refine RW.out.mono ?_; rintro e w2 ⟨rfl, hf⟩; have HA := hide hf; have T2 : Hid (Seen w2 pb nb b w.heap.size o) := (by obtain ⟨ρ', S', ha⟩ := HF.out _ _ hf; exact TD.out.seen2 TD.out.hlf TD.out.seen ha); clear hf))
  go_wp2_with (go_at_call 27; refine (lnum_any _ _).mono ?_; rintro e wn ⟨rfl, rfl⟩)
  go_ret
  exact ⟨rfl, _, TD.out, HA.out⟩

theorem local_read (pb nb b : Nat) (P : PN) (ρ : Nat → Nat × Nat) (S : RS) (A : Abs) (bb : Nat) (o : OpV) (w : World) (h : PairAt w pb nb b P ρ S A) (hk : o.kind = 3) (hp : o.path.size ≤ 1000000000) (hm : S.paths.length ≤ 100000000) :
    Calls Tryz.prog 44 #[.pointer (some ⟨pb, 0, none⟩), .pointer (some ⟨bb, 0, none⟩), .agg #[.int .i64 o.kind, .int .i64 o.r, .int .i64 o.f, .string o.path, .string o.text, .bool o.theirs, o.pairs]] w fun e w' => e = .returned (.bool true) ∧ ∃ ρ' S', Done w w' pb nb b P ρ S ρ' S' A := by
  refine (local_read_by pb nb b P ρ S A bb o w h hk hp (fun V w' => ∃ ρ' S', After V b ρ S A w' ρ' S') ?_ (fun _ _ h => h)).mono ?_
  · intro V hV
    refine (refRead_any b o.r o.path ρ S A V hV h.inv hm (by unfold maxLen; omega)).mono ?_
    rintro e w' ⟨ρ', S', rfl, ha⟩
    exact ⟨rfl, ρ', S', ha⟩
  · rintro e w' ⟨rfl, V, hL, ρ', S', ha⟩
    exact ⟨rfl, ρ', S', hL.done hL.hlf ha⟩

theorem local_read_in (pb nb b : Nat) (P : PN) (ρ : Nat → Nat × Nat) (S : RS) (A : Abs) (bb : Nat) (o : OpV) (w : World) (h : PairAt w pb nb b P ρ S A) (hk : o.kind = 3) (hp : o.path.size ≤ 1000000000) (hin : S.paths[atOf S.paths o.path]? = some o.path) :
    Calls Tryz.prog 44 #[.pointer (some ⟨pb, 0, none⟩), .pointer (some ⟨bb, 0, none⟩), .agg #[.int .i64 o.kind, .int .i64 o.r, .int .i64 o.f, .string o.path, .string o.text, .bool o.theirs, o.pairs]] w fun e w' => e = .returned (.bool true) ∧ Below w.heap.size w w' := by
  refine (local_read_by pb nb b P ρ S A bb o w h hk hp (fun V w' => w' = V ∧ RefRep V b ρ S) ?_ ?_).mono ?_
  · intro V hV
    refine (refRead_in b o.r o.path ρ S A V hV h.inv hin (by unfold maxLen; omega)).mono ?_
    rintro e w' ⟨rfl, rfl⟩
    exact ⟨rfl, rfl, hV⟩
  · rintro V w2 ⟨rfl, hV⟩
    exact ⟨ρ, S, After.refl hV h.inv⟩
  · rintro e w' ⟨rfl, V, hL, rfl, _⟩
    exact ⟨rfl, hL.below⟩
end

end Go.Proofs.YtaelaldmibgibaaGreatDoor
