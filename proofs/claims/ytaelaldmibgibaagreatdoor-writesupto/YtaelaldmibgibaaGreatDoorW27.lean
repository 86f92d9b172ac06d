/- A pair of nets, the program's and the document's; local: Write. -/
import Derived.Test.YtaelaldmibgibaaGreatDoorW26
import Derived.Test.YtaelaldmibgibaaGreatDoorW12
import Derived.Deep.RegionHeld3

set_option linter.unusedVariables false
set_option linter.unusedSimpArgs false

namespace Go.Proofs.YtaelaldmibgibaaGreatDoor
open Go.RowKit

structure PairAt (w : World) (pb nb b : Nat) (P : PN) (ρ : Nat → Nat × Nat) (S : RS) (A : Abs) : Prop where
  blk : w.heap[pb]? = some (.cells #[.pointer (some ⟨nb, 0, none⟩), .pointer (some ⟨b, 0, none⟩)] 72 (0, 0))
  net : PNet w nb P A
  ref : RefRep w b ρ S
  inv : RInv S A
  d1 : ∀ k, P.mem nb k → (ρ k).1 = 0
  d2 : ¬ P.mem nb pb
  d3 : (ρ pb).1 = 0
/-- the blocks of a pair -/
def pmem (pb nb : Nat) (P : PN) (ρ : Nat → Nat × Nat) (k : Nat) : Prop := k = pb ∨ P.mem nb k ∨ (ρ k).1 ≠ 0

section
variable {w w' w1 w2 : World} {pb nb b : Nat} {P : PN} {ρ ρ' : Nat → Nat × Nat} {S S' : RS} {A A' : Abs}

theorem PairAt.lt (h : PairAt w pb nb b P ρ S A) {k : Nat} (hk : pmem pb nb P ρ k) : k < w.heap.size := by
  rcases hk with rfl | hk | hk
  · exact (Array.getElem?_eq_some_iff.1 h.blk).1
  · exact h.net.lt k hk
  · exact h.ref.lt k hk
theorem PairAt.keep (h : PairAt w pb nb b P ρ S A) (hs : w.heap.size ≤ w'.heap.size) (hk : ∀ k, pmem pb nb P ρ k → w'.heap[k]? = w.heap[k]?) : PairAt w' pb nb b P ρ S A :=
  ⟨by rw [hk pb (.inl rfl)]; exact h.blk, h.net.keep hs (fun k e => hk k (.inr (.inl e))), h.ref.keep hs (fun k e => hk k (.inr (.inr e))), h.inv, h.d1, h.d2, h.d3⟩
theorem PairAt.below (h : PairAt w pb nb b P ρ S A) (hb : Below w.heap.size w w') : PairAt w' pb nb b P ρ S A := h.keep hb.size (fun k hk => hb.block k (h.lt hk))
theorem PairAt.fr {F : Nat → Prop} (h : PairAt w pb nb b P ρ S A) (hf : Fr F w w') (hd : ∀ k, pmem pb nb P ρ k → ¬ F k) : PairAt w' pb nb b P ρ S A := h.keep hf.size (fun k hk => hf.block k (h.lt hk) (hd k hk))
theorem PairAt.cells (h : PairAt w pb nb b P ρ S A) : w.cell? ⟨pb, 0, none⟩ = some (.pointer (some ⟨nb, 0, none⟩)) ∧ w.cell? ⟨pb, 1, none⟩ = some (.pointer (some ⟨b, 0, none⟩)) :=
  ⟨by simp [World.cell?, h.blk], by simp [World.cell?, h.blk]⟩
theorem PairAt.plt (h : PairAt w pb nb b P ρ S A) : pb < w.heap.size := h.lt (.inl rfl)

/-- the program's net has turned, the document's waits -/
structure Hlf (w w1 : World) (pb nb b : Nat) (P : PN) (ρ : Nat → Nat × Nat) (S : RS) (A A' : Abs) : Prop where
  blk : w1.heap[pb]? = some (.cells #[.pointer (some ⟨nb, 0, none⟩), .pointer (some ⟨b, 0, none⟩)] 72 (0, 0))
  net : PNet w1 nb P A'
  ref : RefRep w1 b ρ S
  inv : RInv S A
  d1 : ∀ k, P.mem nb k → (ρ k).1 = 0
  d2 : ¬ P.mem nb pb
  d3 : (ρ pb).1 = 0
  fr : Fr (pmem pb nb P ρ) w w1
theorem PairAt.half (h : PairAt w pb nb b P ρ S A) (hn : PNet w1 nb P A') (hf : Fr (P.mem nb) w w1) : Hlf w w1 pb nb b P ρ S A A' :=
  ⟨by rw [hf.block pb h.plt h.d2]; exact h.blk, hn, h.ref.fr hf (fun k hk e => hk (h.d1 k e)), h.inv, h.d1, h.d2, h.d3, hf.mono (fun k _ e => .inr (.inl e))⟩
/-- what a step leaves of a pair -/
structure Done (w w' : World) (pb nb b : Nat) (P : PN) (ρ : Nat → Nat × Nat) (S : RS) (ρ' : Nat → Nat × Nat) (S' : RS) (A' : Abs) : Prop where
  pair : PairAt w' pb nb b P ρ' S' A'
  fr : Fr (pmem pb nb P ρ) w w'
  grow : Grow w ρ ρ'
  len : S'.paths.length ≤ S.paths.length + 1
  sub : ∀ q ∈ S'.paths, q ∈ S.paths ∨ pathOk q = true
theorem Hlf.done (h : Hlf w w1 pb nb b P ρ S A A') (ha : After w1 b ρ S A' w2 ρ' S') : Done w w2 pb nb b P ρ S ρ' S' A' := by
  have hs := h.fr.size
  have hz : ∀ k, k < w1.heap.size → (ρ k).1 = 0 → (ρ' k).1 = 0 := fun k hk h0 => by
    by_cases e : (ρ' k).1 = 0
    · exact e
    · rcases ha.grow k e with q | q
      · exact absurd h0 q
      · omega
  have hp : pb < w1.heap.size := (Array.getElem?_eq_some_iff.1 h.blk).1
  refine ⟨⟨by rw [ha.fr.block pb hp (fun e => e h.d3)]; exact h.blk, h.net.fr ha.fr (fun k hk e => e (h.d1 k hk)), ha.rep, ha.inv, fun k hk => hz k (h.net.lt k hk) (h.d1 k hk), h.d2, hz pb hp h.d3⟩, h.fr.trans (ha.fr.mono (fun k _ e => .inr (.inr e))), fun k hk => ?_, ha.len, ha.sub⟩
  rcases ha.grow k hk with q | q
  · exact .inl q
  · right; omega
theorem Hlf.cells (h : Hlf w w1 pb nb b P ρ S A A') : w1.cell? ⟨pb, 0, none⟩ = some (.pointer (some ⟨nb, 0, none⟩)) ∧ w1.cell? ⟨pb, 1, none⟩ = some (.pointer (some ⟨b, 0, none⟩)) :=
  ⟨by simp [World.cell?, h.blk], by simp [World.cell?, h.blk]⟩
/-- the step from a world with one block more -/
theorem Done.back (_h : PairAt w pb nb b P ρ S A) (hb : Below w.heap.size w w1) (hd : Done w1 w2 pb nb b P ρ S ρ' S' A') : Done w w2 pb nb b P ρ S ρ' S' A' :=
  ⟨hd.pair, (Fr.of_below hb).trans' hd.fr (fun _ _ e => e), fun k hk => by
    rcases hd.grow k hk with q | q
    · exact .inl q
    · right; have := hb.size; omega, hd.len, hd.sub⟩

set_option maxHeartbeats 400000 in
theorem lnum_any (x : Int) (w : World) : Calls Tryz.prog 27 #[.int .i64 x] w fun e w' => e = .returned (.int .i64 x) ∧ w' = w := by
  go_enter Tryz.func27, Tryz.ntmps27
  go_wp2
  go_ret
  exact ⟨rfl, rfl⟩

/-- a step of a script -/
structure OpV where
  kind : Int
  r : Int
  f : Int
  path : ByteArray
  text : ByteArray
  theirs : Bool
  pairs : Value
def OpV.val (o : OpV) : Value := .agg #[.int .i64 o.kind, .int .i64 o.r, .int .i64 o.f, .string o.path, .string o.text, .bool o.theirs, o.pairs]
def OpV.obj (o : OpV) : Obj := .cells #[.int .i64 o.kind, .int .i64 o.r, .int .i64 o.f, .string o.path, .string o.text, .bool o.theirs, o.pairs] 62
/-- the cells of a step and of a pair -/
structure Seen (W : World) (pb nb b ob : Nat) (o : OpV) : Prop where
  x : W.cell? ⟨pb, 0, none⟩ = some (.pointer (some ⟨nb, 0, none⟩))
  y : W.cell? ⟨pb, 1, none⟩ = some (.pointer (some ⟨b, 0, none⟩))
  k : W.cell? ⟨ob, 0, none⟩ = some (.int .i64 o.kind)
  r : W.cell? ⟨ob, 1, none⟩ = some (.int .i64 o.r)
  p : W.cell? ⟨ob, 3, none⟩ = some (.string o.path)
  t : W.cell? ⟨ob, 4, none⟩ = some (.string o.text)
theorem Seen.of {W : World} {ob : Nat} {o : OpV} (h : W.cell? ⟨pb, 0, none⟩ = some (.pointer (some ⟨nb, 0, none⟩)) ∧ W.cell? ⟨pb, 1, none⟩ = some (.pointer (some ⟨b, 0, none⟩))) (ho : W.heap[ob]? = some o.obj) : Seen W pb nb b ob o :=
  ⟨h.1, h.2, by simp only [World.cell?, ho, OpV.obj]; rfl, by simp only [World.cell?, ho, OpV.obj]; rfl, by simp only [World.cell?, ho, OpV.obj]; rfl, by simp only [World.cell?, ho, OpV.obj]; rfl⟩

/-- what stands where a step of a script lies in a block of its own -/
structure Lcl (w W0 : World) (pb nb b : Nat) (P : PN) (ρ : Nat → Nat × Nat) (S : RS) (A : Abs) (o : OpV) : Prop where
  below : Below w.heap.size w W0
  pair : PairAt W0 pb nb b P ρ S A
  old : PairAt w pb nb b P ρ S A
  op : W0.heap[w.heap.size]? = some o.obj
theorem Lcl.mk' (h : PairAt w pb nb b P ρ S A) (o : OpV) : Lcl w (w.alloc o.obj) pb nb b P ρ S A o :=
  ⟨(Below.refl _ _).alloc (Nat.le_refl _) _, h.below ((Below.refl _ _).alloc (Nat.le_refl _) _), h, heap_alloc_new _ _⟩
theorem Lcl.olt {W0 : World} {o : OpV} (h : Lcl w W0 pb nb b P ρ S A o) : w.heap.size < W0.heap.size := (Array.getElem?_eq_some_iff.1 h.op).1
theorem Lcl.seen {W0 : World} {o : OpV} (h : Lcl w W0 pb nb b P ρ S A o) : Seen W0 pb nb b w.heap.size o := Seen.of h.pair.cells h.op
theorem Lcl.more {W0 V : World} {o : OpV} (h : Lcl w W0 pb nb b P ρ S A o) (hb : Below W0.heap.size W0 V) : Lcl w V pb nb b P ρ S A o :=
  ⟨h.below.trans (hb.mono h.below.size), h.pair.below hb, h.old, by rw [hb.block _ h.olt]; exact h.op⟩
theorem Lcl.drew {W0 : World} {o : OpV} (h : Lcl w W0 pb nb b P ρ S A o) : Lcl w W0.drew pb nb b P ρ S A o := h.more ⟨rfl, rfl, rfl, Nat.le_refl _, fun _ _ => rfl⟩
/-- the program's half is done -/
theorem Lcl.half {W0 : World} {o : OpV} (h : Lcl w W0 pb nb b P ρ S A o) (hn : PNet w1 nb P A') (hf : Fr (P.mem nb) W0 w1) : Hlf W0 w1 pb nb b P ρ S A A' ∧ Seen w1 pb nb b w.heap.size o := by
  have hH := h.pair.half hn hf
  refine ⟨hH, Seen.of hH.cells ?_⟩
  rw [hf.block _ h.olt (fun e => by have := h.old.lt (.inr (.inl e)); omega)]
  exact h.op
/-- both are -/
theorem Lcl.done {W0 : World} {o : OpV} (h : Lcl w W0 pb nb b P ρ S A o) (hH : Hlf W0 w1 pb nb b P ρ S A A') (ha : After w1 b ρ S A' w2 ρ' S') : Done w w2 pb nb b P ρ S ρ' S' A' :=
  Done.back h.old h.below (hH.done ha)
theorem Hlf.drew (h : Hlf w w1 pb nb b P ρ S A A') : Hlf w w1.drew pb nb b P ρ S A A' :=
  ⟨h.blk, h.net.keep (Nat.le_refl _) (fun _ _ => rfl), h.ref.keep (Nat.le_refl _) (fun _ _ => rfl), h.inv, h.d1, h.d2, h.d3, h.fr.drew⟩
theorem Lcl.seen2 {W0 : World} {o : OpV} (h : Lcl w W0 pb nb b P ρ S A o) (hH : Hlf W0 w1 pb nb b P ρ S A A') (hS : Seen w1 pb nb b w.heap.size o) {A2 : Abs} (ha : After w1 b ρ S A2 w2 ρ' S') : Seen w2 pb nb b w.heap.size o := by
  have hp : w2.heap[pb]? = w1.heap[pb]? := ha.fr.block pb (Array.getElem?_eq_some_iff.1 hH.blk).1 (fun e => e hH.d3)
  have ho : w2.heap[w.heap.size]? = w1.heap[w.heap.size]? := ha.fr.block _ (Nat.lt_of_lt_of_le h.olt hH.fr.size) (fun e => by have := h.old.ref.lt _ e; omega)
  exact ⟨(World.cell?_of_block (w := w1) hp).trans hS.x, (World.cell?_of_block (w := w1) hp).trans hS.y, (World.cell?_of_block (w := w1) ho).trans hS.k, (World.cell?_of_block (w := w1) ho).trans hS.r, (World.cell?_of_block (w := w1) ho).trans hS.p, (World.cell?_of_block (w := w1) ho).trans hS.t⟩
theorem Seen.drew {W : World} {ob : Nat} {o : OpV} (h : Seen W pb nb b ob o) : Seen W.drew pb nb b ob o := ⟨h.x, h.y, h.k, h.r, h.p, h.t⟩

set_option maxRecDepth 100000 in
set_option maxHeartbeats 1000000 in
theorem local_write (pb nb b : Nat) (P : PN) (ρ : Nat → Nat × Nat) (S : RS) (A : Abs) (bb : Nat) (o : OpV) (w : World) (h : PairAt w pb nb b P ρ S A) (hk : o.kind = 1) (hp : o.path.size ≤ 1000000000) (ht : o.text.size ≤ 1000000000) (hm : S.paths.length ≤ 100000000) :
    Calls Tryz.prog 44 #[.pointer (some ⟨pb, 0, none⟩), .pointer (some ⟨bb, 0, none⟩), .agg #[.int .i64 o.kind, .int .i64 o.r, .int .i64 o.f, .string o.path, .string o.text, .bool o.theirs, o.pairs]] w fun e w' => e = .returned (.bool true) ∧ ∃ ρ' S', Done w w' pb nb b P ρ S ρ' S' (A.write o.r o.path o.text) := by
  have L0 := hide (Lcl.mk' h o)
  obtain ⟨W0, hW0⟩ : ∃ W0, w.alloc o.obj = W0 := ⟨_, rfl⟩
  rw [hW0] at L0
  unfold OpV.obj at hW0
  rw [hk] at hW0 ⊢
  have HW := hide hW0
  clear h hW0
  go_enter Tryz.func44, Tryz.ntmps44
  go_wp2
  rw [HW.out]
  clear HW
  have LD := hide L0.out.drew
  obtain ⟨s0, s1, s2, s3, s4, s5⟩ := L0.out.seen
  have WR := hide (netWrite_any nb P A o.r o.path o.text W0.drew LD.out.pair.net (by omega) (by omega))
  go_region_held3 (fun W => W.cell? ⟨pb, 0, none⟩ = some (.pointer (some ⟨nb, 0, none⟩)) ∧ W.cell? ⟨w.heap.size, 1, none⟩ = some (.int .i64 o.r) ∧ W.cell? ⟨w.heap.size, 3, none⟩ = some (.string o.path) ∧ W.cell? ⟨w.heap.size, 4, none⟩ = some (.string o.text))
    (first | exact ⟨T.out.2.x, T.out.2.r, T.out.2.p, T.out.2.t⟩ | exact ⟨s0, s3, s4, s5⟩)
    (first | (go_at_call 29; refine WR.out.mono ?_; rintro e w1 ⟨rfl, hn1, hf1⟩; have T := hide (LD.out.half hn1 hf1); clear hn1 hf1))
  clear s0 s1 s2 s3 s4 s5 WR
  obtain ⟨s0, s1, s2, s3, s4, s5⟩ := T.out.2
  have TD := hide T.out.1.drew
  have RW := hide (refWrite_any b o.r o.path o.text ρ S A w1.drew TD.out.ref TD.out.inv hm (by unfold maxLen; omega) (by unfold maxLen; omega))
  go_wp2
  go_region_held3 (fun W => W.cell? ⟨pb, 1, none⟩ = some (.pointer (some ⟨b, 0, none⟩)) ∧ W.cell? ⟨w.heap.size, 1, none⟩ = some (.int .i64 o.r) ∧ W.cell? ⟨w.heap.size, 3, none⟩ = some (.string o.path) ∧ W.cell? ⟨w.heap.size, 4, none⟩ = some (.string o.text))
    (first | exact ⟨T2.out.y, T2.out.r, T2.out.p, T2.out.t⟩ | exact ⟨s1, s3, s4, s5⟩)
    (first | (go_at_call 27; refine (lnum_any _ _).mono ?_; rintro e wn ⟨rfl, rfl⟩) | (go_at_call 83; refine RW.out.mono ?_; rintro e w2 ⟨ρ', S', rfl, ha⟩; have HA := hide ha; have T2 := hide (LD.out.seen2 TD.out T.out.2.drew ha); clear ha))
  go_wp2
  go_ret
  exact ⟨rfl, ρ', S', LD.out.done TD.out HA.out⟩
set_option maxRecDepth 100000 in
set_option maxHeartbeats 1000000 in
theorem local_remove (pb nb b : Nat) (P : PN) (ρ : Nat → Nat × Nat) (S : RS) (A : Abs) (bb : Nat) (o : OpV) (w : World) (h : PairAt w pb nb b P ρ S A) (hk : o.kind = 2) (hp : o.path.size ≤ 1000000000) (hm : S.paths.length ≤ 100000000) :
    Calls Tryz.prog 44 #[.pointer (some ⟨pb, 0, none⟩), .pointer (some ⟨bb, 0, none⟩), .agg #[.int .i64 o.kind, .int .i64 o.r, .int .i64 o.f, .string o.path, .string o.text, .bool o.theirs, o.pairs]] w fun e w' => e = .returned (.bool true) ∧ ∃ ρ' S', Done w w' pb nb b P ρ S ρ' S' (A.remove o.r o.path) := by
  have L0 := hide (Lcl.mk' h o)
  obtain ⟨W0, hW0⟩ : ∃ W0, w.alloc o.obj = W0 := ⟨_, rfl⟩
  rw [hW0] at L0
  unfold OpV.obj at hW0
  rw [hk] at hW0 ⊢
  have HW := hide hW0
  clear h hW0
  go_enter Tryz.func44, Tryz.ntmps44
  go_wp2
  rw [HW.out]
  clear HW
  have LD := hide L0.out.drew
  obtain ⟨s0, s1, s2, s3, s4, s5⟩ := L0.out.seen
  have WR := hide (netRemove_any nb P A o.r o.path W0.drew LD.out.pair.net (by omega))
  go_region_held3 (fun W => W.cell? ⟨pb, 0, none⟩ = some (.pointer (some ⟨nb, 0, none⟩)) ∧ W.cell? ⟨w.heap.size, 1, none⟩ = some (.int .i64 o.r) ∧ W.cell? ⟨w.heap.size, 3, none⟩ = some (.string o.path))
    (first | exact ⟨T.out.2.x, T.out.2.r, T.out.2.p⟩ | exact ⟨s0, s3, s4⟩)
    (first | (go_at_call 33; refine WR.out.mono ?_; rintro e w1 ⟨rfl, hn1, hf1⟩; have T := hide (LD.out.half hn1 hf1); clear hn1 hf1))
  clear s0 s1 s2 s3 s4 s5 WR
  obtain ⟨s0, s1, s2, s3, s4, s5⟩ := T.out.2
  have TD := hide T.out.1.drew
  have RW := hide (refRemove_any b o.r o.path ρ S A w1.drew TD.out.ref TD.out.inv hm (by unfold maxLen; omega))
  go_wp2
  go_region_held3 (fun W => W.cell? ⟨pb, 1, none⟩ = some (.pointer (some ⟨b, 0, none⟩)) ∧ W.cell? ⟨w.heap.size, 1, none⟩ = some (.int .i64 o.r) ∧ W.cell? ⟨w.heap.size, 3, none⟩ = some (.string o.path))
    (first | exact ⟨T2.out.y, T2.out.r, T2.out.p⟩ | exact ⟨s1, s3, s4⟩)
    (first | (go_at_call 27; refine (lnum_any _ _).mono ?_; rintro e wn ⟨rfl, rfl⟩) | (go_at_call 84; refine RW.out.mono ?_; rintro e w2 ⟨ρ', S', rfl, ha⟩; have HA := hide ha; have T2 := hide (LD.out.seen2 TD.out T.out.2.drew ha); clear ha))
  go_wp2
  go_ret
  exact ⟨rfl, ρ', S', LD.out.done TD.out HA.out⟩
end

end Go.Proofs.YtaelaldmibgibaaGreatDoor
