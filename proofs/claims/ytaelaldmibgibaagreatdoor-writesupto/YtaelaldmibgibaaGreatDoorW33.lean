/- plays: two nets of each kind in turn, or one; what stands between the steps. -/
import Derived.Test.YtaelaldmibgibaaGreatDoorW32

set_option linter.unusedVariables false
set_option linter.unusedSimpArgs false

namespace Go.Proofs.YtaelaldmibgibaaGreatDoor
open Go.RowKit

/-- all that a pair is made of -/
structure PD where
  pb : Nat
  nb : Nat
  b : Nat
  P : PN
  ρ : Nat → Nat × Nat
  S : RS
  A : Abs
def PD.mem (d : PD) (k : Nat) : Prop := pmem d.pb d.nb d.P d.ρ k
/-- a pair that was made since w0, of at most N paths -/
structure PdAt (w0 w : World) (d : PD) (N : Nat) : Prop where
  at_ : PairAt w d.pb d.nb d.b d.P d.ρ d.S d.A
  len : d.S.paths.length ≤ N
  ok : ∀ q ∈ d.S.paths, q.size ≤ 1000000000
  lo : ∀ k, d.mem k → w0.heap.size ≤ k
theorem pathOk_size {q : ByteArray} (h : pathOk q = true) : q.size ≤ 1000000000 := by
  unfold pathOk at h
  simp at h
  omega

/-- the book since w0 -/
structure BkAt (w0 w : World) (bb : Nat) (β : Nat → Nat) (B : Bk) (N : Nat) : Prop where
  at_ : Bok w bb β B
  next : B.next ≤ 2 * N
  lo : ∀ k, β k ≠ 0 → w0.heap.size ≤ k

/-- one pair and the book -/
structure One (w0 w : World) (d : PD) (bb : Nat) (β : Nat → Nat) (B : Bk) (N : Nat) : Prop where
  pair : PdAt w0 w d N
  book : BkAt w0 w bb β B N
  dis : ∀ k, d.mem k → β k = 0
  below : Below w0.heap.size w0 w
theorem One.below' {w0 w w' : World} {d : PD} {bb : Nat} {β : Nat → Nat} {B : Bk} {N : Nat} (h : One w0 w d bb β B N) (hb : Below w.heap.size w w') : One w0 w' d bb β B N :=
  ⟨⟨h.pair.at_.below hb, h.pair.len, h.pair.ok, h.pair.lo⟩, ⟨h.book.at_.below hb, h.book.next, h.book.lo⟩, h.dis, h.below.trans (hb.mono h.below.size)⟩
theorem One.mono {w0 w : World} {d : PD} {bb : Nat} {β : Nat → Nat} {B : Bk} {N M : Nat} (h : One w0 w d bb β B N) (hM : N ≤ M) : One w0 w d bb β B M :=
  ⟨⟨h.pair.at_, Nat.le_trans h.pair.len hM, h.pair.ok, h.pair.lo⟩, ⟨h.book.at_, by have := h.book.next; omega, h.book.lo⟩, h.dis, h.below⟩

/-- what a step leaves, for whoever stands aside -/
structure Turn (w0 w w' : World) (d d' : PD) (bb : Nat) (β β' : Nat → Nat) (B' : Bk) (N : Nat) : Prop where
  one : One w0 w' d' bb β' B' N
  pb : d'.pb = d.pb
  fr : Fr (fun k => d.mem k ∨ β k ≠ 0) w w'
  grow : ∀ k, d'.mem k → d.mem k ∨ w.heap.size ≤ k
  growB : ∀ k, β' k ≠ 0 → β k ≠ 0 ∨ w.heap.size ≤ k

theorem One.turn {w0 w w' : World} {d : PD} {bb : Nat} {β β' : Nat → Nat} {B B' : Bk} {N : Nat} {ρ' : Nat → Nat × Nat} {S' : RS} {A' : Abs} (h : One w0 w d bb β B N) (hS : Stp w w' d.pb d.nb d.b d.P d.ρ d.S bb β B ρ' S' A' β' B') :
    Turn w0 w w' d { d with ρ := ρ', S := S', A := A' } bb β β' B' (N + 1) := by
  have hz := h.below.size
  have hg : ∀ k, pmem d.pb d.nb d.P ρ' k → d.mem k ∨ w.heap.size ≤ k := fun k hk => by
    rcases hk with rfl | hk | hk
    · exact .inl (.inl rfl)
    · exact .inl (.inr (.inl hk))
    · rcases hS.grow k hk with q | q
      · exact .inl (.inr (.inr q))
      · exact .inr q
  refine ⟨⟨⟨hS.pair, ?_, ?_, ?_⟩, ⟨hS.book, ?_, ?_⟩, hS.dis, ?_⟩, rfl, hS.fr, hg, hS.growB⟩
  · have := hS.len; have := h.pair.len; simp only; omega
  · intro q hq
    rcases hS.sub q hq with e | e
    · exact h.pair.ok q e
    · exact pathOk_size e
  · intro k hk
    rcases hg k hk with q | q
    · exact h.pair.lo k q
    · omega
  · have := hS.next; have := h.book.next; omega
  · intro k hk
    rcases hS.growB k hk with q | q
    · exact h.book.lo k q
    · omega
  · exact ((Fr.of_below h.below : Fr (fun k => w0.heap.size ≤ k) w0 w).trans (hS.fr.mono (fun k _ e => by
      rcases e with e | e
      · exact h.pair.lo k e
      · exact h.book.lo k e))).below (Nat.le_refl _)

/-- two pairs and the book -/
structure Two (w0 w : World) (d e : PD) (bb : Nat) (β : Nat → Nat) (B : Bk) (N : Nat) : Prop where
  one : One w0 w d bb β B N
  two : PdAt w0 w e N
  dis2 : ∀ k, e.mem k → β k = 0
  apart : ∀ k, d.mem k → ¬ e.mem k
theorem Two.swap {w0 w : World} {d e : PD} {bb : Nat} {β : Nat → Nat} {B : Bk} {N : Nat} (h : Two w0 w d e bb β B N) : Two w0 w e d bb β B N :=
  ⟨⟨h.two, h.one.book, h.dis2, h.one.below⟩, h.one.pair, h.one.dis, fun k hk hd => h.apart k hd hk⟩
theorem Two.below' {w0 w w' : World} {d e : PD} {bb : Nat} {β : Nat → Nat} {B : Bk} {N : Nat} (h : Two w0 w d e bb β B N) (hb : Below w.heap.size w w') : Two w0 w' d e bb β B N :=
  ⟨h.one.below' hb, ⟨h.two.at_.below hb, h.two.len, h.two.ok, h.two.lo⟩, h.dis2, h.apart⟩
theorem Two.mono {w0 w : World} {d e : PD} {bb : Nat} {β : Nat → Nat} {B : Bk} {N M : Nat} (h : Two w0 w d e bb β B N) (hM : N ≤ M) : Two w0 w d e bb β B M :=
  ⟨h.one.mono hM, ⟨h.two.at_, Nat.le_trans h.two.len hM, h.two.ok, h.two.lo⟩, h.dis2, h.apart⟩
theorem Two.turn {w0 w w' : World} {d d' e : PD} {bb : Nat} {β β' : Nat → Nat} {B B' : Bk} {N M : Nat} (h : Two w0 w d e bb β B N) (hT : Turn w0 w w' d d' bb β β' B' M) (hM : N ≤ M) : Two w0 w' d' e bb β' B' M := by
  refine ⟨hT.one, ⟨h.two.at_.fr hT.fr (fun k hk e' => ?_), Nat.le_trans h.two.len hM, h.two.ok, h.two.lo⟩, fun k hk => ?_, fun k hk he => ?_⟩
  · rcases e' with e' | e'
    · exact h.apart k e' hk
    · exact e' (h.dis2 k hk)
  · by_cases e0 : β' k = 0
    · exact e0
    · rcases hT.growB k e0 with q | q
      · exact absurd (h.dis2 k hk) q
      · have := h.two.at_.lt hk; omega
  · rcases hT.grow k hk with q | q
    · exact h.apart k q he
    · have := h.two.at_.lt he; omega

/-- two pairs in turn, or the same one twice: their pointers -/
def Rel (w0 w : World) (pv qv : Value) (bb : Nat) (N : Nat) : Prop :=
  ∃ (d e : PD) (β : Nat → Nat) (B : Bk), pv = .pointer (some ⟨d.pb, 0, none⟩) ∧ qv = .pointer (some ⟨e.pb, 0, none⟩) ∧ (Two w0 w d e bb β B N ∨ (d = e ∧ One w0 w d bb β B N))
theorem Rel.swap {w0 w : World} {pv qv : Value} {bb N : Nat} (h : Rel w0 w pv qv bb N) : Rel w0 w qv pv bb N := by
  obtain ⟨d, e, β, B, h1, h2, h3 | ⟨rfl, h3⟩⟩ := h
  · exact ⟨e, d, β, B, h2, h1, .inl h3.swap⟩
  · exact ⟨d, d, β, B, h2, h1, .inr ⟨rfl, h3⟩⟩
theorem Rel.below {w0 w w' : World} {pv qv : Value} {bb N : Nat} (h : Rel w0 w pv qv bb N) (hb : Below w.heap.size w w') : Rel w0 w' pv qv bb N := by
  obtain ⟨d, e, β, B, h1, h2, h3 | ⟨rfl, h3⟩⟩ := h
  · exact ⟨d, e, β, B, h1, h2, .inl (h3.below' hb)⟩
  · exact ⟨d, d, β, B, h1, h2, .inr ⟨rfl, h3.below' hb⟩⟩
theorem Rel.mono {w0 w : World} {pv qv : Value} {bb N M : Nat} (h : Rel w0 w pv qv bb N) (hM : N ≤ M) : Rel w0 w pv qv bb M := by
  obtain ⟨d, e, β, B, h1, h2, h3 | ⟨rfl, h3⟩⟩ := h
  · exact ⟨d, e, β, B, h1, h2, .inl (h3.mono hM)⟩
  · exact ⟨d, d, β, B, h1, h2, .inr ⟨rfl, h3.mono hM⟩⟩
/-- the first of them, and how a turn of it is carried -/
theorem Rel.first {w0 w : World} {pv qv : Value} {bb N : Nat} (h : Rel w0 w pv qv bb N) : ∃ (d : PD) (β : Nat → Nat) (B : Bk), pv = .pointer (some ⟨d.pb, 0, none⟩) ∧ One w0 w d bb β B N ∧ ∀ (w' : World) (d' : PD) (β' : Nat → Nat) (B' : Bk) (M : Nat), N ≤ M → Turn w0 w w' d d' bb β β' B' M → Rel w0 w' pv qv bb M := by
  obtain ⟨d, e, β, B, h1, h2, h3 | ⟨rfl, h3⟩⟩ := h
  · refine ⟨d, β, B, h1, h3.one, fun w' d' β' B' M hM hT => ⟨d', e, β', B', by rw [hT.pb]; exact h1, h2, .inl (h3.turn hT hM)⟩⟩
  · refine ⟨d, β, B, h1, h3, fun w' d' β' B' M hM hT => ⟨d', d', β', B', by rw [hT.pb]; exact h1, by rw [hT.pb]; exact h2, .inr ⟨rfl, hT.one⟩⟩⟩
theorem Rel.under {w0 w : World} {pv qv : Value} {bb N : Nat} (h : Rel w0 w pv qv bb N) : Below w0.heap.size w0 w := by
  obtain ⟨d, e, β, B, h1, h2, h3 | ⟨rfl, h3⟩⟩ := h
  · exact h3.one.below
  · exact h3.below

/-- a step -/
theorem Rel.step {w0 w : World} {pv qv : Value} {bb N : Nat} (h : Rel w0 w pv qv bb N) (hN : N ≤ 10000000) (o : OpV) (h5 : o.kind ≤ 5) (hp : o.path.size ≤ 1000000000) (ht : o.text.size ≤ 1000000000) :
    Calls Tryz.prog 22 #[pv, .pointer (some ⟨bb, 0, none⟩), .agg #[.int .i64 o.kind, .int .i64 o.r, .int .i64 o.f, .string o.path, .string o.text, .bool o.theirs, o.pairs]] w fun e w' => e = .returned (.bool true) ∧ Rel w0 w' pv qv bb (N + 1) := by
  obtain ⟨d, β, B, rfl, h1, hT⟩ := h.first
  refine (step_any d.pb d.nb d.b d.P d.ρ d.S d.A bb β B o w h1.pair.at_ h1.book.at_ h1.dis h5 hp ht (by have := h1.pair.len; omega) (by have := h1.book.next; omega)).mono ?_
  rintro e w' ⟨rfl, ρ', S', A', β', B', hS⟩
  exact ⟨rfl, hT _ _ _ _ _ (by omega) (h1.turn hS)⟩
theorem Rel.looks {w0 w : World} {pv qv : Value} {bb N : Nat} (h : Rel w0 w pv qv bb N) (hN : N ≤ 10000000) :
    Calls Tryz.prog 23 #[.pointer (some ⟨bb, 0, none⟩)] w fun e w' => e = .returned (.bool true) ∧ Rel w0 w' pv qv bb N := by
  obtain ⟨d, β, B, _, h1, _⟩ := h.first
  have hb := h1.book
  refine (looks_any bb β B w hb.at_.at_ hb.at_.ms (by rw [hb.at_.num]; have := hb.next; omega)).mono ?_
  rintro e w' ⟨rfl, nq, rfl⟩
  exact ⟨rfl, h.below ⟨rfl, rfl, rfl, Nat.le_refl _, fun _ _ => rfl⟩⟩
theorem Rel.asked {w0 w : World} {pv qv : Value} {bb N : Nat} (h : Rel w0 w pv qv bb N) (hN : N ≤ 10000000) :
    Calls Tryz.prog 24 #[pv, .pointer (some ⟨bb, 0, none⟩)] w fun e w' => e = .returned (.bool true) ∧ Rel w0 w' pv qv bb (N + 6) := by
  obtain ⟨d, β, B, rfl, h1, hT⟩ := h.first
  refine (asked_all d.pb d.nb d.b d.P d.ρ d.S d.A bb β B w h1.pair.at_ h1.book.at_ h1.dis (by have := h1.pair.len; omega) h1.pair.ok (by have := h1.book.next; omega)).mono ?_
  rintro e w' ⟨rfl, β', B', hA, hn⟩
  have hz := h1.below.size
  refine ⟨rfl, hT _ d β' B' _ (by omega) ⟨⟨⟨hA.pair, by have := h1.pair.len; omega, h1.pair.ok, h1.pair.lo⟩, ⟨hA.book, by have := h1.book.next; omega, fun k hk => ?_⟩, hA.dis, ?_⟩, rfl, hA.fr.mono (fun k _ e => .inr e), fun k hk => .inl hk, hA.growB⟩⟩
  · rcases hA.growB k hk with q | q
    · exact h1.book.lo k q
    · omega
  · exact ((Fr.of_below h1.below : Fr (fun k => w0.heap.size ≤ k) w0 w).trans (hA.fr.mono (fun k _ e => h1.book.lo k e))).below (Nat.le_refl _)

end Go.Proofs.YtaelaldmibgibaaGreatDoor
