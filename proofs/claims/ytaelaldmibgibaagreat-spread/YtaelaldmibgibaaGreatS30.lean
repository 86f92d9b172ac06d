/- A net in new memory, as the statements' functions hold it; its calls in the twin. The twin: Resolve. The twin: append keeps memory tame. -/
import Derived.Test.YtaelaldmibgibaaGreatS23
import Derived.Test.YtaelaldmibgibaaGreatS24
import Derived.Test.YtaelaldmibgibaaGreatS25
import Derived.Test.YtaelaldmibgibaaGreatS27
import Derived.Test.YtaelaldmibgibaaGreatS26
import Derived.Test.YtaelaldmibgibaaGreatS28
import Derived.Deep.AppendLies

set_option linter.unusedVariables false
set_option linter.unusedSimpArgs false
set_option linter.unusedSectionVars false

namespace Go.Proofs.YtaelaldmibgibaaGreat
open Go.RowKit Go.Sim

def pFirst : ByteArray := ⟨#[102, 105, 114, 115, 116]⟩
def pX : ByteArray := ⟨#[120]⟩
def PATHS : List ByteArray := [pFirst, pX, pDir 0, pDir 1, pDir 2, pDir 3, pDir 4, pDir 5, pDir 6, pDir 7]
theorem PATHS_ok : ∀ p ∈ PATHS, pathOk p = true ∧ p.size ≤ 12 := by decide
def Kin (S : List RS) : Prop := ∀ s ∈ S, ∀ x ∈ s.E, x.1 ∈ PATHS
structure Ne (w0 w : World) (nb : Nat) (S : List RS) (K : List Nat) : Prop where
  ex : ∃ pb L, Nt w nb pb L S ∧ w0.heap.size ≤ pb ∧ (∀ x ∈ L, w0.heap.size ≤ x.1 ∧ w0.heap.size ≤ x.2) ∧ ∀ k ∈ K, k < w.heap.size ∧ k ≠ nb ∧ k ≠ pb ∧ ∀ x ∈ L, k ≠ x.1 ∧ k ≠ x.2
  nge : w0.heap.size ≤ nb
  bel : Below w0.heap.size w0 w
  fix : Fixed w
  kin : Kin S
def Keeps (K : List Nat) (w w' : World) : Prop := ∀ k ∈ K, w'.heap[k]? = w.heap[k]?
theorem pairwise_len {l m : List ByteArray} (h : l.Pairwise (fun a b => slt a b = true)) (hm : ∀ x ∈ l, x ∈ m) : l.length ≤ m.length := by
  induction l generalizing m with
  | nil => exact Nat.zero_le _
  | cons a l ih =>
    obtain ⟨h1, h2⟩ := List.pairwise_cons.1 h
    obtain ⟨m1, m2, rfl⟩ := List.append_of_mem (hm a (List.mem_cons_self ..))
    have := ih (m := m1 ++ m2) h2 (fun x hx => by
      have q := hm x (List.mem_cons_of_mem _ hx)
      rw [List.mem_append, List.mem_cons] at q
      rcases q with q | rfl | q
      · exact List.mem_append.2 (.inl q)
      · have := h1 x hx
        rw [slt_irrefl] at this
        cases this
      · exact List.mem_append.2 (.inr q))
    simp only [List.length_cons, List.length_append] at this ⊢
    omega
theorem Rg.small {w : World} {rb s : Nat} {cm : Nat → Int} {mb : Nat} {E : Recs} (h : Rg w rb s cm mb E) (hk : ∀ x ∈ E, x.1 ∈ PATHS) : E.length ≤ 10 := by
  have h1 : (E.map (·.1)).Pairwise (fun a b => slt a b = true) := by
    rw [List.pairwise_map]
    exact h.ris
  have := pairwise_len (m := PATHS) h1 (fun x hx => by obtain ⟨y, hy, rfl⟩ := List.mem_map.1 hx; exact hk y hy)
  simpa [PATHS] using this
theorem Kin.at {S : List RS} (h : Kin S) {r : Nat} {s : RS} (hs : S[r]? = some s) : ∀ x ∈ s.E, x.1 ∈ PATHS := h s (List.mem_of_getElem? hs)
theorem Kin.set {S : List RS} (h : Kin S) (r : Nat) {s : RS} (hs : ∀ x ∈ s.E, x.1 ∈ PATHS) : Kin (S.set r s) := by
  intro s' hs'
  rcases List.mem_or_eq_of_mem_set hs' with h1 | rfl
  · exact h s' h1
  · exact hs
theorem kin_keep {cm : Nat → Int} {p : ByteArray} {R : Rec} {E : Recs} (hp : p ∈ PATHS) (hE : ∀ x ∈ E, x.1 ∈ PATHS) : ∀ x ∈ keepE cm p R E, x.1 ∈ PATHS := by
  intro x hx
  rcases keepE_mem hx with rfl | h
  · exact hp
  · exact hE x h
theorem Ne.step {w0 w w' : World} {nb : Nat} {S S' : List RS} {K : List Nat} {pb : Nat} {L L' : List (Nat × Nat)} (h : Ne w0 w nb S K) (hN : Nt w nb pb L S) (h1 : w0.heap.size ≤ pb) (h2 : ∀ x ∈ L, w0.heap.size ≤ x.1 ∧ w0.heap.size ≤ x.2) (h3 : ∀ k ∈ K, k < w.heap.size ∧ k ≠ nb ∧ k ≠ pb ∧ ∀ x ∈ L, k ≠ x.1 ∧ k ≠ x.2)
    (hf : Fr (fun k => k = pb ∨ ∃ x ∈ L, k = x.1 ∨ k = x.2) w w') (hN' : Nt w' nb pb L' S') (hL : ∀ x ∈ L', x ∈ L ∨ (w.heap.size ≤ x.1 ∧ w.heap.size ≤ x.2)) (hk : Kin S') (hx : Fixed w') : Ne w0 w' nb S' K ∧ Keeps K w w' := by
  have hsz := h.bel.size
  refine ⟨⟨⟨pb, L', hN', h1, fun x hx => ?_, fun k hkk => ?_⟩, h.nge, ?_, hx, hk⟩, fun k hkk => ?_⟩
  · rcases hL x hx with q | q
    · exact h2 x q
    · omega
  · obtain ⟨q1, q2, q3, q4⟩ := h3 k hkk
    refine ⟨Nat.lt_of_lt_of_le q1 hf.size, q2, q3, fun x hx => ?_⟩
    rcases hL x hx with q | q
    · exact q4 x q
    · omega
  · refine ⟨hf.os.trans h.bel.os, hf.tape.trans h.bel.tape, hf.output.trans h.bel.output, Nat.le_trans hsz hf.size, fun k hk => (hf.block k (by omega) ?_).trans (h.bel.block k hk)⟩
    rintro (rfl | ⟨x, hx, e⟩)
    · omega
    · have := h2 x hx; omega
  · obtain ⟨q1, q2, q3, q4⟩ := h3 k hkk
    refine hf.block k q1 ?_
    rintro (e | ⟨x, hx, e⟩)
    · exact q3 e
    · rcases e with e | e
      · exact (q4 x hx).1 e
      · exact (q4 x hx).2 e
theorem Ne.more {w0 w w' : World} {nb : Nat} {S : List RS} {K : List Nat} (h : Ne w0 w nb S K) (hb : Below w.heap.size w w') (hx : Fixed w') : Ne w0 w' nb S K ∧ Keeps K w w' := by
  obtain ⟨pb, L, hN, h1, h2, h3⟩ := h.ex
  exact h.step hN h1 h2 h3 (Fr.of_below hb) (hN.below hb) (fun x hx => .inl hx) h.kin hx
theorem eNew (n : Nat) (w : World) (h1 : 1 ≤ n) (h6 : n ≤ 6) (hx : Fixed w) :
    Calls (twin Tryz.prog pl) 8 #[.int .i64 n] w fun e w' => e = .returned (.tuple #[.pointer (some ⟨w.heap.size, 0, none⟩), .int .i64 0]) ∧ Ne w w' w.heap.size (newS n) [] := by
  refine (shared.calls (by decide) hx (nnew_any n w h1 h6) (fun e w' h => ⟨_, h.1⟩)).mono ?_
  rintro e w' ⟨⟨rfl, pb, L, hN, _, hp, hL, hb⟩, hx'⟩
  refine ⟨rfl, ⟨pb, L, hN, hp, hL, fun k hk => by simp at hk⟩, Nat.le_refl _, hb, hx', fun s hs x hx => ?_⟩
  obtain ⟨_, rfl⟩ := List.mem_replicate.1 hs
  simp at hx
theorem wrR_kin {r : Nat} {s : RS} {p t : ByteArray} (hp : p ∈ PATHS) (hs : ∀ x ∈ s.E, x.1 ∈ PATHS) : ∀ x ∈ (wrR r s p t).2.E, x.1 ∈ PATHS := by
  unfold wrR
  split
  · exact hs
  · exact kin_keep hp hs
theorem rmR_kin {r : Nat} {s : RS} {p : ByteArray} (hp : p ∈ PATHS) (hs : ∀ x ∈ s.E, x.1 ∈ PATHS) : ∀ x ∈ (rmR r s p).2.E, x.1 ∈ PATHS := by
  unfold rmR
  split
  · exact hs
  · split
    · exact hs
    · exact kin_keep hp hs
theorem Ne.at {w0 w : World} {nb : Nat} {S : List RS} {K : List Nat} (h : Ne w0 w nb S K) {pb : Nat} {L : List (Nat × Nat)} (hN : Nt w nb pb L S) {r : Nat} {s : RS} (hs : S[r]? = some s) : ∃ x, L[r]? = some x ∧ s.E.length ≤ 10 := by
  have hl : r < L.length := by have := (List.getElem?_eq_some_iff.1 hs).1; have := hN.len; omega
  exact ⟨_, List.getElem?_eq_getElem hl, (hN.rep r _ s (List.getElem?_eq_getElem hl) hs).small (h.kin.at hs)⟩
theorem eWrite {w0 w : World} {nb : Nat} {S : List RS} {K : List Nat} (h : Ne w0 w nb S K) (r : Nat) {s : RS} (hs : S[r]? = some s) (p t : ByteArray) (hp : p ∈ PATHS) (ht : t.size ≤ 60) :
    Calls (twin Tryz.prog pl) 10 #[.pointer (some ⟨nb, 0, none⟩), .int .i64 r, .string p, .string t] w fun e w' => e = .returned (.int .i64 (wrR r s p t).1) ∧ Ne w0 w' nb (S.set r (wrR r s p t).2) K ∧ Keeps K w w' := by
  obtain ⟨pb, L, hN, h1, h2, h3⟩ := h.ex
  obtain ⟨x, hx, hl⟩ := h.at hN hs
  obtain ⟨po, pz⟩ := PATHS_ok p hp
  refine (shared.calls (by decide) h.fix (nwrite_any hN r hx hs (by omega) p t po (by omega) ht) (fun e w' h => ⟨_, h.1⟩)).mono ?_
  rintro e w' ⟨⟨rfl, hN', hf⟩, hx'⟩
  exact ⟨rfl, h.step hN h1 h2 h3 (hf.mono fun k _ e => .inr ⟨x, List.mem_of_getElem? hx, e⟩) hN' (fun x hx => .inl hx) (h.kin.set r (wrR_kin hp (h.kin.at hs))) hx'⟩
theorem eRemove {w0 w : World} {nb : Nat} {S : List RS} {K : List Nat} (h : Ne w0 w nb S K) (r : Nat) {s : RS} (hs : S[r]? = some s) (p : ByteArray) (hp : p ∈ PATHS) :
    Calls (twin Tryz.prog pl) 21 #[.pointer (some ⟨nb, 0, none⟩), .int .i64 r, .string p] w fun e w' => e = .returned (.int .i64 (rmR r s p).1) ∧ Ne w0 w' nb (S.set r (rmR r s p).2) K ∧ Keeps K w w' := by
  obtain ⟨pb, L, hN, h1, h2, h3⟩ := h.ex
  obtain ⟨x, hx, hl⟩ := h.at hN hs
  obtain ⟨po, pz⟩ := PATHS_ok p hp
  refine (shared.calls (by decide) h.fix (nremove_any hN r hx hs (by omega) p po (by omega)) (fun e w' h => ⟨_, h.1⟩)).mono ?_
  rintro e w' ⟨⟨rfl, hN', hf⟩, hx'⟩
  exact ⟨rfl, h.step hN h1 h2 h3 (hf.mono fun k _ e => .inr ⟨x, List.mem_of_getElem? hx, e⟩) hN' (fun x hx => .inl hx) (h.kin.set r (rmR_kin hp (h.kin.at hs))) hx'⟩
theorem eRead {w0 w : World} {nb : Nat} {S : List RS} {K : List Nat} (h : Ne w0 w nb S K) (r : Nat) {s : RS} (hs : S[r]? = some s) (p : ByteArray) (hp : p ∈ PATHS) :
    Calls (twin Tryz.prog pl) 25 #[.pointer (some ⟨nb, 0, none⟩), .int .i64 r, .string p] w fun e w' => e = .returned (.tuple #[.string (rdR r s p).1, .int .i64 (rdR r s p).2]) ∧ Ne w0 w' nb S K ∧ Below w.heap.size w w' := by
  obtain ⟨pb, L, hN, h1, h2, h3⟩ := h.ex
  obtain ⟨x, hx, hl⟩ := h.at hN hs
  obtain ⟨po, pz⟩ := PATHS_ok p hp
  refine (shared.calls (by decide) h.fix (nread_any hN r hx hs p po (by omega)) (fun e w' h => ⟨_, h.1⟩)).mono ?_
  rintro e w' ⟨⟨rfl, hN', hb⟩, hx'⟩
  exact ⟨rfl, (h.more hb hx').1, hb⟩
end Go.Proofs.YtaelaldmibgibaaGreat

namespace Go.Proofs.YtaelaldmibgibaaGreat
open Go.RowKit Go.Sim

end Go.Proofs.YtaelaldmibgibaaGreat

namespace Go.Proofs.YtaelaldmibgibaaGreat
open Go.RowKit Go.Sim

section
variable {ops : Array Oper} {rest : List Oper} {o : Oper} {a : Act} {Q : Exit → Act → World → Prop} (w : World)
end
end Go.Proofs.YtaelaldmibgibaaGreat
