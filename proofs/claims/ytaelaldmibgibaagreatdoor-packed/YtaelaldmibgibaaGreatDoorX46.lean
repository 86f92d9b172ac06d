/- A net in new memory, as the statements' functions hold it; i. -/
import Derived.Test.YtaelaldmibgibaaGreatDoorX26
import Derived.Test.YtaelaldmibgibaaGreatDoorX27
import Derived.Test.YtaelaldmibgibaaGreatDoorX28
import Derived.Test.YtaelaldmibgibaaGreatDoorX42

set_option linter.all false

namespace Go.Proofs.K
open Go.RowKit Go.Sim
variable {w w0 : World} {cm : Nat → Int} {E : yau} {S : List RS} {nb r : Nat} {s y : RS} {p : ByteArray} {K : List Nat}
def yhd : ByteArray := ⟨#[102, 105, 114, 115, 116]⟩
def pX : ByteArray := ⟨#[120]⟩
def yck : List ByteArray := [yhd, pX, pDir 0, pDir 1, pDir 2, pDir 3, pDir 4, pDir 5, pDir 6, pDir 7]
theorem ygj : ∀ p ∈ yck, ybm p = true ∧ p.size ≤ 12 := by decide
def Kin (S : List RS) : Prop := ∀ s ∈ S, ∀ x ∈ s.E, x.1 ∈ yck
structure Ne (w0 w : World) (nb : Nat) (S : List RS) (K : List Nat) : Prop where
 ex : ∃ pb L, Nt w nb pb L S ∧ w0.heap.size ≤ pb ∧ (∀ x ∈ L, w0.heap.size ≤ x.1 ∧ w0.heap.size ≤ x.2) ∧ ∀ k ∈ K, k < w.heap.size ∧ k ≠ nb ∧ k ≠ pb ∧ ∀ x ∈ L, k ≠ x.1 ∧ k ≠ x.2
 nge : w0.heap.size ≤ nb
 bel : Below w0.heap.size w0 w
 fix : ybr w
 kin : Kin S
def ydr (K : List Nat) (w w' : World) : Prop := ∀ k ∈ K, w'.heap[k]? = w.heap[k]?
theorem ynt {l m : List ByteArray} (h : l.Pairwise (fun a b => slt a b = true)) (hm : ∀ x ∈ l, x ∈ m) : l.length ≤ m.length := by
 induction l generalizing m with
 |nil => exact Nat.zero_le _
 |cons a l ih =>
  obtain ⟨h1, h2⟩ := List.pairwise_cons.1 h
  obtain ⟨m1, m2, rfl⟩ := List.append_of_mem (hm a (List.mem_cons_self ..))
  have := ih (m := m1 ++ m2) h2 (fun x hx => by
   have q := hm x (List.mem_cons_of_mem _ hx)
   rw [List.mem_append, List.mem_cons] at q
   rcases q with q | rfl | q
   ·exact List.mem_append.2 (.inl q)
   ·have := h1 x hx
    rw [ycc] at this
    cases this
   ·exact List.mem_append.2 (.inr q))
  simp only [List.length_cons, List.length_append] at this ⊢
  omega
theorem Rg.small {rb s : Nat} {mb : Nat} (h : Rg w rb s cm mb E) (hk : ∀ x ∈ E, x.1 ∈ yck) : E.length ≤ 10 := by
 have h1 : (E.map (·.1)).Pairwise (fun a b => slt a b = true) := by
  rw [List.pairwise_map]
  exact h.ris
 have := ynt (m := yck) h1 (fun x hx => by obtain ⟨y, hy, rfl⟩ := List.mem_map.1 hx; exact hk y hy)
 simpa [yck] using this
theorem Kin.at (h : Kin S) (hs : S[r]? = some s) : ∀ x ∈ s.E, x.1 ∈ yck := h s (List.mem_of_getElem? hs)
theorem Kin.set (h : Kin S) (r : Nat) (hs : ∀ x ∈ s.E, x.1 ∈ yck) : Kin (S.set r s) := by
 intro s' hs'
 rcases List.mem_or_eq_of_mem_set hs' with h1 | rfl
 ·exact h s' h1
 ·exact hs
theorem yjx {R : Rec} (hp : p ∈ yck) (hE : ∀ x ∈ E, x.1 ∈ yck) : ∀ x ∈ yce cm p R E, x.1 ∈ yck := by
 intro x hx
 rcases yjg hx with rfl | h
 ·exact hp
 ·exact hE x h
theorem Ne.step {w0 w w' : World} {nb : Nat} {S S' : List RS} {K : List Nat} {pb : Nat} {L L' : List (Nat × Nat)} (h : Ne w0 w nb S K) (hN : Nt w nb pb L S) (h1 : w0.heap.size ≤ pb) (h2 : ∀ x ∈ L, w0.heap.size ≤ x.1 ∧ w0.heap.size ≤ x.2) (h3 : ∀ k ∈ K, k < w.heap.size ∧ k ≠ nb ∧ k ≠ pb ∧ ∀ x ∈ L, k ≠ x.1 ∧ k ≠ x.2)
  (hf : Fr (fun k => k = pb ∨ ∃ x ∈ L, k = x.1 ∨ k = x.2) w w') (hN' : Nt w' nb pb L' S') (hL : ∀ x ∈ L', x ∈ L ∨ (w.heap.size ≤ x.1 ∧ w.heap.size ≤ x.2)) (hk : Kin S') (hx : ybr w') : Ne w0 w' nb S' K ∧ ydr K w w' := by
 have hsz := h.bel.size
 refine ⟨⟨⟨pb, L', hN', h1, fun x hx => ?_, fun k hkk => ?_⟩, h.nge, ?_, hx, hk⟩, fun k hkk => ?_⟩
 ·rcases hL x hx with q | q
  ·exact h2 x q
  ·omega
 ·obtain ⟨q1, q2, q3, q4⟩ := h3 k hkk
  refine ⟨Nat.lt_of_lt_of_le q1 hf.size, q2, q3, fun x hx => ?_⟩
  rcases hL x hx with q | q
  ·exact q4 x q
  ·omega
 ·refine ⟨hf.os.trans h.bel.os, hf.tape.trans h.bel.tape, hf.output.trans h.bel.output, Nat.le_trans hsz hf.size, fun k hk => (hf.block k (by omega) ?_).trans (h.bel.block k hk)⟩
  rintro (rfl | ⟨x, hx, e⟩)
  ·omega
  ·have := h2 x hx; omega
 ·obtain ⟨q1, q2, q3, q4⟩ := h3 k hkk
  refine hf.block k q1 ?_
  rintro (e | ⟨x, hx, e⟩)
  ·exact q3 e
  ·rcases e with e | e
   ·exact (q4 x hx).1 e
   ·exact (q4 x hx).2 e
theorem Ne.more {w' : World} (h : Ne w0 w nb S K) (hb : Below w.heap.size w w') (hx : ybr w') : Ne w0 w' nb S K ∧ ydr K w w' := by
 obtain ⟨pb, L, hN, h1, h2, h3⟩ := h.ex
 exact h.step hN h1 h2 h3 (Fr.of_below hb) (hN.below hb) (fun x hx => .inl hx) h.kin hx
theorem eNew (n : Nat) (w : World) (h1 : 1 ≤ n) (h6 : n ≤ 6) (hx : ybr w) :
  Calls (twin Tryz.prog pl) 25 #[.int .i64 n] w fun e w' => e = .returned (.tuple #[.pointer (some ⟨w.heap.size, 0, none⟩), .int .i64 0]) ∧ Ne w w' w.heap.size (ykw n) [] := by
 refine (shared.calls (by decide) hx (nnew_any n w h1 h6) (fun e w' h => ⟨_, h.1⟩)).mono ?_
 rintro e w' ⟨⟨rfl, pb, L, hN, _, hp, hL, hb⟩, hx'⟩
 refine ⟨rfl, ⟨pb, L, hN, hp, hL, fun k hk => by simp at hk⟩, Nat.le_refl _, hb, hx', fun s hs x hx => ?_⟩
 obtain ⟨_, rfl⟩ := List.mem_replicate.1 hs
 simp at hx
theorem wrR_kin {t : ByteArray} (hp : p ∈ yck) (hs : ∀ x ∈ s.E, x.1 ∈ yck) : ∀ x ∈ (wrR r s p t).2.E, x.1 ∈ yck := by
 unfold wrR
 split
 ·exact hs
 ·exact yjx hp hs
theorem rmR_kin (hp : p ∈ yck) (hs : ∀ x ∈ s.E, x.1 ∈ yck) : ∀ x ∈ (rmR r s p).2.E, x.1 ∈ yck := by
 unfold rmR
 split
 ·exact hs
 ·split
  ·exact hs
  ·exact yjx hp hs
theorem ppR_kin {r' : Nat} (hp : p ∈ yck) (hs : ∀ x ∈ s.E, x.1 ∈ yck) : ∀ x ∈ (ppR r s r' y p).2.2.E, x.1 ∈ yck := by
 unfold ppR
 split
 ·exact hs
 ·exact yjx hp hs
theorem Ne.at (h : Ne w0 w nb S K) {pb : Nat} {L : List (Nat × Nat)} (hN : Nt w nb pb L S) (hs : S[r]? = some s) : ∃ x, L[r]? = some x ∧ s.E.length ≤ 10 := by
 have hl : r < L.length := by have := (List.getElem?_eq_some_iff.1 hs).1; have := hN.len; omega
 exact ⟨_, List.getElem?_eq_getElem hl, (hN.rep r _ s (List.getElem?_eq_getElem hl) hs).small (h.kin.at hs)⟩
theorem eWrite (h : Ne w0 w nb S K) (r : Nat) (hs : S[r]? = some s) (p t : ByteArray) (hp : p ∈ yck) (ht : t.size ≤ 60) :
  Calls (twin Tryz.prog pl) 29 #[.pointer (some ⟨nb, 0, none⟩), .int .i64 r, .string p, .string t] w fun e w' => e = .returned (.int .i64 (wrR r s p t).1) ∧ Ne w0 w' nb (S.set r (wrR r s p t).2) K ∧ ydr K w w' := by
 obtain ⟨pb, L, hN, h1, h2, h3⟩ := h.ex
 obtain ⟨x, hx, hl⟩ := h.at hN hs
 obtain ⟨po, pz⟩ := ygj p hp
 refine (shared.calls (by decide) h.fix (nwrite_any hN r hx hs (by omega) p t po (by omega) ht) (fun e w' h => ⟨_, h.1⟩)).mono ?_
 rintro e w' ⟨⟨rfl, hN', hf⟩, hx'⟩
 exact ⟨rfl, h.step hN h1 h2 h3 (hf.mono fun k _ e => .inr ⟨x, List.mem_of_getElem? hx, e⟩) hN' (fun x hx => .inl hx) (h.kin.set r (wrR_kin hp (h.kin.at hs))) hx'⟩
theorem eRemove (h : Ne w0 w nb S K) (r : Nat) (hs : S[r]? = some s) (p : ByteArray) (hp : p ∈ yck) :
  Calls (twin Tryz.prog pl) 33 #[.pointer (some ⟨nb, 0, none⟩), .int .i64 r, .string p] w fun e w' => e = .returned (.int .i64 (rmR r s p).1) ∧ Ne w0 w' nb (S.set r (rmR r s p).2) K ∧ ydr K w w' := by
 obtain ⟨pb, L, hN, h1, h2, h3⟩ := h.ex
 obtain ⟨x, hx, hl⟩ := h.at hN hs
 obtain ⟨po, pz⟩ := ygj p hp
 refine (shared.calls (by decide) h.fix (nremove_any hN r hx hs (by omega) p po (by omega)) (fun e w' h => ⟨_, h.1⟩)).mono ?_
 rintro e w' ⟨⟨rfl, hN', hf⟩, hx'⟩
 exact ⟨rfl, h.step hN h1 h2 h3 (hf.mono fun k _ e => .inr ⟨x, List.mem_of_getElem? hx, e⟩) hN' (fun x hx => .inl hx) (h.kin.set r (rmR_kin hp (h.kin.at hs))) hx'⟩
theorem eRead (h : Ne w0 w nb S K) (r : Nat) (hs : S[r]? = some s) (p : ByteArray) (hp : p ∈ yck) :
  Calls (twin Tryz.prog pl) 30 #[.pointer (some ⟨nb, 0, none⟩), .int .i64 r, .string p] w fun e w' => e = .returned (.tuple #[.string (rdR r s p).1, .int .i64 (rdR r s p).2]) ∧ Ne w0 w' nb S K ∧ Below w.heap.size w w' := by
 obtain ⟨pb, L, hN, h1, h2, h3⟩ := h.ex
 obtain ⟨x, hx, hl⟩ := h.at hN hs
 obtain ⟨po, pz⟩ := ygj p hp
 refine (shared.calls (by decide) h.fix (nread_any hN r hx hs p po (by omega)) (fun e w' h => ⟨_, h.1⟩)).mono ?_
 rintro e w' ⟨⟨rfl, hN', hb⟩, hx'⟩
 exact ⟨rfl, (h.more hb hx').1, hb⟩
theorem ePullPath (h : Ne w0 w nb S K) (a b : Nat) (hab : a ≠ b) {x : RS} (hx : S[a]? = some x) (hy : S[b]? = some y) (p : ByteArray) (hp : p ∈ yck) (hrm : ∀ R, noRoom R x.E = false) :
  Calls (twin Tryz.prog pl) 34 #[.pointer (some ⟨nb, 0, none⟩), .int .i64 a, .int .i64 b, .string p] w fun e w' => e = .returned (.tuple #[.int .i64 (ppR a x b y p).1, .int .i64 (ppR a x b y p).2.1]) ∧ Ne w0 w' nb (S.set a (ppR a x b y p).2.2) K ∧ ydr K w w' := by
 obtain ⟨pb, L, hN, h1, h2, h3⟩ := h.ex
 obtain ⟨u, hu, hl⟩ := h.at hN hx
 obtain ⟨v, hv, _⟩ := h.at hN hy
 obtain ⟨po, pz⟩ := ygj p hp
 refine (shared.calls (by decide) h.fix (npull_any hN a b hab hu hv hx hy (by omega) p po (by omega) hrm) (fun e w' h => ⟨_, h.1⟩)).mono ?_
 rintro e w' ⟨⟨rfl, hN', hf⟩, hx'⟩
 exact ⟨rfl, h.step hN h1 h2 h3 (hf.mono fun k _ e => .inr ⟨u, List.mem_of_getElem? hu, e⟩) hN' (fun x hx => .inl hx) (h.kin.set a (ppR_kin hp (h.kin.at hx))) hx'⟩
end Go.Proofs.K

namespace Go.Proofs.K
open Go.RowKit Go.Sim
theorem rsR_kin {r : Nat} {s : RS} {r' : Nat} {y : RS} {p : ByteArray} {th : Bool} (hp : p ∈ yck) (hs : ∀ x ∈ s.E, x.1 ∈ yck) : ∀ x ∈ (rsR r s r' y p th).2.E, x.1 ∈ yck := by
 unfold rsR rsRec
 split
 ·exact hs
 ·split
  ·exact hs
  ·exact yjx hp hs
theorem eResolve {w0 w : World} {nb : Nat} {S : List RS} {K : List Nat} (h : Ne w0 w nb S K) (a b : Nat) (hab : a ≠ b) {x y : RS} (hx : S[a]? = some x) (hy : S[b]? = some y) (p : ByteArray) (hp : p ∈ yck) (th : Bool) (hc : x.cm a < 1000000000) (hrm : ∀ R, noRoom R x.E = false) :
  Calls (twin Tryz.prog pl) 35 #[.pointer (some ⟨nb, 0, none⟩), .int .i64 a, .int .i64 b, .string p, .bool th] w fun e w' => e = .returned (.int .i64 (rsR a x b y p th).1) ∧ Ne w0 w' nb (S.set a (rsR a x b y p th).2) K ∧ ydr K w w' := by
 obtain ⟨pb, L, hN, h1, h2, h3⟩ := h.ex
 obtain ⟨u, hu, hl⟩ := h.at hN hx
 obtain ⟨v, hv, _⟩ := h.at hN hy
 obtain ⟨po, pz⟩ := ygj p hp
 refine (shared.calls (by decide) h.fix (yxf hN a b hab hu hv hx hy (by omega) p po (by omega) th hc hrm) (fun e w' h => ⟨_, h.1⟩)).mono ?_
 rintro e w' ⟨⟨rfl, hN', hf⟩, hx'⟩
 exact ⟨rfl, h.step hN h1 h2 h3 (hf.mono fun k _ e => .inr ⟨u, List.mem_of_getElem? hu, e⟩) hN' (fun x hx => .inl hx) (h.kin.set a (rsR_kin hp (h.kin.at hx))) hx'⟩
end Go.Proofs.K
