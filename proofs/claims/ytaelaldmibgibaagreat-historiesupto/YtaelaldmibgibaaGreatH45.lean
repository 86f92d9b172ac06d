/- A net in new memory, as the statements' functions hold it; its calls in the twin. The twin: Resolve. Histories: calls of the net that are refused. The twin: append keeps memory tame. -/
import Derived.Test.YtaelaldmibgibaaGreatH12
import Derived.Test.YtaelaldmibgibaaGreatH13
import Derived.Test.YtaelaldmibgibaaGreatH14
import Derived.Test.YtaelaldmibgibaaGreatH35
import Derived.Test.YtaelaldmibgibaaGreatH33
import Derived.Test.YtaelaldmibgibaaGreatH42
import Derived.Deep.AppendLies

set_option linter.unusedVariables false
set_option linter.unusedSimpArgs false
set_option linter.unusedSectionVars false
set_option maxHeartbeats 1000000
set_option maxRecDepth 100000

namespace Go.Proofs.YtaelaldmibgibaaGreat
open Go.RowKit Go.Sim
def pFirst : ByteArray := ⟨#[102, 105, 114, 115, 116]⟩
def pX : ByteArray := ⟨#[120]⟩
def PATHS : List ByteArray := [pFirst, pX, pDir 0, pDir 1, pDir 2, pDir 3, pDir 4, pDir 5, pDir 6, pDir 7]
def Kin (S : List RS) : Prop := ∀ s ∈ S, ∀ x ∈ s.E, x.1 ∈ PATHS
structure Ne (w0 w : World) (nb : Nat) (S : List RS) (K : List Nat) : Prop where
 ex : ∃ pb L, Nt w nb pb L S ∧ w0.heap.size ≤ pb ∧ (∀ x ∈ L, w0.heap.size ≤ x.1 ∧ w0.heap.size ≤ x.2) ∧ ∀ k ∈ K, k < w.heap.size ∧ k ≠ nb ∧ k ≠ pb ∧ ∀ x ∈ L, k ≠ x.1 ∧ k ≠ x.2
 nge : w0.heap.size ≤ nb
 bel : Below w0.heap.size w0 w
 fix : ybf w
 kin : Kin S
theorem yqh {l m : List ByteArray} (h : l.Pairwise (fun a b => slt a b = true)) (hm : ∀ x ∈ l, x ∈ m) : l.length ≤ m.length := by
 induction l generalizing m with
 |nil => exact Nat.zero_le _
 |cons a l ih =>
  obtain ⟨h1, h2⟩ := List.pairwise_cons.1 h
  obtain ⟨m1, m2, rfl⟩ := List.append_of_mem (hm a (List.mem_cons_self ..))
  have := ih (m := m1 ++ m2) h2 (fun x hx => by
   have q := hm x (List.mem_cons_of_mem _ hx)
   rw [List.mem_append, List.mem_cons] at q
   rcases q with q | rfl | q
   ·exact List.mem_append.2 (.inl q)
   ·have := h1 x hx
    rw [ybt] at this
    cases this
   ·exact List.mem_append.2 (.inr q))
  simp only [List.length_cons, List.length_append] at this ⊢
  omega
theorem eNew (n : Nat) (w : World) (h1 : 1 ≤ n) (h6 : n ≤ 6) (hx : ybf w) :
  Calls (twin Tryz.prog pl) 8 #[.int .i64 n] w fun e w' => e = .returned (.tuple #[.pointer (some ⟨w.heap.size, 0, none⟩), .int .i64 0]) ∧ Ne w w' w.heap.size (yke n) [] := by
 refine (shared.calls (by decide) hx (nnew_any n w h1 h6) (fun e w' h => ⟨_, h.1⟩)).mono ?_
 rintro e w' ⟨⟨rfl, pb, L, hN, _, hp, hL, hb⟩, hx'⟩
 refine ⟨rfl, ⟨pb, L, hN, hp, hL, fun k hk => by simp at hk⟩, Nat.le_refl _, hb, hx', fun s hs x hx => ?_⟩
 obtain ⟨_, rfl⟩ := List.mem_replicate.1 hs
 simp at hx
def okR (n : Nat) (r : Int) : Bool := decide (0 ≤ r ∧ r < n)
section
variable {nb pb : Nat} {L : List (Nat × Nat)} {S : List RS} {w : World}
theorem yiz (h : Nt w nb pb L S) (r : Int) (p : ByteArray) (hs : p.size ≤ maxLen) (hno : okR S.length r = false ∨ yat p = false) :
  Calls Tryz.prog 29 #[.pointer (some ⟨nb, 0, none⟩), .int .i64 r, .string p] w fun e w' => (∃ er : Int, (er = 1 ∨ er = 2) ∧ e = .returned (.tuple #[.pointer none, .int .i64 er])) ∧ w' = w := by
 by_cases hr : 0 ≤ r ∧ r < S.length
 ·have hp : yat p = false := by
   rcases hno with q | q
   ·unfold okR at q; simp at q; omega
   ·exact q
  refine (yqk nb S.length pb (L.map (·.1)) r p w h.net hr hp hs).mono ?_
  rintro e w' ⟨rfl, rfl⟩
  exact ⟨⟨2, .inr rfl, rfl⟩, rfl⟩
 ·refine (yss nb S.length pb (L.map (·.1)) r p w h.net hr).mono ?_
  rintro e w' ⟨rfl, rfl⟩
  exact ⟨⟨1, .inl rfl, rfl⟩, rfl⟩
theorem nwrite_no (h : Nt w nb pb L S) (r : Int) (p t : ByteArray) (hs : p.size ≤ maxLen) (hno : okR S.length r = false ∨ yat p = false) :
  Calls Tryz.prog 10 #[.pointer (some ⟨nb, 0, none⟩), .int .i64 r, .string p, .string t] w fun e w' => (∃ er : Int, er ≠ 0 ∧ e = .returned (.int .i64 er)) ∧ w' = w := by
 have C := yab (yiz h r p hs hno)
 clear h hs hno
 go_enter Tryz.func10, Tryz.ntmps10
 go_wp2_with (go_at_call 29; refine C.out.mono ?_; rintro e w1 ⟨⟨er, hq, rfl⟩, rfl⟩; rcases hq with rfl | rfl)
 all_goals
  go_ret
  exact ⟨⟨_, by decide, rfl⟩, rfl⟩
theorem ysl (h : Nt w nb pb L S) (r : Nat) (hr : r < S.length) (p t : ByteArray) (hp : yat p = true) (hpm : p.size ≤ 1000000) (ht : 60 < t.size) (hts : t.size ≤ 1000000000000) :
  Calls Tryz.prog 10 #[.pointer (some ⟨nb, 0, none⟩), .int .i64 r, .string p, .string t] w fun e w' => (∃ er : Int, er ≠ 0 ∧ e = .returned (.int .i64 er)) ∧ w' = w := by
 have hl : r < L.length := by have := h.len; omega
 have C := yab (yfe nb S.length pb (L.map (·.1)) r (L[r]).1 p w h.net (by rw [List.getElem?_map, List.getElem?_eq_getElem hl]; rfl) hp (by unfold maxLen; omega))
 have d1 : decide ((60 : Int) < (t.size : Int)) = true := by simp; omega
 clear h hp hpm ht
 go_enter Tryz.func10, Tryz.ntmps10
 go_wp2_with (go_at_call 29; refine C.out.mono ?_; rintro e w1 ⟨rfl, rfl⟩)
 go_ret
 exact ⟨⟨3, by decide, rfl⟩, rfl⟩
theorem nremove_no (h : Nt w nb pb L S) (r : Int) (p : ByteArray) (hs : p.size ≤ maxLen) (hno : okR S.length r = false ∨ yat p = false) :
  Calls Tryz.prog 21 #[.pointer (some ⟨nb, 0, none⟩), .int .i64 r, .string p] w fun e w' => (∃ er : Int, er ≠ 0 ∧ e = .returned (.int .i64 er)) ∧ w' = w := by
 have C := yab (yiz h r p hs hno)
 clear h hs hno
 go_enter Tryz.func21, Tryz.ntmps21
 go_wp2_with (go_at_call 29; refine C.out.mono ?_; rintro e w1 ⟨⟨er, hq, rfl⟩, rfl⟩; rcases hq with rfl | rfl)
 all_goals
  go_ret
  exact ⟨⟨_, by decide, rfl⟩, rfl⟩
theorem ylj (h : Nt w nb pb L S) (a b : Int) (p : ByteArray) (hs : p.size ≤ maxLen) (hno : okP S.length a b = false ∨ yat p = false) :
  Calls Tryz.prog 43 #[.pointer (some ⟨nb, 0, none⟩), .int .i64 a, .int .i64 b, .string p] w fun e w' => (∃ er : Int, (er = 1 ∨ er = 2) ∧ e = .returned (.tuple #[.pointer none, .pointer none, .int .i64 er])) ∧ Below w.heap.size w w' := by
 have B1 : Hid (Below w.heap.size w (w.alloc (.cells #[.int .i64 a, .int .i64 b] 100))) := (Below.refl _ _).alloc (Nat.le_refl _) _
 have AP := yab (yer nb S.length pb (L.map (·.1)) w.heap.size 1 a b (w.alloc (.cells #[.int .i64 a, .int .i64 b] 100)) (h.net.below h.nlt h.plt B1.out) (by have := h.nlt; simp; omega) (by have := h.plt; simp; omega) (by simp) (by simp [go_sem]) (by simp [go_sem]))
 have PO : Hid (∀ V, Below w.heap.size w V → yat p = false → Calls Tryz.prog 29 #[.pointer (some ⟨nb, 0, none⟩), .int .i64 a, .string p] V fun e w' => (∃ er : Int, (er = 1 ∨ er = 2) ∧ e = .returned (.tuple #[.pointer none, .int .i64 er])) ∧ w' = V) := fun V hV hp => yiz (h.below hV) a p hs (.inr hp)
 clear h hs
 cases hk : okP S.length a b
 ·rw [hk] at AP
  clear hno PO
  go_enter Tryz.func43, Tryz.ntmps43
  go_wp2_with (go_at_call 62; refine AP.out.mono ?_; rintro e w1 ⟨rfl, hb1⟩; have B2 := yab (B1.out.trans (hb1.mono (by simp))); clear hb1)
  all_goals
   go_ret3
   exact ⟨⟨1, .inl rfl, rfl⟩, B2.out⟩
 ·have hp : yat p = false := by
   rcases hno with q | q
   ·rw [hk] at q; cases q
   ·exact q
  rw [hk] at AP
  have HP := yab hp
  clear hno hp
  go_enter Tryz.func43, Tryz.ntmps43
  go_wp2_with (first
   |(go_at_call 62; refine AP.out.mono ?_; rintro e w1 ⟨rfl, hb1⟩; have B2 := yab (B1.out.trans (hb1.mono (by simp))); clear hb1)
   |(go_at_call 29; refine (PO.out _ B2.out HP.out).mono ?_; rintro e w2 ⟨⟨er, hq, rfl⟩, rfl⟩; rcases hq with rfl | rfl))
  ·go_ret3
   exact ⟨⟨1, .inl rfl, rfl⟩, B2.out⟩
  ·go_ret3
   exact ⟨⟨2, .inr rfl, rfl⟩, B2.out⟩
theorem npath_no (h : Nt w nb pb L S) (a b : Int) (p : ByteArray) (hs : p.size ≤ maxLen) (hno : okP S.length a b = false ∨ yat p = false) :
  Calls Tryz.prog 26 #[.pointer (some ⟨nb, 0, none⟩), .int .i64 a, .int .i64 b, .string p] w fun e w' => (∃ er : Int, er ≠ 0 ∧ e = .returned (.tuple #[.int .i64 0, .int .i64 er])) ∧ Below w.heap.size w w' := by
 have C := yab (ylj h a b p hs hno)
 clear h hs hno
 go_enter Tryz.func26, Tryz.ntmps26
 go_wp2_with (go_at_call 43; refine C.out.mono ?_; rintro e w1 ⟨⟨er, hq, rfl⟩, hb1⟩; have B1 := yab hb1; clear hb1; rcases hq with rfl | rfl)
 all_goals
  go_ret2
  exact ⟨⟨_, by decide, rfl⟩, B1.out⟩
theorem ysk (h : Nt w nb pb L S) (a b : Int) (p : ByteArray) (th : Bool) (hs : p.size ≤ maxLen) (hno : okP S.length a b = false ∨ yat p = false) :
  Calls Tryz.prog 27 #[.pointer (some ⟨nb, 0, none⟩), .int .i64 a, .int .i64 b, .string p, .bool th] w fun e w' => (∃ er : Int, er ≠ 0 ∧ e = .returned (.int .i64 er)) ∧ Below w.heap.size w w' := by
 have C := yab (ylj h a b p hs hno)
 clear h hs hno
 go_enter Tryz.func27, Tryz.ntmps27
 go_wp2_with (go_at_call 43; refine C.out.mono ?_; rintro e w1 ⟨⟨er, hq, rfl⟩, hb1⟩; have B1 := yab hb1; clear hb1; rcases hq with rfl | rfl)
 all_goals
  go_ret
  exact ⟨⟨_, by decide, rfl⟩, B1.out⟩
theorem qround_no (nb g cp : Nat) (w : World) {P1 : World → Prop} (h1 : Calls (twin Tryz.prog pl) 62 #[.pointer (some ⟨nb, 0, none⟩), .slice (some ⟨g, 0, none⟩) 1 cp] w fun e w' => e = .returned (.bool false) ∧ P1 w') :
  Calls (twin Tryz.prog pl) 41 #[.pointer (some ⟨nb, 0, none⟩), .slice (some ⟨g, 0, none⟩) 1 cp] w fun e w' => e = .returned (.tuple #[.slice none 0 0, .int .i64 1]) ∧ P1 w' := by
 have H1 := yab h1
 clear h1
 go_enter ykh, Tryz.ntmps41
 go_wp2_with (go_at_call 62; refine H1.out.mono ?_; rintro e w1 ⟨rfl, hp1⟩; have P1' := yab hp1; clear hp1)
 go_ret2
 exact ⟨rfl, P1'.out⟩
theorem npull_no (h : Nt w nb pb L S) (hF : ybf w) (a b : Int) (hno : okP S.length a b = false) :
  Calls (twin Tryz.prog pl) 22 #[.pointer (some ⟨nb, 0, none⟩), .int .i64 a, .int .i64 b] w fun e w' => ∃ r1 r2, e = .returned (.tuple #[r1, r2]) ∧ (r1 = .slice none 0 0 ∧ r2 = .int .i64 1 ∧ Below w.heap.size w w') := by
 refine qpull nb a b w _ ?_
 have bW : Below w.heap.size w (w.alloc (.cells #[.int .i64 a, .int .i64 b] 100)) := (Below.refl _ _).alloc (Nat.le_refl _) _
 have hN := h.below bW
 have h1 : Calls (twin Tryz.prog pl) 62 #[.pointer (some ⟨nb, 0, none⟩), .slice (some ⟨w.heap.size, 0, none⟩) 1 1] (w.alloc (.cells #[.int .i64 a, .int .i64 b] 100)) fun e w' => e = .returned (.bool false) ∧ Below w.heap.size w w' := by
  refine (shared.calls (by decide) (ybf.alloc hF _ _) (yer nb S.length pb (L.map (·.1)) w.heap.size 1 a b _ hN.net hN.nlt hN.plt (by simp) (by simp only [World.cell?, heap_alloc_new]; rfl) (by simp only [World.cell?, heap_alloc_new]; rfl)) (fun e w' h => ⟨_, h.1⟩)).mono ?_
  rintro e w' ⟨⟨rfl, hb⟩, hf⟩
  rw [hno]
  exact ⟨rfl, bW.trans (hb.mono bW.size)⟩
 refine (qround_no nb w.heap.size 1 _ h1).mono ?_
 rintro e w' ⟨rfl, hb⟩
 exact ⟨_, _, rfl, rfl, rfl, hb⟩
end
end Go.Proofs.YtaelaldmibgibaaGreat

namespace Go.Proofs.YtaelaldmibgibaaGreat
open Go.RowKit Go.Sim
section
variable {ops : Array Oper} {rest : List Oper} {o : Oper} {a : Act} {Q : Exit → Act → World → Prop} (w : World)
end
end Go.Proofs.YtaelaldmibgibaaGreat
