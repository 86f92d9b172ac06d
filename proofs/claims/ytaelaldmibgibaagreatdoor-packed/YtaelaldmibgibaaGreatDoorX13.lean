/- The program's files: how many records of the map are of file. -/
import Derived.Sort.MapsRangeIn
import Derived.Test.YtaelaldmibgibaaGreatDoorX12

set_option linter.all false

namespace Go.Proofs.K
open Go.RowKit Go.Maps
variable {left : Lit → Bool} {x : ByteArray} {R : Rec} {E : yau}
theorem ykz {w w' : World} {b r n cnt : Nat} {D : DataW Unit} (h : w.ranges Tryz.prog 9 yar b r n D left cnt) (hb : w'.heap[b]? = w.heap[b]?) (hr : w'.heap[r]? = w.heap[r]?) : w'.ranges Tryz.prog 9 yar b r n D left cnt := by
 obtain ⟨es, clock, since, seen, c0, h1, F, hs, hD, h2, rest⟩ := h
 exact ⟨es, clock, since, seen, c0, by rw [hb]; exact h1, F, hs, hD, by rw [hr]; exact h2, rest⟩
theorem key_of {kl : Lit} (h : keyOf Tryz.prog 9 (.string x) = some kl) : kl = key x ∧ x.size ≤ maxLen := by
 simp [keyOf, mapKey, Tryz.underlying9] at h
 exact ⟨h.2.symm, h.1⟩
theorem recDat_bn {R' : Rec} (h : yct R = yct R') : R.bn = R'.bn := by
 simp only [yct, DataW.agg.injEq, List.cons.injEq, DataW.lit.injEq, Lit.string.injEq, Lit.int.injEq, true_and, and_true] at h
 exact h.2.2.1
theorem rec_at {d : DataW Unit} (h : ∀ zd, (ycb E).atKey (key x) zd = d) : ∃ R, (x, R) ∈ E ∧ d = yct R := by
 cases hg : ybh x E with
 |none =>
  have h1 := h (.lit (.bool true))
  have h2 := h (.lit (.bool false))
  rw [yhq, hg] at h1 h2
  simp only at h1 h2
  rw [← h2] at h1
  simp at h1
 |some R =>
  have h1 := h (.lit (.bool true))
  rw [yhq, hg] at h1
  exact ⟨R, ylq hg, h1.symm⟩
def lf (left : Lit → Bool) (E : yau) : Nat := (E.filter (fun x => left (key x.1))).length
theorem yln {x : ByteArray × Rec} (h : x ∈ E) : (ybh x.1 E).isSome = true := by
 unfold ybh
 rw [Option.isSome_map, List.find?_isSome]
 exact ⟨x, h, (ydm _ _).2 rfl⟩
theorem lf_end (h : ∀ kl, left kl = false) (E : yau) : lf left E = 0 := by
 unfold lf
 rw [yhu _ _ (fun x _ => h _)]
 rfl
theorem lf_step (hE : yav E) (hx : (x, R) ∈ E) (hl : left (key x) = true) : lf left E = lf (fun z => left z && !z.sameKey (key x)) E + 1 := by
 unfold lf
 simp only [yfi]
 induction E with
 |nil => simp at hx
 |cons y E ih =>
  obtain ⟨h1, h2⟩ := List.pairwise_cons.1 hE
  rcases List.mem_cons.1 hx with rfl | hx
  ·have e : E.filter (fun y => left (key y.1) && !seq y.1 x) = E.filter (fun y => left (key y.1)) := by
    apply List.filter_congr
    intro z hz
    rw [yew (fun e => yjq (h1 z hz) e.symm)]
    simp
   have e2 : seq x x = true := (ydm _ _).2 rfl
   simp [hl, e, e2]
  ·have ih := ih h2 hx
   have e2 : seq y.1 x = false := yew (yjq (h1 _ hx))
   cases e : left (key y.1) with
   |true => simp only [List.filter_cons, e, e2, Bool.not_false, Bool.and_self, if_true, List.length_cons, ih]
   |false => simpa [e] using ih
theorem recInv (v : Value) (y : DataW Unit × List MemPlace) (h : yar v = some y) : ∃ R : Rec, v = yad R := by
 obtain ⟨R, rfl, _⟩ := ypy h
 exact ⟨R, rfl⟩
end Go.Proofs.K
