/- The program's files: how many records of the map are of files that are there. -/
import Derived.Test.YtaelaldmibgibaaGreatDoorRows
import Derived.WalkKit
import Derived.WalkSpells
import Derived.WalkLawsBesides
import Derived.Deep.AppendLies
import Derived.Deep.MidRow
import Derived.Deep.DrawnRows
import Derived.BigQuiet
import Derived.Deep.QuietTactic
import Derived.Deep.RegionWith
import Derived.Deep.RegionHeld3
import Derived.Test.YtaelaldmibgibaaGreatDoorT01
import Derived.ChangeKeysEq
import Derived.Deep.RegionLaw
import Derived.Deep.DeepMust
import Derived.Maps.OwnSet
import Derived.Maps.OwnOps
import Derived.Maps.Range
import Derived.Maps.RangeWalk
import Derived.Sort.MapsRangeIn
import Derived.Test.YtaelaldmibgibaaGreatDoorT03
import Derived.Test.YtaelaldmibgibaaGreatDoorT04
import Derived.Test.YtaelaldmibgibaaGreatDoorT05
import Derived.Test.YtaelaldmibgibaaGreatDoorT06
import Derived.Test.YtaelaldmibgibaaGreatDoorT07
import Derived.Test.YtaelaldmibgibaaGreatDoorT08

set_option linter.unusedVariables false
set_option linter.unusedSimpArgs false
set_option linter.unusedSectionVars false

namespace Go.Proofs.YtaelaldmibgibaaGreatDoor
open Go.RowKit Go.Maps
theorem ymz {w w' : World} {b r n cnt : Nat} {D : DataW Unit} {left : Lit → Bool} (h : w.ranges Tryz.prog 9 yaq b r n D left cnt) (hb : w'.heap[b]? = w.heap[b]?) (hr : w'.heap[r]? = w.heap[r]?) : w'.ranges Tryz.prog 9 yaq b r n D left cnt := by
 obtain ⟨es, clock, since, seen, c0, h1, F, hs, hD, h2, rest⟩ := h
 exact ⟨es, clock, since, seen, c0, by rw [hb]; exact h1, F, hs, hD, by rw [hr]; exact h2, rest⟩
theorem key_of {x : ByteArray} {kl : Lit} (h : keyOf Tryz.prog 9 (.string x) = some kl) : kl = key x ∧ x.size ≤ maxLen := by
 simp [keyOf, mapKey, Tryz.underlying9] at h
 exact ⟨h.2.symm, h.1⟩
theorem recDat_bn {R R' : Rec} (h : ycx R = ycx R') : R.bn = R'.bn := by
 simp only [ycx, DataW.agg.injEq, List.cons.injEq, DataW.lit.injEq, Lit.string.injEq, Lit.int.injEq, true_and, and_true] at h
 exact h.2.2.1
theorem rec_at {E : yat} {x : ByteArray} {d : DataW Unit} (h : ∀ zd, (ybt E).atKey (key x) zd = d) : ∃ R, (x, R) ∈ E ∧ d = ycx R := by
 cases hg : yas x E with
 |none =>
  have h1 := h (.lit (.bool true))
  have h2 := h (.lit (.bool false))
  rw [ygi, hg] at h1 h2
  simp only at h1 h2
  rw [← h2] at h1
  simp at h1
 |some R =>
  have h1 := h (.lit (.bool true))
  rw [ygi, hg] at h1
  exact ⟨R, yhx hg, h1.symm⟩
def lf (left : Lit → Bool) (E : yat) : Nat := (E.filter (fun x => left (key x.1))).length
theorem yjl {E : yat} {x : ByteArray × Rec} (h : x ∈ E) : (yas x.1 E).isSome = true := by
 unfold yas
 rw [Option.isSome_map, List.find?_isSome]
 exact ⟨x, h, (yjc _ _).2 rfl⟩
theorem lf_end {left : Lit → Bool} (h : ∀ kl, left kl = false) (E : yat) : lf left E = 0 := by
 unfold lf
 rw [yis _ _ (fun x _ => h _)]
 rfl
theorem lf_step {E : yat} (hE : yau E) {left : Lit → Bool} {x : ByteArray} {R : Rec} (hx : (x, R) ∈ E) (hl : left (key x) = true) : lf left E = lf (fun z => left z && !z.sameKey (key x)) E + 1 := by
 unfold lf
 simp only [yfq]
 induction E with
 |nil => simp at hx
 |cons y E ih =>
  obtain ⟨h1, h2⟩ := List.pairwise_cons.1 hE
  rcases List.mem_cons.1 hx with rfl | hx
  ·have e : E.filter (fun y => left (key y.1) && !seq y.1 x) = E.filter (fun y => left (key y.1)) := by
    apply List.filter_congr
    intro z hz
    rw [yfa (fun e => yio (h1 z hz) e.symm)]
    simp
   have e2 : seq x x = true := (yjc _ _).2 rfl
   simp [hl, e, e2]
  ·have ih := ih h2 hx
   have e2 : seq y.1 x = false := yfa (yio (h1 _ hx))
   cases e : left (key y.1) with
   |true => simp only [List.filter_cons, e, e2, Bool.not_false, Bool.and_self, if_true, List.length_cons, ih]
   |false => simpa [e] using ih
theorem recInv (v : Value) (y : DataW Unit × List MemPlace) (h : yaq v = some y) : ∃ R : Rec, v = yae R := by
 obtain ⟨R, rfl, _⟩ := yna h
 exact ⟨R, rfl⟩
end Go.Proofs.YtaelaldmibgibaaGreatDoor
