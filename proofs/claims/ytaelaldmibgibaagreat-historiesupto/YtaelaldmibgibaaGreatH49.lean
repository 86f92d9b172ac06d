/- Lost over the twin. -/
import Derived.Test.YtaelaldmibgibaaGreatH48
import Derived.Deep.RegionLaw
import Derived.Deep.DeepCutAuto

set_option linter.unusedVariables false
set_option linter.unusedSimpArgs false
set_option linter.unusedSectionVars false

namespace Go.Proofs.YtaelaldmibgibaaGreat
open Go.RowKit Go.Sim
theorem chv_at (s : Nat) : ∀ (l : List (ByteArray × Int)) (i : Nat) (x : ByteArray × Int), l[i]? = some x → (chv s l)[i * 3]? = some (.int .i64 s) ∧ (chv s l)[i * 3 + 1]? = some (.string x.1) ∧ (chv s l)[i * 3 + 2]? = some (.int .i64 x.2)
 |[], i, x, h => by simp at h
 |y :: l, 0, x, h => by
  simp at h
  subst h
  exact ⟨rfl, rfl, rfl⟩
 |y :: l, i + 1, x, h => by
  have ih := chv_at s l i x (by simpa using h)
  have e : chv s (y :: l) = [Value.int .i64 s, .string y.1, .int .i64 y.2] ++ chv s l := rfl
  rw [e, List.getElem?_append_right (by simp; omega), List.getElem?_append_right (by simp; omega), List.getElem?_append_right (by simp; omega)]
  simp only [List.length_cons, List.length_nil]
  have e1 : (i + 1) * 3 - 3 = i * 3 := by omega
  have e2 : (i + 1) * 3 + 1 - 3 = i * 3 + 1 := by omega
  have e3 : (i + 1) * 3 + 2 - 3 = i * 3 + 2 := by omega
  simp only [Nat.zero_add, Nat.reduceAdd, e1, e2, e3]
  exact ih
end Go.Proofs.YtaelaldmibgibaaGreat
