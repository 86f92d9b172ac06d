/- What the row of Packed lists gives of Go's library, in the t. -/
import Derived.Test.YtaelaldmibgibaaGreatDoorX43
import Derived.Test.YtaelaldmibgibaaGreatDoorX51

set_option linter.all false

namespace Go.Proofs.K
open Go.RowKit Go.Lib Go.Sim
theorem yez.calm {W w : World} (hw : w.heap = (calm W).heap) (h : yez W) : yez w := by
 obtain ⟨⟨m, h1⟩, ⟨te, pe, hs⟩, ⟨tr, pr, hr⟩, h2, h3⟩ := h
 refine ⟨⟨m, yen hw h1⟩, ⟨te, pe, yen hw hs⟩, ⟨tr, pr, yen hw hr⟩, ?_, by rw [hw]; simpa [Go.Sim.calm] using h3⟩
 unfold Lib.TabIs World.var? at *
 rw [yod] at *
 simp only [Option.bind_eq_bind, Option.bind_some] at *
 rw [hw]
 simp only [Go.Sim.calm, Array.getElem?_map]
 cases ho : W.heap[1]? with
 |none => rw [ho] at h2; simp at h2
 |some o =>
  rw [ho] at h2
  cases o <;> first | (simp at h2; done) | skip
  simp only [Option.map_some]
  rw [yil rfl]
  exact h2
end Go.Proofs.K
