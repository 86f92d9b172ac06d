/- A row that bears 'leaving', from the same row without it: a call that starts no goroutine leaves none behind. -/
import Derived.JoinedCond

set_option linter.unusedVariables false
set_option linter.unusedSimpArgs false

namespace Go.Proofs.YtaelaldmibgibaaGreatDoor

theorem only_of_quiet {P : Program} {m : Machine} (h : m.quiet) : m.OnlyLeaving P := by
  obtain ⟨h1, h2⟩ := h
  refine ⟨fun g hg => ⟨0, ?_⟩, h2⟩
  unfold Machine.othersDone at h1
  simp only [List.all_eq_true] at h1
  have := h1 g hg
  unfold Goroutine.LeavesIn
  revert this
  cases g.status <;> simp_all

theorem leaving_of_alone {a : Assume} {st : Option Stop.Interp} {C : Checked} {os : Os} {f : FuncId} {r : Reach} {ok : Program → World → Reach → Nat → FuncId → Input → Prop}
    {Pre : World → Array Value → Prop} {Post : World → Array Value → Value → World → Prop} {al : Machine → Prop}
    (h : ReturnsInOpen a st C os f r ok Pre Post (aloneAtReturn C.prog) al) : ReturnsInOpen a st C os f r ok Pre Post (leavingAtReturn C.prog) al := by
  obtain ⟨h1, h2, h3, h4, all⟩ := h
  refine ⟨h1, h2, h3, h4, fun w t i hf => ?_⟩
  obtain ⟨n, v, w', x1, x2, x3, x4, ⟨j, last, y1, y2, q, y3, y4⟩, x5⟩ := all w t i hf
  exact ⟨n, v, w', x1, x2, x3, x4, ⟨j, last, y1, y2, y3, only_of_quiet q, y4⟩, x5⟩

theorem holds_leaving {p : Pinned} {s : OpenSpec} {c : OpenClaim} (hstart : c.start = .entering) (hst : c.stops = []) (hag : c.again = false)
    (h : ({ c with leaving := false } : OpenClaim).holds p s) : ({ c with leaving := true } : OpenClaim).holds p s := by
  obtain ⟨w, a2, a3, a4, a5, a6, a7, a8, f, fn, g1, g2, b⟩ := h
  refine ⟨?_, a2, a3, a4, a5, a6, a7, a8, f, fn, g1, g2, ?_⟩
  · have e : ({ c with leaving := true } : OpenClaim).wf s = ({ c with leaving := false } : OpenClaim).wf s := by
      unfold OpenClaim.wf
      simp only [hag, Bool.false_and, Bool.not_false, Bool.and_true]
      rfl
    rw [e]
    exact w
  · obtain ⟨b1, b2, b3, b4, b5, b6, b7, b8, b9, b10, b11, b12, b13, b14, b15, b16, b17, b18, b19, L, b20, all⟩ := b
    refine ⟨b1, b2, b3, b4, b5, b6, b7, b8, b9, b10, b11, b12, b13, b14, b15, b16, b17, b18, b19, L, b20, fun os x y H enc inj => ?_⟩
    have A := all os x y H enc inj
    unfold OpenClaim.form at A ⊢
    simp only [hstart, hst] at A ⊢
    exact fun F => leaving_of_alone (A F)

end Go.Proofs.YtaelaldmibgibaaGreatDoor
