/- A row that bears 'leaving', from the same row without it: a call that starts no goroutine leaves none behind. The package-level variables that the rows list: a world that holds them; the card of a row whose calls may go. -/
import Derived.Test.YtaelaldmibgibaaGreatDoorW25
import Derived.JoinedCond
import Derived.Test.YtaelaldmibgibaaGreatDoorCards
import Derived.Test.YtaelaldmibgibaaGreatDoorTie
import Derived.ProofKit
import Derived.OpenShut
import Derived.Deep.DeepWitnessRowRef
import Derived.Lib.LaidTab

namespace Go.Proofs.YtaelaldmibgibaaGreatDoor

theorem only_of_quiet {P : Program} {m : Machine} (h : m.quiet) : m.OnlyLeaving P := by
  obtain ⟨h1, h2⟩ := h
  refine ⟨fun g hg => ⟨0, ?_⟩, h2⟩
  unfold Machine.othersDone at h1
  simp only [List.all_eq_true] at h1
  have := h1 g hg
  unfold Goroutine.LeavesIn
  revert this
  cases g.status <;> simp_all

theorem leaving_of_alone {a : Assume} {st : Option Stop.Interp} {C : Checked} {os : Os} {f : FuncId} {r : Reach} {ok : Program → World → Reach → Nat → FuncId → Input → Prop}
    {Pre : World → Array Value → Prop} {Post : World → Array Value → Value → World → Prop} {al : Machine → Prop}
    (h : ReturnsInOpen a st C os f r ok Pre Post (aloneAtReturn C.prog) al) : ReturnsInOpen a st C os f r ok Pre Post (leavingAtReturn C.prog) al := by
  obtain ⟨h1, h2, h3, h4, all⟩ := h
  refine ⟨h1, h2, h3, h4, fun w t i hf => ?_⟩
  obtain ⟨n, v, w', x1, x2, x3, x4, ⟨j, last, y1, y2, q, y3, y4⟩, x5⟩ := all w t i hf
  exact ⟨n, v, w', x1, x2, x3, x4, ⟨j, last, y1, y2, y3, only_of_quiet q, y4⟩, x5⟩

theorem holds_leaving {p : Pinned} {s : OpenSpec} {c : OpenClaim} (hstart : c.start = .entering) (hst : c.stops = []) (hag : c.again = false)
    (h : ({ c with leaving := false } : OpenClaim).holds p s) : ({ c with leaving := true } : OpenClaim).holds p s := by
  obtain ⟨w, a2, a3, a4, a5, a6, a7, a8, f, fn, g1, g2, b⟩ := h
  refine ⟨?_, a2, a3, a4, a5, a6, a7, a8, f, fn, g1, g2, ?_⟩
  · have e : ({ c with leaving := true } : OpenClaim).wf s = ({ c with leaving := false } : OpenClaim).wf s := by
      unfold OpenClaim.wf
      simp only [hag, Bool.false_and, Bool.not_false, Bool.and_true]
      rfl
    rw [e]
    exact w
  · obtain ⟨b1, b2, b3, b4, b5, b6, b7, b8, b9, b10, b11, b12, b13, b14, b15, b16, b17, b18, b19, L, b20, all⟩ := b
    refine ⟨b1, b2, b3, b4, b5, b6, b7, b8, b9, b10, b11, b12, b13, b14, b15, b16, b17, b18, b19, L, b20, fun os x y H enc inj => ?_⟩
    have A := all os x y H enc inj
    unfold OpenClaim.form at A ⊢
    simp only [hstart, hst] at A ⊢
    exact fun F => leaving_of_alone (A F)

end Go.Proofs.YtaelaldmibgibaaGreatDoor

namespace Go.Proofs.YtaelaldmibgibaaGreatDoor

def lit1 : DataW Unit → Value
  | .lit (.int k z) => .int k z
  | _ => .bool false
def aggCells : DataW Unit → Array Value
  | .agg l => (l.map lit1).toArray
  | _ => #[]
def aggCells2 : DataW Unit → Array Value
  | .agg l => (l.map fun d => match d with
    | .agg m => m.map lit1
    | _ => []).flatten.toArray
  | _ => #[]
def putCells (h : Array Obj) (g : Nat) (cs : Array Value) : Array Obj := h.modify g fun
  | .cells _ t frozen => .cells cs t frozen
  | o => o
def errText : ByteArray := ⟨#[105, 110, 118, 97, 108, 105, 100, 32, 115, 121, 110, 116, 97, 120]⟩
def rangeText : ByteArray := ⟨#[118, 97, 108, 117, 101, 32, 111, 117, 116, 32, 111, 102, 32, 114, 97, 110, 103, 101]⟩
/-- the settled world with two blocks more (the two errors), the listed variables holding what their initialisers lay -/
noncomputable def laidWorld (os : Os) : World :=
  let N := (World.settled Tryz.prog os).heap.size
  let w0 := World.holding Tryz.prog os ⟨#[.cells #[.string errText] 325, .cells #[.string rangeText] 325], #[], []⟩
  let h1 := putCells (putCells w0.heap 2 #[.iface 323 (.pointer (some ⟨N, 0, none⟩))]) 3 #[.iface 323 (.pointer (some ⟨N + 1, 0, none⟩))]
  let h2 := putCells (putCells (putCells h1 1 (aggCells Rows.laid_internal_strconv_uint64pow10)) 4 (aggCells Rows.laid_math_bits_deBruijn32tab)) 5 (aggCells Rows.laid_math_bits_deBruijn64tab)
  { w0 with heap := putCells (putCells h2 6 (aggCells Rows.laid_unicode_utf8_first)) 7 (aggCells2 Rows.laid_unicode_utf8_acceptRanges) }

set_option maxRecDepth 1000000 in
theorem laid_met (os : Os) (args : Array Value) : laidMet Tryz.prog Rows.writesUptoRow.laid ((laidWorld os).forCall (fun _ _ => 0) ⟨#[], args, []⟩).memory :=
  laidMet_of_run' 8 (by kernel_rfl) (by kernel_rfl)

/-- a tied card, whether the row's calls may go or not -/
theorem tied_card (Lk : Looks) {p : Pinned} {s : OpenSpec} {c : OpenClaim} (kinds : List LaidKind) (tests : Bool) (har : Bool × String) (lk goes : Bool)
    (hc : c.holds p s) (hw : c.wfByText s = true) (htie : c.laidByTextAt Lk p kinds tests)
    (hst : c.start = .entering) (hnb : c.noBlocks = false ∧ c.again = false) (hm : p.checked.prog.mainIs = some (har.1, har.2.toList)) (hn : (!har.1 && har.2.isEmpty && !lk) = false)
    (hl : ∀ f fn, p.checked.prog.funcNamed c.func = some f → p.checked.prog.funcs[f]? = some fn → lk = p.checked.prog.looks [] ∧ ∀ (j : Nat) t, fn.params[j]? = some t → p.checked.prog.wantsStandIn t = false)
    (hg : goes = c.goesBy p.checked.prog) :
    Claim7.holds p (.plain s) { stood := { row := c, standIns := [], harness := har, looks := lk }, kinds := [], alts := [], goes := goes, laidByText := true, laidKinds := kinds, laidTests := tests, laidLooks := Lk } := by
  have h6 : ∀ r : OpenClaim, Claim7.isSixth { stood := { row := r, standIns := [], harness := har, looks := lk }, kinds := [] } = false := fun r => by simpa [Claim7.isSixth] using hn
  exact ⟨Claim7.tied_new_at Lk kinds tests (Claim7.new_of_sixth hc har lk hst hnb hm (h6 c) hl) hw, (fun D hD => by cases hD), htie, (fun h => by cases h), hg⟩

end Go.Proofs.YtaelaldmibgibaaGreatDoor
