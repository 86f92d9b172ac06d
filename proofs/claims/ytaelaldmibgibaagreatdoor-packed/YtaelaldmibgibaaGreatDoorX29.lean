/- The package-level variables that the rows list: a world that. -/
import Derived.Test.YtaelaldmibgibaaGreatDoorCards
import Derived.Test.YtaelaldmibgibaaGreatDoorTie
import Derived.ProofKit
import Derived.OpenShut
import Derived.Deep.DeepWitnessRowRef
import Derived.Lib.LaidTab

set_option linter.all false

namespace Go.Proofs.K
open Go.Proofs.YtaelaldmibgibaaGreatDoor
def lit1 : DataW Unit → Value
 |.lit (.int k z) => .int k z
 |_ => .bool false
def yob : DataW Unit → Array Value
 |.agg l => (l.map lit1).toArray
 |_ => #[]
def aggCells2 : DataW Unit → Array Value
 |.agg l => (l.map fun d => match d with
  |.agg m => m.map lit1
  |_ => []).flatten.toArray
 |_ => #[]
def yid (h : Array Obj) (g : Nat) (cs : Array Value) : Array Obj := h.modify g fun
 |.cells _ t frozen => .cells cs t frozen
 |o => o
def errText : ByteArray := ⟨#[105, 110, 118, 97, 108, 105, 100, 32, 115, 121, 110, 116, 97, 120]⟩
def rangeText : ByteArray := ⟨#[118, 97, 108, 117, 101, 32, 111, 117, 116, 32, 111, 102, 32, 114, 97, 110, 103, 101]⟩
def heldIn : Input := ⟨#[.cells #[.string errText] 325, .cells #[.string rangeText] 325], #[], []⟩
def laidOf (w0 : World) (N : Nat) : World :=
 let h1 := yid (yid w0.heap 2 #[.iface 323 (.pointer (some ⟨N, 0, none⟩))]) 3 #[.iface 323 (.pointer (some ⟨N + 1, 0, none⟩))]
 let h2 := yid (yid (yid h1 1 (yob Rows.laid_internal_strconv_uint64pow10)) 4 (yob Rows.laid_math_bits_deBruijn32tab)) 5 (yob Rows.laid_math_bits_deBruijn64tab)
 { w0 with heap := yid (yid h2 6 (yob Rows.laid_unicode_utf8_first)) 7 (aggCells2 Rows.laid_unicode_utf8_acceptRanges) }
theorem tied_card (Lk : Looks) {p : Pinned} {s : OpenSpec} {c : OpenClaim} (kinds : List LaidKind) (tests : Bool) (har : Bool × String) (lk goes : Bool)
  (hc : c.holds p s) (hw : c.wfByText s = true) (htie : c.laidByTextAt Lk p kinds tests)
  (hst : c.start = .entering) (hnb : c.noBlocks = false ∧ c.again = false) (hm : p.checked.prog.mainIs = some (har.1, har.2.toList)) (hn : (!har.1 && har.2.isEmpty && !lk) = false)
  (hl : ∀ f fn, p.checked.prog.funcNamed c.func = some f → p.checked.prog.funcs[f]? = some fn → lk = p.checked.prog.looks [] ∧ ∀ (j : Nat) t, fn.params[j]? = some t → p.checked.prog.wantsStandIn t = false)
  (hg : goes = c.goesBy p.checked.prog) :
  Claim7.holds p (.plain s) { stood := { row := c, standIns := [], harness := har, looks := lk }, kinds := [], alts := [], goes := goes, laidByText := true, laidKinds := kinds, laidTests := tests, laidLooks := Lk } := by
 have h6 : ∀ r : OpenClaim, Claim7.isSixth { stood := { row := r, standIns := [], harness := har, looks := lk }, kinds := [] } = false := fun r => by simpa [Claim7.isSixth] using hn
 exact ⟨Claim7.tied_new_at Lk kinds tests (Claim7.new_of_sixth hc har lk hst hnb hm (h6 c) hl) hw, (fun D hD => by cases hD), htie, (fun h => by cases h), hg⟩
end Go.Proofs.K
