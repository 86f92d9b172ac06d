/- What the row of Twice lists, and the memory's shape, give of Go's library. -/
import Derived.Test.YtaelaldmibgibaaGreatDoorT14
import Derived.Test.YtaelaldmibgibaaGreatDoorT51
import Derived.Test.YtaelaldmibgibaaGreatDoorRows
import Derived.Stop.LaidErr
import Derived.Lib.LaidTab
import Derived.LaidSub
import Derived.Maps.OwnOps

set_option linter.unusedVariables false
set_option linter.unusedSimpArgs false
set_option linter.unusedSectionVars false
set_option maxRecDepth 100000

namespace Go.Proofs.YtaelaldmibgibaaGreatDoor
open Go.RowKit Go.Lib Go.Sim
theorem gPowType : (Tryz.prog.globals[1]?).map (·.type) = some 285 := by kernel_rfl
theorem cellsU64 : Tryz.prog.cellsOf 145 = 1 := by kernel_rfl
theorem cellsPow : Tryz.prog.cellsOf 285 = 20 := by kernel_rfl
theorem powLaid : (Rows.laid_internal_strconv_uint64pow10 : DataW Unit) = Lib.tabData .u64 Lib.pow10Tab := by kernel_rfl
theorem laidNoneT : (Rows.twiceRow.laid.filter fun x => x.2.handleName?.isNone) = Rows.twiceRow.laid := by kernel_rfl
theorem cell_intT {P : Program} {w : World} {r : Reach} {base : Nat} {t : TypeId} {v : Value} (ht : P.underlying t = some (.int .i64)) (h : Cell.ok P w r base t v) : ∃ m, v = .int .i64 m := by
 unfold Cell.ok at h
 rw [ht] at h
 cases v with
 |int k n =>
  obtain ⟨rfl, _⟩ := h
  exact ⟨n, rfl⟩
 |_ => exact absurd h (by simp)
theorem globT_of (W : World) (hL : laidMetH Tryz.prog Rows.twiceRow.laid W) (hS : W.ShapedOpen Tryz.prog) : yli W := by
 have h0 := (laidMetH_iff.1 hL).1
 rw [laidNoneT] at h0
 have h1 : laidMet Tryz.prog [("math/bits.deBruijn32tab", Rows.laid_math_bits_deBruijn32tab), ("math/bits.deBruijn64tab", Rows.laid_math_bits_deBruijn64tab), ("internal/strconv.uint64pow10", Rows.laid_internal_strconv_uint64pow10)] W := h0
 have hT : Lib.TabIs Tryz.prog W "internal/strconv.uint64pow10" .u64 Lib.pow10Tab := by
  have := h1.tail.tail
  rw [powLaid] at this
  exact tabIs_of_head yqe gPowType Tryz.underlying285 Tryz.underlying145 cellsU64 cellsPow this
 have g0 : ∃ cs, W.heap[0]? = some (.cells cs 3) ∧ cs.size = 1 ∧ (Tryz.prog.buildable 3 = true → Row.ok Tryz.prog W .any 0 3 cs) := hS.1 0 #[.int .i64 0] 3 (by decide +kernel) (by kernel_rfl)
 have hz : 7 < W.heap.size := by
  have hg7 : (7 : Nat) < Tryz.prog.globals.size := by decide +kernel
  have hi : (((begin Tryz.prog (fun _ _ => 0) default).world.heap[7]?).bind Obj.row?).isSome = true := by kernel_rfl
  obtain ⟨⟨zero, t⟩, e⟩ := Option.isSome_iff_exists.1 hi
  obtain ⟨cs, hc, _⟩ := hS.1 7 zero t hg7 e
  exact (Array.getElem?_eq_some_iff.1 hc).1
 refine ⟨?_, hT, by omega⟩
 ·obtain ⟨cs, hc, hsz, hok⟩ := g0
  obtain ⟨ts, ht, _, hv⟩ := hok (by kernel_rfl)
  have h1 : cs[0]? = some cs[0] := Array.getElem?_eq_getElem (by omega)
  obtain ⟨u, hu, hcell⟩ := hv 0 _ h1
  have hts : ts = [3] := by
   have : Tryz.prog.cellTypes Tryz.prog.depth 3 = some [3] := by kernel_rfl
   exact Option.some.inj (ht.symm.trans this)
  subst hts
  simp at hu
  subst hu
  obtain ⟨m, hm⟩ := cell_intT Tryz.underlying3 hcell
  exact ⟨m, by simp only [World.cell?, hc]; rw [h1, hm]; rfl⟩
theorem yli.calm {W w : World} (hw : w.heap = (calm W).heap) (h : yli W) : yli w := by
 obtain ⟨⟨m, h1⟩, h2, h3⟩ := h
 refine ⟨⟨m, yfw hw h1⟩, ?_, by rw [hw]; simpa [Go.Sim.calm] using h3⟩
 unfold Lib.TabIs World.var? at *
 rw [yqe] at *
 simp only [Option.bind_eq_bind, Option.bind_some] at *
 rw [hw]
 simp only [Go.Sim.calm, Array.getElem?_map]
 cases ho : W.heap[1]? with
 |none => rw [ho] at h2; simp at h2
 |some o =>
  rw [ho] at h2
  cases o <;> first | (simp at h2; done) | skip
  simp only [Option.map_some]
  rw [ygu rfl]
  exact h2
end Go.Proofs.YtaelaldmibgibaaGreatDoor
