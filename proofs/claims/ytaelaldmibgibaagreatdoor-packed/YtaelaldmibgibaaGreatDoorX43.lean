/- What the row of Unpacks lists, and the memory's shape, give . -/
import Derived.Stop.LaidErr
import Derived.LaidSub
import Derived.Test.YtaelaldmibgibaaGreatDoorX31

set_option linter.all false
set_option maxRecDepth 100000

namespace Go.Proofs.K
open Go.Proofs.YtaelaldmibgibaaGreatDoor
open Go.RowKit Go.Lib
theorem gES : Tryz.prog.globalNamed "strconv.ErrSyntax" = some 2 := by kernel_rfl
theorem gESType : (Tryz.prog.globals[2]?).map (·.type) = some 136 := by kernel_rfl
theorem gER : Tryz.prog.globalNamed "strconv.ErrRange" = some 3 := by kernel_rfl
theorem gERType : (Tryz.prog.globals[3]?).map (·.type) = some 136 := by kernel_rfl
theorem cellsES : Tryz.prog.cellsOf 325 = 1 := by kernel_rfl
theorem cellsS : Tryz.prog.cellsOf 9 = 1 := by kernel_rfl
theorem starES : "*" ++ "errors.errorString" = "*errors.errorString" := by decide
theorem rowES (u : TypeId) (h : Tryz.prog.typeName? 3 u = some "*errors.errorString") : u = 323 :=
 typeName_ptr_named (nm := "errors.errorString") (by rw [starES]; kernel_rfl) (by kernel_rfl) (by decide) u (by rw [starES]; exact h)
theorem gPowType : (Tryz.prog.globals[1]?).map (·.type) = some 285 := by kernel_rfl
theorem cellsU64 : Tryz.prog.cellsOf 145 = 1 := by kernel_rfl
theorem cellsPow : Tryz.prog.cellsOf 285 = 20 := by kernel_rfl
theorem powLaid : (Rows.laid_internal_strconv_uint64pow10 : DataW Unit) = Lib.tabData .u64 Lib.pow10Tab := by kernel_rfl
theorem laidNone : (Rows.unpacksUptoRow.laid.filter fun x => x.2.handleName?.isNone) = Rows.unpacksUptoRow.laid := by kernel_rfl
theorem cell_int {P : Program} {w : World} {r : Reach} {base : Nat} {t : TypeId} {v : Value} (ht : P.underlying t = some (.int .i64)) (h : Cell.ok P w r base t v) : ∃ m, v = .int .i64 m := by
 unfold Cell.ok at h
 rw [ht] at h
 cases v with
 |int k n =>
  obtain ⟨rfl, _⟩ := h
  exact ⟨n, rfl⟩
 |_ => exact absurd h (by simp)
theorem glob_of (W : World) (hL : laidMetH Tryz.prog Rows.unpacksUptoRow.laid W) (hS : W.ShapedOpen Tryz.prog) : yez W := by
 have h0 := (laidMetH_iff.1 hL).1
 rw [laidNone] at h0
 have h1 : laidMet Tryz.prog [("math/bits.deBruijn32tab", Rows.laid_math_bits_deBruijn32tab), ("math/bits.deBruijn64tab", Rows.laid_math_bits_deBruijn64tab), ("internal/strconv.uint64pow10", Rows.laid_internal_strconv_uint64pow10), ("unicode/utf8.acceptRanges", Rows.laid_unicode_utf8_acceptRanges), ("strconv.ErrRange", Rows.laid_strconv_ErrRange), ("strconv.ErrSyntax", Rows.laid_strconv_ErrSyntax), ("unicode/utf8.first", Rows.laid_unicode_utf8_first)] W := h0
 have hT : Lib.TabIs Tryz.prog W "internal/strconv.uint64pow10" .u64 Lib.pow10Tab := by
  have := h1.tail.tail
  rw [powLaid] at this
  exact tabIs_of_head yod gPowType Tryz.underlying285 Tryz.underlying145 cellsU64 cellsPow this
 obtain ⟨a0, s0, hv0, -, -, -⟩ := laid_sentinel h1.tail.tail.tail.tail.tail gES gESType Tryz.underlying136 rowES Tryz.underlying323 Tryz.underlying325 rfl rfl Tryz.underlying9 cellsES cellsS
 obtain ⟨a1, s1, hv1, -, -, -⟩ := laid_sentinel h1.tail.tail.tail.tail gER gERType Tryz.underlying136 rowES Tryz.underlying323 Tryz.underlying325 rfl rfl Tryz.underlying9 cellsES cellsS
 have g0 : ∃ cs, W.heap[0]? = some (.cells cs 3) ∧ cs.size = 1 ∧ (Tryz.prog.buildable 3 = true → Row.ok Tryz.prog W .any 0 3 cs) := hS.1 0 #[.int .i64 0] 3 (by decide +kernel) (by kernel_rfl)
 have hz : 7 < W.heap.size := by
  have hg7 : (7 : Nat) < Tryz.prog.globals.size := by decide +kernel
  have hi : (((begin Tryz.prog (fun _ _ => 0) default).world.heap[7]?).bind Obj.row?).isSome = true := by kernel_rfl
  obtain ⟨⟨zero, t⟩, e⟩ := Option.isSome_iff_exists.1 hi
  obtain ⟨cs, hc, _⟩ := hS.1 7 zero t hg7 e
  exact (Array.getElem?_eq_some_iff.1 hc).1
 refine ⟨?_, ?_, ?_, hT, by omega⟩
 ·obtain ⟨cs, hc, hsz, hok⟩ := g0
  obtain ⟨ts, ht, _, hv⟩ := hok (by kernel_rfl)
  have h1 : cs[0]? = some cs[0] := Array.getElem?_eq_getElem (by omega)
  obtain ⟨u, hu, hcell⟩ := hv 0 _ h1
  have hts : ts = [3] := by
   have : Tryz.prog.cellTypes Tryz.prog.depth 3 = some [3] := by kernel_rfl
   exact Option.some.inj (ht.symm.trans this)
  subst hts
  simp at hu
  subst hu
  obtain ⟨m, hm⟩ := cell_int Tryz.underlying3 hcell
  exact ⟨m, by simp only [World.cell?, hc]; rw [h1, hm]; rfl⟩
 ·exact ⟨_, _, by have h0 := World.var?_cell gES hv0 0; simpa using h0⟩
 ·exact ⟨_, _, by have h0 := World.var?_cell gER hv1 0; simpa using h0⟩
end Go.Proofs.K
