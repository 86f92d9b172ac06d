/- The twin of the program: what its tables say, and its functions, for the walk. -/
import Derived.Test.YtaelaldmibgibaaGreatH09
import Derived.WalkKit
import Derived.Laws.StructEq

set_option linter.unusedVariables false
set_option linter.unusedSimpArgs false
set_option linter.unusedSectionVars false

namespace Go.Proofs.YtaelaldmibgibaaGreat
open Go.RowKit Go.Sim
section
variable {P : Program} {A : PL}
@[simp] theorem yga (t : TypeId) : (twin P A).underlying t = P.underlying t := rfl
@[simp] theorem ytl (t : TypeId) : (twin P A).info? t = P.info? t := rfl
@[simp] theorem tw_types : (twin P A).toTables = P.toTables := rfl
@[simp] theorem yma (t : TypeId) (w : World) : (typeInfo t).run (twin P A) w = (typeInfo t).run P w := by
 unfold typeInfo
 simp only [Sem.run_bind, run_program, Result.andThen_ok, ytl]
 cases P.info? t <;> simp
@[simp] theorem yjw (t : TypeId) (w : World) : (underlying t).run (twin P A) w = (underlying t).run P w := by
 unfold underlying
 simp only [Sem.run_bind, run_program, Result.andThen_ok, yga]
 cases P.underlying t <;> simp
@[simp] theorem tw_sizeOf (t : TypeId) (w : World) : (sizeOf t).run (twin P A) w = (sizeOf t).run P w := by
 unfold sizeOf
 simp only [Sem.run_bind, yma]
 cases (typeInfo t).run P w <;> simp
@[simp] theorem tw_isAgg (t : TypeId) (w : World) : (isAgg t).run (twin P A) w = (isAgg t).run P w := by
 unfold isAgg
 simp only [Sem.run_bind, yjw]
 cases (underlying t).run P w with
 |ok d w' => simp only [Result.andThen_ok]; cases d <;> simp
 |halt h w' => simp
@[simp] theorem tw_zeroValue (t : TypeId) (w : World) : (zeroValue t).run (twin P A) w = (zeroValue t).run P w := by
 unfold zeroValue
 simp only [Sem.run_bind, yma]
 cases (typeInfo t).run P w with
 |ok d w' => simp only [Result.andThen_ok]; cases d.zero <;> simp
 |halt h w' => simp
@[simp] theorem tw_fieldsOf (t : TypeId) : (twin P A).fieldsOf t = P.fieldsOf t := rfl
theorem yjh {f : Nat} {fn : Func} (h : P.funcs[f]? = some fn) (h1 : f ≠ A.fPulls) (h2 : (A.gone f || fn.body.isNone) = false) : (twin P A).funcs[f]? = some fn := by
 rw [← yiq h1 (fun ⟨_, fn', hf, hg⟩ => by rw [h] at hf; cases hf; rw [h2] at hg; cases hg)]
 exact h
theorem yjg {f : Nat} {fn : Func} (h : (twin P A).funcs[f]? = some fn) (h1 : fn.body.isNone = false) (h2 : yhh fn = true) (args : Array Value) (w : World) : (callFunc f args).run (twin P A) w = .ok (.enter f args) w :=
 ydt ⟨fn, h, h1, by simpa [yhh] using h2⟩ args w
end
theorem q_func22 : (twin Tryz.prog pl).funcs[22]? = some Tryz.f22 := yjh Tryz.func22 (by decide) (by kernel_rfl)
theorem ykh : (twin Tryz.prog pl).funcs[41]? = some Tryz.f41 := yjh Tryz.func41 (by decide) (by kernel_rfl)
theorem q_func15 : (twin Tryz.prog pl).funcs[15]? = some Tryz.f15 := yjh Tryz.func15 (by decide) (by kernel_rfl)
theorem q_func64 : (twin Tryz.prog pl).funcs[64]? = some (yre pl) := by
 have h : Tryz.prog.funcs[64]? = some (yln pl) := plib.pulls
 rw [ypd, h]
 rfl
@[simp] theorem q_call22 (args : Array Value) (w : World) : (callFunc 22 args).run (twin Tryz.prog pl) w = .ok (.enter 22 args) w := yjg q_func22 (by kernel_rfl) (by kernel_rfl) args w
@[simp] theorem q_call41 (args : Array Value) (w : World) : (callFunc 41 args).run (twin Tryz.prog pl) w = .ok (.enter 41 args) w := yjg ykh (by kernel_rfl) (by kernel_rfl) args w
@[simp] theorem q_call15 (args : Array Value) (w : World) : (callFunc 15 args).run (twin Tryz.prog pl) w = .ok (.enter 15 args) w := yjg q_func15 (by kernel_rfl) (by kernel_rfl) args w
@[simp] theorem q_call64 (args : Array Value) (w : World) : (callFunc 64 args).run (twin Tryz.prog pl) w = .ok (.enter 64 args) w := yjg q_func64 rfl rfl args w
theorem yco {f : Nat} (h : shl.contains f = true) (args : Array Value) (w : World) : (callFunc f args).run (twin Tryz.prog pl) w = .ok (.enter f args) w := ydt (shared.ownQ f h) args w
end Go.Proofs.YtaelaldmibgibaaGreat
