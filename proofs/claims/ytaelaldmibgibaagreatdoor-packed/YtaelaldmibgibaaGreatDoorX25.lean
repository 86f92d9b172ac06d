/- The twin of the program: what its tables say, and its functi. -/
import Derived.WalkKit
import Derived.Test.YtaelaldmibgibaaGreatDoorX24

set_option linter.all false

namespace Go.Proofs.K
open Go.RowKit Go.Sim
section
variable {P : Program} {A : PL}
@[simp] theorem ybx (t : TypeId) : (twin P A).underlying t = P.underlying t := rfl
@[simp] theorem tw_info (t : TypeId) : (twin P A).info? t = P.info? t := rfl
@[simp] theorem tw_types : (twin P A).toTables = P.toTables := rfl
@[simp] theorem yqq (t : TypeId) (w : World) : (typeInfo t).run (twin P A) w = (typeInfo t).run P w := by
 unfold typeInfo
 simp only [Sem.run_bind, run_program, Result.andThen_ok, tw_info]
 cases P.info? t <;> simp
@[simp] theorem ynz (t : TypeId) (w : World) : (underlying t).run (twin P A) w = (underlying t).run P w := by
 unfold underlying
 simp only [Sem.run_bind, run_program, Result.andThen_ok, ybx]
 cases P.underlying t <;> simp
@[simp] theorem tw_sizeOf (t : TypeId) (w : World) : (sizeOf t).run (twin P A) w = (sizeOf t).run P w := by
 unfold sizeOf
 simp only [Sem.run_bind, yqq]
 cases (typeInfo t).run P w <;> simp
@[simp] theorem tw_isAgg (t : TypeId) (w : World) : (isAgg t).run (twin P A) w = (isAgg t).run P w := by
 unfold isAgg
 simp only [Sem.run_bind, ynz]
 cases (underlying t).run P w with
 |ok d w' => simp only [Result.andThen_ok]; cases d <;> simp
 |halt h w' => simp
@[simp] theorem tw_zeroValue (t : TypeId) (w : World) : (zeroValue t).run (twin P A) w = (zeroValue t).run P w := by
 unfold zeroValue
 simp only [Sem.run_bind, yqq]
 cases (typeInfo t).run P w with
 |ok d w' => simp only [Result.andThen_ok]; cases d.zero <;> simp
 |halt h w' => simp
@[simp] theorem tw_fieldsOf (t : TypeId) : (twin P A).fieldsOf t = P.fieldsOf t := rfl
theorem yim {f : Nat} {fn : Func} (h : P.funcs[f]? = some fn) (h1 : f ≠ A.fPulls) (h2 : (A.gone f || (fn.body.isNone && !yvx fn)) = false) : (twin P A).funcs[f]? = some fn := tw_fn h h1 h2
theorem yqp {f : Nat} {fn : Func} (h : (twin P A).funcs[f]? = some fn) (h1 : fn.body.isNone = false) (h2 : yhc fn = true) (args : Array Value) (w : World) : (callFunc f args).run (twin P A) w = .ok (.enter f args) w :=
 yer ⟨fn, h, h1, by simpa [yhc] using h2⟩ args w
end
theorem q_func22 : (twin Tryz.prog pl).funcs[17]? = some Tryz.f17 := yim Tryz.func17 (by decide) (by kernel_rfl)
theorem yvc : (twin Tryz.prog pl).funcs[20]? = some Tryz.f20 := yim Tryz.func20 (by decide) (by kernel_rfl)
theorem q_func15 : (twin Tryz.prog pl).funcs[14]? = some Tryz.f14 := yim Tryz.func14 (by decide) (by kernel_rfl)
theorem q_func64 : (twin Tryz.prog pl).funcs[42]? = some (ytf pl) := by
 have h : Tryz.prog.funcs[42]? = some (ypw pl) := plib.pulls
 rw [yqr, h]
 rfl
@[simp] theorem q_call22 (args : Array Value) (w : World) : (callFunc 17 args).run (twin Tryz.prog pl) w = .ok (.enter 17 args) w := yqp q_func22 (by kernel_rfl) (by kernel_rfl) args w
@[simp] theorem q_call41 (args : Array Value) (w : World) : (callFunc 20 args).run (twin Tryz.prog pl) w = .ok (.enter 20 args) w := yqp yvc (by kernel_rfl) (by kernel_rfl) args w
@[simp] theorem q_call15 (args : Array Value) (w : World) : (callFunc 14 args).run (twin Tryz.prog pl) w = .ok (.enter 14 args) w := yqp q_func15 (by kernel_rfl) (by kernel_rfl) args w
@[simp] theorem q_call64 (args : Array Value) (w : World) : (callFunc 42 args).run (twin Tryz.prog pl) w = .ok (.enter 42 args) w := yqp q_func64 rfl rfl args w
theorem shl_bodies : (shl.all fun f => f == 173 || f == 174 || f == 215 || f == 241 || f == 265 || ((Tryz.prog.funcs[f]?).any fun fn => !fn.body.isNone)) = true := by kernel_rfl
theorem ygb {f : Nat} (h : shl.contains f = true) (args : Array Value) (w : World) (hn : (f == 173 || f == 174 || f == 215 || f == 241 || f == 265) = false := by decide) : (callFunc f args).run (twin Tryz.prog pl) w = .ok (.enter f args) w := by
 obtain ⟨fn, h1, _, h3⟩ := shared.ownQ f h
 have h2 := List.all_eq_true.1 shl_bodies f (by simpa using h)
 rw [hn, Bool.false_or, shared.same f h, h1] at h2
 exact yer ⟨fn, h1, by simpa using h2, h3⟩ args w
end Go.Proofs.K
