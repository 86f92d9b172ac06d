/- The twin: what stays tame in its calls. The statements' own small functions: pick, cut, path, other. -/
import Derived.Test.YtaelaldmibgibaaGreatH10
import Derived.Test.YtaelaldmibgibaaGreatH11

set_option linter.unusedVariables false
set_option linter.unusedSimpArgs false
set_option linter.unusedSectionVars false

namespace Go.Proofs.YtaelaldmibgibaaGreat
open Go.RowKit Go.Sim
def shl2 : List Nat := shl ++ [64, 41, 22, 15, 16, 17, 7, 6, 5, 4]
def shOk (Q : Program) (l : List Nat) : Bool := l.all fun f => match Q.funcs[f]? with
 |some fn => (match fn.body with
  |some c => yhh fn && ych (fun o => ydf Q o && ydi l.contains o) c
  |none => false)
 |none => false
theorem sh_ok : shOk (twin Tryz.prog pl) shl2 = true := by kernel_rfl
theorem shOk.shared {Q : Program} {l : List Nat} (h : shOk Q l = true) : Shared Q Q l.contains := by
 unfold shOk at h
 rw [List.all_eq_true] at h
 have key : ∀ f, l.contains f = true → ∃ fn c, Q.funcs[f]? = some fn ∧ fn.body = some c ∧ yhh fn = true ∧ ych (fun o => ydf Q o && ydi l.contains o) c = true := by
  intro f hf
  have := h f (by simpa using hf)
  cases h1 : Q.funcs[f]? with
  |none => rw [h1] at this; cases this
  |some fn =>
   rw [h1] at this
   cases h2 : fn.body with
   |none => simp only [h2] at this; cases this
   |some c =>
    simp only [h2, Bool.and_eq_true] at this
    exact ⟨fn, c, rfl, h2, this.1, this.2⟩
 refine ⟨rfl, fun f hf => ?_, fun _ _ => rfl, fun f fn c hf h1 h2 => ?_⟩
 ·obtain ⟨fn, c, h1, h2, h3, _⟩ := key f hf
  exact ⟨fn, h1, by rw [h2]; rfl, by simpa [yhh] using h3⟩
 ·obtain ⟨fn', c', h1', h2', _, h4⟩ := key f hf
  rw [h1] at h1'
  cases h1'
  rw [h2] at h2'
  cases h2'
  exact h4
theorem self2 : Shared (twin Tryz.prog pl) (twin Tryz.prog pl) shl2.contains := shOk.shared sh_ok
theorem tame_on {f : Nat} {args : Array Value} {w : World} {Po : Ending → World → Prop} (hf : shl2.contains f = true) (hw : ybf w) (h : Calls (twin Tryz.prog pl) f args w Po) (hPo : ∀ e w', Po e w' → ∃ x, e = .returned x) : Calls (twin Tryz.prog pl) f args w (fun e w' => Po e w' ∧ ybf w') :=
 self2.calls hf hw h hPo
theorem ybf.alloc {w : World} (h : ybf w) (cs : Array Value) (t : TypeId) : ybf (w.alloc (.cells cs t)) := by
 intro b o ho
 by_cases hb : b < w.heap.size
 ·rw [heap_alloc_old _ _ hb] at ho
  exact h b o ho
 ·have : b = w.heap.size := by have := (Array.getElem?_eq_some_iff.1 ho).1; simp at this; omega
  subst this
  rw [heap_alloc_new] at ho
  cases ho
  rfl
def pickR (c n : Int) : Int := (if c < 0 then -(c + 1) else c) % n
def pDir (k : Nat) : ByteArray := ⟨#[100, 105, 114, 47, (97 + k).toUInt8]⟩
def otherR (r c n : Int) : Int := (r + 1 + pickR c (n - 1)) % n
@[simp] theorem q_call14 (args : Array Value) (w : World) : (callFunc 14 args).run (twin Tryz.prog pl) w = .ok (.enter 14 args) w := yco (by decide) args w
end Go.Proofs.YtaelaldmibgibaaGreat
