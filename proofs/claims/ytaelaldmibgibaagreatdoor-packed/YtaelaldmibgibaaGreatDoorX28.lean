/- The twin: what stays tame in its calls. -/
import Derived.Test.YtaelaldmibgibaaGreatDoorX25
import Derived.Test.YtaelaldmibgibaaGreatDoorX03

set_option linter.all false
set_option maxHeartbeats 400000

namespace Go.Proofs.K
open Go.RowKit Go.Sim
variable {w : World}
def shl2 : List Nat := shl ++ [42, 20, 17, 14, 15, 9]
def shOk (Q : Program) (l : List Nat) : Bool := l.all fun f => match Q.funcs[f]? with
 |some fn => (match fn.body with
  |some c => yhc fn && ybe (fun o => okG Q o && ycv l.contains o) c
  |none => yvx fn)
 |none => false
theorem sh_ok : shOk (twin Tryz.prog pl) shl2 = true := by kernel_rfl
theorem shOk.shared {Q : Program} {l : List Nat} (h : shOk Q l = true) : Shared Q Q l.contains := by
 unfold shOk at h
 rw [List.all_eq_true] at h
 have key : ∀ f, l.contains f = true → ∃ fn, Q.funcs[f]? = some fn ∧ ((∃ c, fn.body = some c ∧ yhc fn = true ∧ ybe (fun o => okG Q o && ycv l.contains o) c = true) ∨ (fn.body = none ∧ yvx fn = true)) := by
  intro f hf
  have := h f (by simpa using hf)
  cases h1 : Q.funcs[f]? with
  |none => rw [h1] at this; cases this
  |some fn =>
   rw [h1] at this
   cases h2 : fn.body with
   |none => simp only [h2] at this; exact ⟨fn, rfl, .inr ⟨h2, this⟩⟩
   |some c =>
    simp only [h2, Bool.and_eq_true] at this
    exact ⟨fn, rfl, .inl ⟨c, h2, this.1, this.2⟩⟩
 refine ⟨rfl, fun f hf => ?_, fun _ _ => rfl, fun f fn c hf h1 h2 => ?_⟩
 ·obtain ⟨fn, h1, ⟨c, h2, h3, _⟩ | ⟨h2, h3⟩⟩ := key f hf
  ·exact ⟨fn, h1, .inl (by rw [h2]; rfl), by simpa [yhc] using h3⟩
  ·exact ⟨fn, h1, .inr (natB_ok h3 (by rw [h2]; rfl)), ypj h3⟩
 ·obtain ⟨fn', h1', ⟨c', h2', _, h4⟩ | ⟨h2', _⟩⟩ := key f hf
  ·rw [h1] at h1'
   cases h1'
   rw [h2] at h2'
   cases h2'
   exact h4
  ·rw [h1] at h1'
   cases h1'
   rw [h2] at h2'
   cases h2'
theorem self2 : Shared (twin Tryz.prog pl) (twin Tryz.prog pl) shl2.contains := shOk.shared sh_ok
theorem tame_on {f : Nat} {args : Array Value} {Po : Ending → World → Prop} (hf : shl2.contains f = true) (hw : ybr w) (h : Calls (twin Tryz.prog pl) f args w Po) (hPo : ∀ e w', Po e w' → ∃ x, e = .returned x) : Calls (twin Tryz.prog pl) f args w (fun e w' => Po e w' ∧ ybr w') :=
 self2.calls hf hw h hPo
theorem ybr.alloc (h : ybr w) (cs : Array Value) (t : TypeId) : ybr (w.alloc (.cells cs t)) := by
 intro b o ho
 by_cases hb : b < w.heap.size
 ·rw [heap_alloc_old _ _ hb] at ho
  exact h b o ho
 ·have : b = w.heap.size := by have := (Array.getElem?_eq_some_iff.1 ho).1; simp at this; omega
  subst this
  rw [heap_alloc_new] at ho
  cases ho
  rfl
end Go.Proofs.K

namespace Go.Proofs.K
open Go.RowKit Go.Sim
theorem q_func14 : (twin Tryz.prog pl).funcs[13]? = some Tryz.f13 := yim Tryz.func13 (by decide) (by kernel_rfl)
theorem q_func19 : (twin Tryz.prog pl).funcs[31]? = some Tryz.f31 := yim Tryz.func31 (by decide) (by kernel_rfl)
theorem q_func20 : (twin Tryz.prog pl).funcs[32]? = some Tryz.f32 := yim Tryz.func32 (by decide) (by kernel_rfl)
theorem q_func23 : (twin Tryz.prog pl).funcs[16]? = some Tryz.f16 := yim Tryz.func16 (by decide) (by kernel_rfl)
def yfh (c n : Int) : Int := (if c < 0 then -(c + 1) else c) % n
theorem yel (c n : Int) (hn : 0 < n) : 0 ≤ yfh c n ∧ yfh c n < n := ⟨Int.emod_nonneg _ (by omega), Int.emod_lt_of_pos _ hn⟩
theorem qpick (c n : Int) (hc : -9223372036854775808 ≤ c ∧ c < 9223372036854775808) (hn : 0 < n ∧ n < 1000000000) (w : World) :
  Calls (twin Tryz.prog pl) 13 #[.int .i64 c, .int .i64 n] w fun e w' => e = .returned (.int .i64 (yfh c n)) ∧ w' = w := by
 unfold yfh
 have hn0 : (n == 0) = false := by simp; omega
 by_cases h : c < 0
 ·have d1 : decide (c < 0) = true := by simp [h]
  rw [if_pos h]
  have e1 : IntKind.wrap .i64 (c + 1) = c + 1 := by rw [IntKind.wrap_i64]; omega
  have e2 : IntKind.wrap .i64 (-(c + 1)) = -(c + 1) := by rw [IntKind.wrap_i64]; omega
  have e3 : (-(c + 1)).tmod n = (-(c + 1)) % n := Int.tmod_eq_emod_of_nonneg (by omega)
  have e4 : IntKind.wrap .i64 ((-(c + 1)) % n) = (-(c + 1)) % n := by have := Int.emod_nonneg (-(c + 1)) (b := n) (by omega); have := Int.emod_lt_of_pos (-(c + 1)) hn.1; rw [IntKind.wrap_i64]; omega
  go_enter q_func14, Tryz.ntmps13
  go_wp2
  go_ret
  exact ⟨rfl, rfl⟩
 ·have d1 : decide (c < 0) = false := by simp [h]
  rw [if_neg h]
  have e3 : c.tmod n = c % n := Int.tmod_eq_emod_of_nonneg (by omega)
  have e4 : IntKind.wrap .i64 (c % n) = c % n := by have := Int.emod_nonneg c (b := n) (by omega); have := Int.emod_lt_of_pos c hn.1; rw [IntKind.wrap_i64]; omega
  go_enter q_func14, Tryz.ntmps13
  go_wp2
  go_ret
  exact ⟨rfl, rfl⟩
def cutT (s : ByteArray) : ByteArray := if 60 < s.size then s.extract 0 60 else s
theorem ywj (s : ByteArray) : (cutT s).size ≤ 60 := by
 unfold cutT
 split
 ·simp; omega
 ·omega
theorem qcut (s : ByteArray) (w : World) :
  Calls (twin Tryz.prog pl) 32 #[.string s] w fun e w' => e = .returned (.string (cutT s)) ∧ w' = w := by
 unfold cutT
 by_cases h : 60 < s.size
 ·have d1 : decide ((60 : Int) < (s.size : Int)) = true := by simp; omega
  rw [if_pos h]
  go_enter q_func20, Tryz.ntmps32
  go_wp2
  go_ret
  exact ⟨rfl, rfl⟩
 ·have d1 : decide ((60 : Int) < (s.size : Int)) = false := by simp; omega
  rw [if_neg h]
  go_enter q_func20, Tryz.ntmps32
  go_wp2
  go_ret
  exact ⟨rfl, rfl⟩
def pDir (k : Nat) : ByteArray := ⟨#[100, 105, 114, 47, (97 + k).toUInt8]⟩
theorem qpath (k : Nat) (hk : k < 8) (w : World) :
  Calls (twin Tryz.prog pl) 31 #[.int .i64 k] w fun e w' => e = .returned (.string (pDir k)) ∧ w' = w := by
 match k, hk with
 |0, _ | 1, _ | 2, _ | 3, _ | 4, _ | 5, _ | 6, _ | 7, _ =>
  go_enter q_func19, Tryz.ntmps31
  go_wp2
  go_ret
  exact ⟨rfl, rfl⟩
def yns (r c n : Int) : Int := (r + 1 + yfh c (n - 1)) % n
theorem ypq (r n : Nat) (c : Int) (hr : r < n) (hn : 2 ≤ n) : 0 ≤ yns r c n ∧ yns r c n < n ∧ yns r c n ≠ r := by
 have h1 := yel c ((n : Int) - 1) (by omega)
 unfold yns
 generalize yfh c ((n : Int) - 1) = q at *
 refine ⟨Int.emod_nonneg _ (by omega), Int.emod_lt_of_pos _ (by omega), ?_⟩
 rcases Int.lt_or_le ((r : Int) + 1 + q) n with h | h
 ·rw [Int.emod_eq_of_lt (by omega) h]; omega
 ·have e : ((r : Int) + 1 + q) % n = (r : Int) + 1 + q - n := by
   rw [← Int.sub_emod_right, Int.emod_eq_of_lt (by omega) (by omega)]
  rw [e]; omega
@[simp] theorem q_call14 (args : Array Value) (w : World) : (callFunc 13 args).run (twin Tryz.prog pl) w = .ok (.enter 13 args) w := ygb (by decide) args w
theorem qother (r n : Nat) (c : Int) (hr : r < n) (hn : 2 ≤ n ∧ n ≤ 6) (hc : -9223372036854775808 ≤ c ∧ c < 9223372036854775808) (w : World) :
  Calls (twin Tryz.prog pl) 16 #[.int .i64 r, .int .i64 c, .int .i64 n] w fun e w' => e = .returned (.int .i64 (yns r c n)) ∧ w' = w := by
 have h1 := yel c ((n : Int) - 1) (by omega)
 have P := yab (qpick c ((n : Int) - 1) hc (by omega))
 have h2 := ypq r n c hr hn.1
 unfold yns at h2 ⊢
 generalize yfh c ((n : Int) - 1) = q at *
 have e0 : IntKind.wrap .i64 ((n : Int) - 1) = (n : Int) - 1 := by rw [IntKind.wrap_i64]; omega
 have e1 : IntKind.wrap .i64 ((r : Int) + 1) = (r : Int) + 1 := by rw [IntKind.wrap_i64]; omega
 have e2 : IntKind.wrap .i64 ((r : Int) + 1 + q) = (r : Int) + 1 + q := by rw [IntKind.wrap_i64]; omega
 have e3 : ((r : Int) + 1 + q).tmod n = ((r : Int) + 1 + q) % n := Int.tmod_eq_emod_of_nonneg (by omega)
 have e4 : IntKind.wrap .i64 (((r : Int) + 1 + q) % n) = ((r : Int) + 1 + q) % n := by rw [IntKind.wrap_i64]; omega
 have hn0 : ((n : Int) == 0) = false := by simp; omega
 go_enter q_func23, Tryz.ntmps16
 go_wp2_with (go_at_call 13; refine (P.out _).mono ?_; rintro e w1 ⟨rfl, rfl⟩)
 go_ret
 exact ⟨rfl, rfl⟩
end Go.Proofs.K
