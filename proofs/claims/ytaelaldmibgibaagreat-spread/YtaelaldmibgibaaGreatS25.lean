/- The twin: what stays tame in its calls. The statements' own small functions: pick, cut, path, other. -/
import Derived.Test.YtaelaldmibgibaaGreatS22
import Derived.Test.YtaelaldmibgibaaGreatS02

set_option linter.unusedVariables false
set_option linter.unusedSimpArgs false
set_option linter.unusedSectionVars false

namespace Go.Proofs.YtaelaldmibgibaaGreat
open Go.RowKit Go.Sim

def shl2 : List Nat := shl ++ [64, 41, 22, 15, 16, 17, 7, 6, 5, 4]
def shOk (Q : Program) (l : List Nat) : Bool := l.all fun f => match Q.funcs[f]? with
  | some fn => (match fn.body with
    | some c => nameOk fn && okCode (fun o => okOp Q o && callIn l.contains o) c
    | none => false)
  | none => false
theorem sh_ok : shOk (twin Tryz.prog pl) shl2 = true := by kernel_rfl
theorem shOk.shared {Q : Program} {l : List Nat} (h : shOk Q l = true) : Shared Q Q l.contains := by
  unfold shOk at h
  rw [List.all_eq_true] at h
  have key : ∀ f, l.contains f = true → ∃ fn c, Q.funcs[f]? = some fn ∧ fn.body = some c ∧ nameOk fn = true ∧ okCode (fun o => okOp Q o && callIn l.contains o) c = true := by
    intro f hf
    have := h f (by simpa using hf)
    cases h1 : Q.funcs[f]? with
    | none => rw [h1] at this; cases this
    | some fn =>
      rw [h1] at this
      cases h2 : fn.body with
      | none => simp only [h2] at this; cases this
      | some c =>
        simp only [h2, Bool.and_eq_true] at this
        exact ⟨fn, c, rfl, h2, this.1, this.2⟩
  refine ⟨rfl, fun f hf => ?_, fun _ _ => rfl, fun f fn c hf h1 h2 => ?_⟩
  · obtain ⟨fn, c, h1, h2, h3, _⟩ := key f hf
    exact ⟨fn, h1, by rw [h2]; rfl, by simpa [nameOk] using h3⟩
  · obtain ⟨fn', c', h1', h2', _, h4⟩ := key f hf
    rw [h1] at h1'
    cases h1'
    rw [h2] at h2'
    cases h2'
    exact h4
theorem self2 : Shared (twin Tryz.prog pl) (twin Tryz.prog pl) shl2.contains := shOk.shared sh_ok
theorem tame_on {f : Nat} {args : Array Value} {w : World} {Po : Ending → World → Prop} (hf : shl2.contains f = true) (hw : Fixed w) (h : Calls (twin Tryz.prog pl) f args w Po) (hPo : ∀ e w', Po e w' → ∃ x, e = .returned x) : Calls (twin Tryz.prog pl) f args w (fun e w' => Po e w' ∧ Fixed w') :=
  self2.calls hf hw h hPo
theorem Fixed.alloc {w : World} (h : Fixed w) (cs : Array Value) (t : TypeId) : Fixed (w.alloc (.cells cs t)) := by
  intro b o ho
  by_cases hb : b < w.heap.size
  · rw [heap_alloc_old _ _ hb] at ho
    exact h b o ho
  · have : b = w.heap.size := by have := (Array.getElem?_eq_some_iff.1 ho).1; simp at this; omega
    subst this
    rw [heap_alloc_new] at ho
    cases ho
    rfl
end Go.Proofs.YtaelaldmibgibaaGreat

namespace Go.Proofs.YtaelaldmibgibaaGreat
open Go.RowKit Go.Sim

theorem q_func14 : (twin Tryz.prog pl).funcs[14]? = some Tryz.f14 := tw_func Tryz.func14 (by decide) (by kernel_rfl)
theorem q_func19 : (twin Tryz.prog pl).funcs[19]? = some Tryz.f19 := tw_func Tryz.func19 (by decide) (by kernel_rfl)
theorem q_func20 : (twin Tryz.prog pl).funcs[20]? = some Tryz.f20 := tw_func Tryz.func20 (by decide) (by kernel_rfl)
theorem q_func23 : (twin Tryz.prog pl).funcs[23]? = some Tryz.f23 := tw_func Tryz.func23 (by decide) (by kernel_rfl)
def pickR (c n : Int) : Int := (if c < 0 then -(c + 1) else c) % n
theorem pickR_lt (c n : Int) (hn : 0 < n) : 0 ≤ pickR c n ∧ pickR c n < n := ⟨Int.emod_nonneg _ (by omega), Int.emod_lt_of_pos _ hn⟩
set_option maxHeartbeats 400000 in
theorem qpick (c n : Int) (hc : -9223372036854775808 ≤ c ∧ c < 9223372036854775808) (hn : 0 < n ∧ n < 1000) (w : World) :
    Calls (twin Tryz.prog pl) 14 #[.int .i64 c, .int .i64 n] w fun e w' => e = .returned (.int .i64 (pickR c n)) ∧ w' = w := by
  unfold pickR
  have hn0 : (n == 0) = false := by simp; omega
  by_cases h : c < 0
  · have d1 : decide (c < 0) = true := by simp [h]
    rw [if_pos h]
    have e1 : IntKind.wrap .i64 (c + 1) = c + 1 := by rw [IntKind.wrap_i64]; omega
    have e2 : IntKind.wrap .i64 (-(c + 1)) = -(c + 1) := by rw [IntKind.wrap_i64]; omega
    have e3 : (-(c + 1)).tmod n = (-(c + 1)) % n := Int.tmod_eq_emod_of_nonneg (by omega)
    have e4 : IntKind.wrap .i64 ((-(c + 1)) % n) = (-(c + 1)) % n := by have := Int.emod_nonneg (-(c + 1)) (b := n) (by omega); have := Int.emod_lt_of_pos (-(c + 1)) hn.1; rw [IntKind.wrap_i64]; omega
    go_enter q_func14, Tryz.ntmps14
    go_wp2
    go_ret
    exact ⟨rfl, rfl⟩
  · have d1 : decide (c < 0) = false := by simp [h]
    rw [if_neg h]
    have e3 : c.tmod n = c % n := Int.tmod_eq_emod_of_nonneg (by omega)
    have e4 : IntKind.wrap .i64 (c % n) = c % n := by have := Int.emod_nonneg c (b := n) (by omega); have := Int.emod_lt_of_pos c hn.1; rw [IntKind.wrap_i64]; omega
    go_enter q_func14, Tryz.ntmps14
    go_wp2
    go_ret
    exact ⟨rfl, rfl⟩
def cutT (s : ByteArray) : ByteArray := if 60 < s.size then s.extract 0 60 else s
theorem cutT_size (s : ByteArray) : (cutT s).size ≤ 60 := by
  unfold cutT
  split
  · simp; omega
  · omega
set_option maxHeartbeats 400000 in
theorem qcut (s : ByteArray) (w : World) :
    Calls (twin Tryz.prog pl) 20 #[.string s] w fun e w' => e = .returned (.string (cutT s)) ∧ w' = w := by
  unfold cutT
  by_cases h : 60 < s.size
  · have d1 : decide ((60 : Int) < (s.size : Int)) = true := by simp; omega
    rw [if_pos h]
    go_enter q_func20, Tryz.ntmps20
    go_wp2
    go_ret
    exact ⟨rfl, rfl⟩
  · have d1 : decide ((60 : Int) < (s.size : Int)) = false := by simp; omega
    rw [if_neg h]
    go_enter q_func20, Tryz.ntmps20
    go_wp2
    go_ret
    exact ⟨rfl, rfl⟩
def pDir (k : Nat) : ByteArray := ⟨#[100, 105, 114, 47, (97 + k).toUInt8]⟩
set_option maxHeartbeats 400000 in
theorem qpath (k : Nat) (hk : k < 8) (w : World) :
    Calls (twin Tryz.prog pl) 19 #[.int .i64 k] w fun e w' => e = .returned (.string (pDir k)) ∧ w' = w := by
  match k, hk with
  | 0, _ | 1, _ | 2, _ | 3, _ | 4, _ | 5, _ | 6, _ | 7, _ =>
    go_enter q_func19, Tryz.ntmps19
    go_wp2
    go_ret
    exact ⟨rfl, rfl⟩
def otherR (r c n : Int) : Int := (r + 1 + pickR c (n - 1)) % n
theorem otherR_ok (r n : Nat) (c : Int) (hr : r < n) (hn : 2 ≤ n) : 0 ≤ otherR r c n ∧ otherR r c n < n ∧ otherR r c n ≠ r := by
  have h1 := pickR_lt c ((n : Int) - 1) (by omega)
  unfold otherR
  generalize pickR c ((n : Int) - 1) = q at *
  refine ⟨Int.emod_nonneg _ (by omega), Int.emod_lt_of_pos _ (by omega), ?_⟩
  rcases Int.lt_or_le ((r : Int) + 1 + q) n with h | h
  · rw [Int.emod_eq_of_lt (by omega) h]; omega
  · have e : ((r : Int) + 1 + q) % n = (r : Int) + 1 + q - n := by
      rw [← Int.sub_emod_right, Int.emod_eq_of_lt (by omega) (by omega)]
    rw [e]; omega
@[simp] theorem q_call14 (args : Array Value) (w : World) : (callFunc 14 args).run (twin Tryz.prog pl) w = .ok (.enter 14 args) w := q_call (by decide) args w
set_option maxHeartbeats 400000 in
theorem qother (r n : Nat) (c : Int) (hr : r < n) (hn : 2 ≤ n ∧ n ≤ 6) (hc : -9223372036854775808 ≤ c ∧ c < 9223372036854775808) (w : World) :
    Calls (twin Tryz.prog pl) 23 #[.int .i64 r, .int .i64 c, .int .i64 n] w fun e w' => e = .returned (.int .i64 (otherR r c n)) ∧ w' = w := by
  have h1 := pickR_lt c ((n : Int) - 1) (by omega)
  have P := hide (qpick c ((n : Int) - 1) hc (by omega))
  have h2 := otherR_ok r n c hr hn.1
  unfold otherR at h2 ⊢
  generalize pickR c ((n : Int) - 1) = q at *
  have e0 : IntKind.wrap .i64 ((n : Int) - 1) = (n : Int) - 1 := by rw [IntKind.wrap_i64]; omega
  have e1 : IntKind.wrap .i64 ((r : Int) + 1) = (r : Int) + 1 := by rw [IntKind.wrap_i64]; omega
  have e2 : IntKind.wrap .i64 ((r : Int) + 1 + q) = (r : Int) + 1 + q := by rw [IntKind.wrap_i64]; omega
  have e3 : ((r : Int) + 1 + q).tmod n = ((r : Int) + 1 + q) % n := Int.tmod_eq_emod_of_nonneg (by omega)
  have e4 : IntKind.wrap .i64 (((r : Int) + 1 + q) % n) = ((r : Int) + 1 + q) % n := by rw [IntKind.wrap_i64]; omega
  have hn0 : ((n : Int) == 0) = false := by simp; omega
  go_enter q_func23, Tryz.ntmps23
  go_wp2_with (go_at_call 14; refine (P.out _).mono ?_; rintro e w1 ⟨rfl, rfl⟩)
  go_ret
  exact ⟨rfl, rfl⟩
end Go.Proofs.YtaelaldmibgibaaGreat
