/- The twin: its Pull, as its Round of one pair. -/
import Derived.Deep.DeepCutAuto
import Derived.Test.YtaelaldmibgibaaGreatDoorX25
import Derived.Test.YtaelaldmibgibaaGreatDoorX03

set_option linter.all false
set_option maxHeartbeats 1000000
set_option maxRecDepth 100000

namespace Go.Proofs.K
open Go.RowKit Go.Sim
theorem qpull (nb : Nat) (a b : Int) (w : World) (Po : Value → Value → World → Prop)
  (h : Calls (twin Tryz.prog pl) 20 #[.pointer (some ⟨nb, 0, none⟩), .slice (some ⟨w.heap.size, 0, none⟩) 1 1] (w.alloc (.cells #[.int .i64 a, .int .i64 b] 47)) fun e w' => ∃ r1 r2, e = .returned (.tuple #[r1, r2]) ∧ Po r1 r2 w') :
  Calls (twin Tryz.prog pl) 17 #[.pointer (some ⟨nb, 0, none⟩), .int .i64 a, .int .i64 b] w fun e w' => ∃ r1 r2, e = .returned (.tuple #[r1, r2]) ∧ Po r1 r2 w' := by
 have H := yab h
 clear h
 go_enter q_func22, Tryz.ntmps17
 go_wp2_with (go_at_call 20; refine H.out.mono ?_; rintro e w1 ⟨r1, r2, rfl, hp1⟩; have P1 := yab hp1; clear hp1)
 go_ret2
 exact ⟨_, _, rfl, P1.out⟩
theorem q_ntmps64 : (ytf pl).ntmps = 24 := rfl
@[simp] theorem q_call75 (args : Array Value) (w : World) : (callFunc 75 args).run (twin Tryz.prog pl) w = .ok (.enter 75 args) w := ygb (by decide) args w
def ygl (w : World) (nb : Nat) (a b : Int) : World :=
 (((((((w.alloc (.cells #[.pointer (some ⟨nb, 0, none⟩)] 33)).alloc (.cells #[.pointer none, .slice none 0 0, .int .i64 0] 94)).alloc (.cells #[.slice (some ⟨w.heap.size + 1, 0, none⟩) 1 1] 90)).alloc (.cells #[] 150)).alloc (.cells #[.int .i64 0] 3)).alloc (.cells #[.int .i64 a, .int .i64 b] 47)).alloc (.cells #[] 210)).alloc (.cells #[] 1)
theorem qpulls_one (nb g cp : Nat) (a b : Int) (w : World) (g0 : w.cell? ⟨g, 0, none⟩ = some (.int .i64 a)) (g1 : w.cell? ⟨g, 1, none⟩ = some (.int .i64 b)) (hg : g < w.heap.size) (Po : World → Prop)
  (h : Calls (twin Tryz.prog pl) 75 #[.pointer (some ⟨w.heap.size, 0, none⟩), .pointer (some ⟨w.heap.size + 5, 0, none⟩), .pointer (some ⟨w.heap.size + 2, 0, none⟩), .pointer (some ⟨w.heap.size + 4, 0, none⟩)] (ygl w nb a b) fun e w' => e = .returned (.tuple #[]) ∧ w'.cell? ⟨w.heap.size + 2, 0, none⟩ = some (.slice (some ⟨w.heap.size + 1, 0, none⟩) 1 1) ∧ Po w') :
  Calls (twin Tryz.prog pl) 42 #[.pointer (some ⟨nb, 0, none⟩), .slice (some ⟨g, 0, none⟩) 1 cp] w fun e w' => e = .returned (.slice (some ⟨w.heap.size + 1, 0, none⟩) 1 1) ∧ Po w' := by
 have H := yab h
 clear h
 unfold ygl at H
 have mk : ∀ W, (Instr.makeSlice 90 (.int .i64 1) (.int .i64 1)).run (twin Tryz.prog pl) W = .ok (.slice (some ⟨W.heap.size, 0, none⟩) 1 1) (W.alloc (.cells #[.pointer none, .slice none 0 0, .int .i64 0] 94)) := fun _ => by kernel_rfl
 have x0 : ∀ o1 o2 o3 o4, ((((w.alloc o1).alloc o2).alloc o3).alloc o4).cell? ⟨g, 0, none⟩ = some (.int .i64 a) := fun o1 o2 o3 o4 => by
  have hb := ((((Below.refl w.heap.size w).alloc (Nat.le_refl _) o1).alloc (by simp) o2).alloc (by simp; omega) o3).alloc (by simp; omega) o4
  exact (hb.cell (p := ⟨g, 0, none⟩) hg).trans g0
 have x1 : ∀ o1 o2 o3 o4, ((((w.alloc o1).alloc o2).alloc o3).alloc o4).cell? ⟨g, 1, none⟩ = some (.int .i64 b) := fun o1 o2 o3 o4 => by
  have hb := ((((Below.refl w.heap.size w).alloc (Nat.le_refl _) o1).alloc (by simp) o2).alloc (by simp; omega) o3).alloc (by simp; omega) o4
  exact (hb.cell (p := ⟨g, 1, none⟩) hg).trans g1
 clear g0 g1 hg
 go_enter q_func64, q_ntmps64
 obtain ⟨c, hc⟩ : ∃ c, c = ygq pl := ⟨_, rfl⟩
 rw [← hc]
 dsimp only [ygq, pR0, pR1, qR2, pR3, qRa, pR4, pR5, qR6, pR9, pl, link] at hc
 subst hc
 go_wp2_with (go_at_call 75; refine H.out.mono ?_; rintro e w1 ⟨rfl, cx, hp1⟩; have P1 := yab hp1; clear hp1)
 go_ret
 exact ⟨rfl, P1.out⟩
end Go.Proofs.K
