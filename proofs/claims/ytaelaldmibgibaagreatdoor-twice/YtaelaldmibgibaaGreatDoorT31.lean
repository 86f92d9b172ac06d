/- The twin: its Pull, as its Round of one pair. The twin: what its pullsOf makes of one pair. -/
import Derived.Test.YtaelaldmibgibaaGreatDoorT30
import Derived.Test.YtaelaldmibgibaaGreatDoorT03
import Derived.Deep.DeepCutAuto

set_option linter.unusedVariables false
set_option linter.unusedSimpArgs false
set_option linter.unusedSectionVars false
set_option maxHeartbeats 1000000
set_option maxRecDepth 100000

namespace Go.Proofs.YtaelaldmibgibaaGreatDoor
open Go.RowKit Go.Sim
theorem qpull (nb : Nat) (a b : Int) (w : World) (Po : Value → Value → World → Prop)
  (h : Calls (twin Tryz.prog pl) 20 #[.pointer (some ⟨nb, 0, none⟩), .slice (some ⟨w.heap.size, 0, none⟩) 1 1] (w.alloc (.cells #[.int .i64 a, .int .i64 b] 47)) fun e w' => ∃ r1 r2, e = .returned (.tuple #[r1, r2]) ∧ Po r1 r2 w') :
  Calls (twin Tryz.prog pl) 17 #[.pointer (some ⟨nb, 0, none⟩), .int .i64 a, .int .i64 b] w fun e w' => ∃ r1 r2, e = .returned (.tuple #[r1, r2]) ∧ Po r1 r2 w' := by
 have H := yac h
 clear h
 go_enter q_func22, Tryz.ntmps17
 go_wp2_with (go_at_call 20; refine H.out.mono ?_; rintro e w1 ⟨r1, r2, rfl, hp1⟩; have P1 := yac hp1; clear hp1)
 go_ret2
 exact ⟨_, _, rfl, P1.out⟩
def q64 : Func := { name := "(*reunion/reunion.Net).pullsOf", origin := "", params := #[33, 48], resultTypes := #[90], nfree := 0, ntmps := 24, results := #[ResultVar.tmp 4], body := some ((Code.region 0 #[{ dst := some 2, op := Op.box 33 (Operand.tmp 0), type := 0, pos := "round.go:41", after := #[], guard := none }, { dst := some 4, op := Op.assign (Operand.const (Value.slice none 0 0)), type := 90, pos := "round.go:41", after := #[], guard := none }] false).seq ((Code.region 1 #[{ dst := some 9, op := Op.move (Operand.tmp 1), type := 48, pos := "round.go:42", after := #[], guard := none }, { dst := some 10, op := Op.call { callee := Callee.builtin Builtin.len, args := #[Operand.tmp 9], argTypes := #[48] }, type := 3, pos := "round.go:42", after := #[{ on := 0, ground := Ground.data }], guard := none }, { dst := some 11, op := Op.makeSlice 90 (Operand.tmp 10) (Operand.tmp 10), type := 90, pos := "round.go:42", after := #[{ on := 1, ground := Ground.data }, { on := 1, ground := Ground.data }], guard := none }, { dst := some 5, op := Op.alloc 90, type := 0, pos := "round.go:42", after := #[], guard := none }, { dst := none, op := Op.store 90 (Operand.tmp 5) (Operand.tmp 11), type := 0, pos := "round.go:42", after := #[{ on := 3, ground := Ground.data }, { on := 2, ground := Ground.data }, { on := 0, ground := Ground.phase }, { on := 1, ground := Ground.phase }, { on := 2, ground := Ground.phase }, { on := 3, ground := Ground.phase }], guard := none }] false).seq ((Code.region 2 #[{ dst := some 6, op := Op.box 150 (Operand.const (Value.agg #[])), type := 0, pos := "", after := #[], guard := none }] false).seq ((Code.region 3 #[{ dst := some 12, op := Op.move (Operand.tmp 1), type := 48, pos := "round.go:44", after := #[], guard := none }, { dst := some 13, op := Op.call { callee := Callee.builtin Builtin.len, args := #[Operand.tmp 12], argTypes := #[48] }, type := 3, pos := "round.go:44", after := #[{ on := 0, ground := Ground.data }], guard := none }, { dst := some 14, op := Op.move (Operand.const (Value.int IntKind.i64 0)), type := 3, pos := "round.go:44", after := #[], guard := none }] false).seq ((Code.region 10 #[{ dst := some 15, op := Op.binOp BinOp.leq 3 (Operand.tmp 13) (Operand.const (Value.int IntKind.i64 1)) 3, type := 0, pos := "", after := #[], guard := none }] false).seq ((Code.cond (Operand.tmp 15) Code.skip (Code.refuse "twin")).seq ((Code.region 4 #[{ dst := some 15, op := Op.binOp BinOp.lss 3 (Operand.tmp 14) (Operand.tmp 13) 3, type := 0, pos := "round.go:44", after := #[], guard := none }] false).seq ((Code.cond (Operand.tmp 15) Code.skip (Code.refuse "twin")).seq ((Code.region 5 #[{ dst := some 16, op := Op.move (Operand.tmp 14), type := 3, pos := "round.go:44", after := #[], guard := none }, { dst := some 17, op := Op.indexAddr 48 (Operand.tmp 12) (Operand.tmp 14), type := 0, pos := "round.go:44", after := #[], guard := none }, { dst := some 18, op := Op.load 47 (Operand.tmp 17), type := 47, pos := "round.go:44", after := #[{ on := 1, ground := Ground.data }], guard := none }, { dst := some 7, op := Op.alloc 3, type := 0, pos := "round.go:44", after := #[], guard := none }, { dst := some 8, op := Op.alloc 47, type := 0, pos := "round.go:44", after := #[], guard := none }, { dst := none, op := Op.store 3 (Operand.tmp 7) (Operand.tmp 16), type := 0, pos := "round.go:44", after := #[{ on := 3, ground := Ground.data }, { on := 0, ground := Ground.data }, { on := 0, ground := Ground.phase }, { on := 1, ground := Ground.phase }, { on := 2, ground := Ground.phase }, { on := 3, ground := Ground.phase }, { on := 4, ground := Ground.phase }], guard := none }, { dst := none, op := Op.store 47 (Operand.tmp 8) (Operand.tmp 18), type := 0, pos := "round.go:44", after := #[{ on := 4, ground := Ground.data }, { on := 2, ground := Ground.data }, { on := 5, ground := Ground.chain }, { on := 0, ground := Ground.phase }, { on := 1, ground := Ground.phase }, { on := 2, ground := Ground.phase }, { on := 3, ground := Ground.phase }, { on := 4, ground := Ground.phase }, { on := 5, ground := Ground.phase }], guard := none }] false).seq ((Code.region 6 #[{ dst := some 19, op := Op.makeFunc (Fn.func 75) #[] #[Operand.tmp 2, Operand.tmp 8, Operand.tmp 5, Operand.tmp 7], type := 1, pos := "", after := #[], guard := none }, { dst := some 20, op := Op.box 210 (Operand.const (Value.agg #[])), type := 0, pos := "", after := #[], guard := none }, { dst := some 21, op := Op.box 1 (Operand.const (Value.agg #[])), type := 0, pos := "", after := #[], guard := none }, { dst := some 22, op := Op.call { callee := Callee.value (Operand.func 75), args := #[Operand.tmp 2, Operand.tmp 8, Operand.tmp 5, Operand.tmp 7], argTypes := #[0, 0, 0, 0] }, type := 0, pos := "", after := #[], guard := none }] false).seq ((Code.region 9 #[{ dst := some 23, op := Op.load 90 (Operand.tmp 5), type := 90, pos := "round.go:51", after := #[], guard := none }, { dst := some 4, op := Op.assign (Operand.tmp 23), type := 90, pos := "round.go:51", after := #[{ on := 0, ground := Ground.data }, { on := 0, ground := Ground.phase }], guard := none }] false).seq Code.ret))))))))))), norace := false, file := "reunion/reunion/round.go", endLine := 52, tmpNames := #["t", "pairs", "t", "pairs", "", "pulls", "all", "i", "pair", "", "", "", "", "", "", "", "", "", "", "", "", "", "", ""] }
theorem q_func64e : (twin Tryz.prog pl).funcs[42]? = some q64 := q_func64.trans (by rfl)
theorem q_ntmps64 : q64.ntmps = 24 := rfl
@[simp] theorem q_call75 (args : Array Value) (w : World) : (callFunc 75 args).run (twin Tryz.prog pl) w = .ok (.enter 75 args) w := yez (by decide) args w
def yfj (w : World) (nb : Nat) (a b : Int) : World :=
 (((((((w.alloc (.cells #[.pointer (some ⟨nb, 0, none⟩)] 33)).alloc (.cells #[.pointer none, .slice none 0 0, .int .i64 0] 94)).alloc (.cells #[.slice (some ⟨w.heap.size + 1, 0, none⟩) 1 1] 90)).alloc (.cells #[] 150)).alloc (.cells #[.int .i64 0] 3)).alloc (.cells #[.int .i64 a, .int .i64 b] 47)).alloc (.cells #[] 210)).alloc (.cells #[] 1)
theorem qpulls_one (nb g cp : Nat) (a b : Int) (w : World) (g0 : w.cell? ⟨g, 0, none⟩ = some (.int .i64 a)) (g1 : w.cell? ⟨g, 1, none⟩ = some (.int .i64 b)) (hg : g < w.heap.size) (Po : World → Prop)
  (h : Calls (twin Tryz.prog pl) 75 #[.pointer (some ⟨w.heap.size, 0, none⟩), .pointer (some ⟨w.heap.size + 5, 0, none⟩), .pointer (some ⟨w.heap.size + 2, 0, none⟩), .pointer (some ⟨w.heap.size + 4, 0, none⟩)] (yfj w nb a b) fun e w' => e = .returned (.tuple #[]) ∧ w'.cell? ⟨w.heap.size + 2, 0, none⟩ = some (.slice (some ⟨w.heap.size + 1, 0, none⟩) 1 1) ∧ Po w') :
  Calls (twin Tryz.prog pl) 42 #[.pointer (some ⟨nb, 0, none⟩), .slice (some ⟨g, 0, none⟩) 1 cp] w fun e w' => e = .returned (.slice (some ⟨w.heap.size + 1, 0, none⟩) 1 1) ∧ Po w' := by
 have H := yac h
 clear h
 unfold yfj at H
 have mk : ∀ W, (Instr.makeSlice 90 (.int .i64 1) (.int .i64 1)).run (twin Tryz.prog pl) W = .ok (.slice (some ⟨W.heap.size, 0, none⟩) 1 1) (W.alloc (.cells #[.pointer none, .slice none 0 0, .int .i64 0] 94)) := fun _ => by kernel_rfl
 have x0 : ∀ o1 o2 o3 o4, ((((w.alloc o1).alloc o2).alloc o3).alloc o4).cell? ⟨g, 0, none⟩ = some (.int .i64 a) := fun o1 o2 o3 o4 => by
  have hb := ((((Below.refl w.heap.size w).alloc (Nat.le_refl _) o1).alloc (by simp) o2).alloc (by simp; omega) o3).alloc (by simp; omega) o4
  exact (hb.cell (p := ⟨g, 0, none⟩) hg).trans g0
 have x1 : ∀ o1 o2 o3 o4, ((((w.alloc o1).alloc o2).alloc o3).alloc o4).cell? ⟨g, 1, none⟩ = some (.int .i64 b) := fun o1 o2 o3 o4 => by
  have hb := ((((Below.refl w.heap.size w).alloc (Nat.le_refl _) o1).alloc (by simp) o2).alloc (by simp; omega) o3).alloc (by simp; omega) o4
  exact (hb.cell (p := ⟨g, 1, none⟩) hg).trans g1
 clear g0 g1 hg
 go_enter q_func64e, q_ntmps64
 go_wp2_with (go_at_call 75; refine H.out.mono ?_; rintro e w1 ⟨rfl, cx, hp1⟩; have P1 := yac hp1; clear hp1)
 go_ret
 exact ⟨rfl, P1.out⟩
end Go.Proofs.YtaelaldmibgibaaGreatDoor
