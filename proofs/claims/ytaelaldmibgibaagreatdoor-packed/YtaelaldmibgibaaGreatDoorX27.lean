/- The twin: its Round of one pair. -/
import Derived.Deep.DeepCutAuto
import Derived.Laws.AppendOwnNone
import Derived.Test.YtaelaldmibgibaaGreatDoorX25
import Derived.Test.YtaelaldmibgibaaGreatDoorX03

set_option linter.all false
set_option maxHeartbeats 2000000
set_option maxRecDepth 100000

namespace Go.Proofs.K
open Go.RowKit Go.Sim
variable {P1 P2 : World → Prop} {P3 : Nat → World → Prop}
theorem yww : (Tryz.prog.info? 44).map (fun i => (i.zero, i.size, i.bytes)) = some (some (.agg #[.int .i64 0, .string ⟨#[]⟩, .int .i64 0]), 3, 32) := by kernel_rfl
@[simp] theorem q_call62 (args : Array Value) (w : World) : (callFunc 40 args).run (twin Tryz.prog pl) w = .ok (.enter 40 args) w := ygb (by decide) args w
@[simp] theorem q_call63 (args : Array Value) (w : World) : (callFunc 41 args).run (twin Tryz.prog pl) w = .ok (.enter 41 args) w := ygb (by decide) args w
theorem app_changes {ops : Array Oper} {rest : List Oper} {o : Oper} {a : Act} {Q : Exit → Act → World → Prop} (w : World) (hgd : o.guard = none) (s x : Operand) (ho : o.op = .call { callee := .builtin .append, args := #[s, x], argTypes := #[37, 37] }) (hs : a.eval s = .slice none 0 0)
  (cv : Value) (z n : Nat) (vs : List Value) (hx : a.eval x = cv) (hown : w.ownsRow z 44 3 cv n vs) (h1 : ∀ u ∈ vs, u.oneCell' = true) (hn : n ≤ 1000000000) (hnil : n = 0 → cv = .slice none 0 0)
  (h : ∀ rv w1, w1.ownsRow w.heap.size 44 3 rv n vs → w.grownBy w1 none → wpList (twin Tryz.prog pl) ops Q rest (a.put o.dst rv) w1) :
  wpList (twin Tryz.prog pl) ops Q (o :: rest) a w := by
 obtain ⟨i0, hi, hz0, hz1, hz2⟩ := info_parts yww
 rcases hown.2 with ⟨rfl, h0⟩ | ⟨g, cap, cur, rfl, hb, hg, q1, q2, q3, q4⟩
 ·subst h0
  have e : vs = [] := by have := hown.1; simpa using this
  subst e
  refine wpList_append_own_none hgd s x 37 ho w.heap.size 44 i0 3 ((ybx _).trans Tryz.underlying37) ((tw_info _).trans hi) _ 0 [] hs (World.ownsRow_nil _ _ _ _) hx (h _ _ (World.ownsRow_nil _ _ _ _) ?_)
  exact World.grownBy.refl _ _
 ·by_cases hn0 : n = 0
  ·exact absurd (hnil hn0) (by simp)
  ·refine wpList_append_lies w hgd s x 37 ho w.heap.size 44 i0 _ 3 32 ((ybx _).trans Tryz.underlying37) ((tw_info _).trans hi) hz0 hz1 hz2 rfl (by decide) _ 0 [] hs (World.ownsRow_nil _ _ _ _) ⟨g, 0, none⟩ n cap vs hx hown.1 (hown.cells rfl) h1 (by omega) (by unfold maxLen; omega) (by omega) (Nat.le_refl _) _ rfl ?_
   intro g2 c2 w1 ho1 hg1 _ _
   rw [Nat.zero_add, List.nil_append] at ho1
   rw [Nat.zero_add]
   exact h _ w1 ho1 hg1
theorem qround_full (nb g cp : Nat) (w : World) 
  (h1 : Calls (twin Tryz.prog pl) 40 #[.pointer (some ⟨nb, 0, none⟩), .slice (some ⟨g, 0, none⟩) 1 cp] w fun e w' => e = .returned (.bool true) ∧ P1 w')
  (h2 : ∀ V, P1 V → Calls (twin Tryz.prog pl) 41 #[.slice (some ⟨g, 0, none⟩) 1 cp] V fun e w' => e = .returned (.bool true) ∧ P2 w')
  (h3 : ∀ V, P2 V → Calls (twin Tryz.prog pl) 42 #[.pointer (some ⟨nb, 0, none⟩), .slice (some ⟨g, 0, none⟩) 1 cp] V fun e w' => ∃ gb, e = .returned (.slice (some ⟨gb, 0, none⟩) 1 1) ∧ P3 gb w')
  (h4 : ∀ gb V, P3 gb V → V.heap[gb]? = some (.cells #[.pointer none, .slice none 0 0, .int .i64 5] 94)) :
  Calls (twin Tryz.prog pl) 20 #[.pointer (some ⟨nb, 0, none⟩), .slice (some ⟨g, 0, none⟩) 1 cp] w fun e w' => e = .returned (.tuple #[.slice none 0 0, .int .i64 5]) ∧ ∃ gb V, P3 gb V ∧ Below V.heap.size V w' := by
 have H1 := yab h1
 have H2 := yab h2
 have H3 := yab h3
 have H4 := yab h4
 clear h1 h2 h3 h4
 go_enter yvc, Tryz.ntmps20
 go_wp2_with (first
  |(go_at_call 40; refine H1.out.mono ?_; rintro e w1 ⟨rfl, hp1⟩; have Q1 := yab hp1; clear hp1)
  |(go_at_call 41; refine (H2.out _ Q1.out).mono ?_; rintro e w2 ⟨rfl, hp2⟩; have Q2 := yab hp2; clear hp2)
  |(go_at_call 42; refine (H3.out _ Q2.out).mono ?_; rintro e w3 ⟨gb, rfl, hp3⟩; have Q3 := yab hp3; clear hp3))
 have hb := H4.out gb w3 Q3.out
 have e0 : w3.cell? ⟨gb, 0, none⟩ = some (.pointer none) := by simp [World.cell?, hb]
 have e1 : w3.cell? ⟨gb, 1, none⟩ = some (.slice none 0 0) := by simp [World.cell?, hb]
 have e2 : w3.cell? ⟨gb, 2, none⟩ = some (.int .i64 5) := by simp [World.cell?, hb]
 go_loopw [7, 24] (fun cv iv wr => iv = .int .i64 0 ∧ cv = .slice none 0 0 ∧ wr = w3) (fun _ _ _ => 0)
 case atStart => exact ⟨rfl, rfl, rfl⟩
 case round =>
  obtain ⟨rfl, rfl, rfl⟩ := hrel
  go_wp2_with fail
  go_region
  all_goals
   go_wp2
   go_ret2
   exact ⟨rfl, gb, _, Q3.out, ((Below.refl _ _).alloc (Nat.le_refl _) _).drew⟩
theorem qround_ok (nb g cp : Nat) (w : World) (a pb n cap m : Nat) (vs : List Value) (hn6 : n ≤ 6) (han : a < n)
  (h1 : Calls (twin Tryz.prog pl) 40 #[.pointer (some ⟨nb, 0, none⟩), .slice (some ⟨g, 0, none⟩) 1 cp] w fun e w' => e = .returned (.bool true) ∧ P1 w')
  (h2 : ∀ V, P1 V → Calls (twin Tryz.prog pl) 41 #[.slice (some ⟨g, 0, none⟩) 1 cp] V fun e w' => e = .returned (.bool true) ∧ P2 w')
  (h3 : ∀ V, P2 V → Calls (twin Tryz.prog pl) 42 #[.pointer (some ⟨nb, 0, none⟩), .slice (some ⟨g, 0, none⟩) 1 cp] V fun e w' => ∃ gb, e = .returned (.slice (some ⟨gb, 0, none⟩) 1 1) ∧ P3 gb w')
  (h4 : ∀ gb V, P3 gb V → ∃ ab z cv, V.heap[gb]? = some (.cells #[.pointer (some ⟨ab, 0, none⟩), cv, .int .i64 0] 94) ∧ V.ownsRow z 44 3 cv m vs ∧ (∀ u ∈ vs, u.oneCell' = true) ∧ m ≤ 1000000 ∧ (m = 0 → cv = .slice none 0 0) ∧
   V.cell? ⟨nb, 0, none⟩ = some (.slice (some ⟨pb, 0, none⟩) n cap) ∧ V.cell? ⟨g, 0, none⟩ = some (.int .i64 a) ∧ (∃ x, V.cell? ⟨pb, a, none⟩ = some x) ∧ V.frozen? ⟨pb, a, none⟩ = false ∧ nb < V.heap.size ∧ pb < V.heap.size ∧ g < V.heap.size) :
  Calls (twin Tryz.prog pl) 20 #[.pointer (some ⟨nb, 0, none⟩), .slice (some ⟨g, 0, none⟩) 1 cp] w fun e w' => ∃ gb V V' ab z cv rv, e = .returned (.tuple #[rv, .int .i64 0]) ∧ P3 gb V ∧ V.heap[gb]? = some (.cells #[.pointer (some ⟨ab, 0, none⟩), cv, .int .i64 0] 94) ∧ V.ownsRow z 44 3 cv m vs ∧ Below V.heap.size V V' ∧ V'.ownsRow V.heap.size 44 3 rv m vs ∧ w' = V'.setCell ⟨pb, a, none⟩ (.pointer (some ⟨ab, 0, none⟩)) := by
 have H1 := yab h1
 have H2 := yab h2
 have H3 := yab h3
 have H4 := yab h4
 clear h1 h2 h3 h4
 go_enter yvc, Tryz.ntmps20
 go_wp2_with (first
  |(go_at_call 40; refine H1.out.mono ?_; rintro e w1 ⟨rfl, hp1⟩; have Q1 := yab hp1; clear hp1)
  |(go_at_call 41; refine (H2.out _ Q1.out).mono ?_; rintro e w2 ⟨rfl, hp2⟩; have Q2 := yab hp2; clear hp2)
  |(go_at_call 42; refine (H3.out _ Q2.out).mono ?_; rintro e w3 ⟨gb, rfl, hp3⟩; have Q3 := yab hp3; clear hp3))
 obtain ⟨ab, z, cv, hb, hown, h1c, hm, hnil, cn, cg, ⟨x0, cx⟩, fx, hnb, hpb, hg⟩ := H4.out gb w3 Q3.out
 have e0 : w3.cell? ⟨gb, 0, none⟩ = some (.pointer (some ⟨ab, 0, none⟩)) := by simp [World.cell?, hb]
 have e1 : w3.cell? ⟨gb, 1, none⟩ = some cv := by simp [World.cell?, hb]
 have e2 : w3.cell? ⟨gb, 2, none⟩ = some (.int .i64 0) := by simp [World.cell?, hb]
 have OW := yab hown
 have HB := yab hb
 have HC := yab h1c
 have HN := yab hnil
 clear hown hb h1c hnil H1 H2 H3 H4 Q1 Q2
 have CV : ∃ q1 q2 q3, cv = .slice q1 q2 q3 := by
  rcases OW.out.2 with ⟨e, _⟩ | ⟨_, _, _, e, _⟩
  ·exact ⟨_, _, _, e⟩
  ·exact ⟨_, _, _, e⟩
 obtain ⟨q1, q2, q3, rfl⟩ := CV
 go_loopw [7, 24] (fun rv iv wr => (iv = .int .i64 0 ∧ rv = .slice none 0 0 ∧ wr = w3) ∨ (iv = .int .i64 1 ∧ Hid (wr.ownsRow w3.heap.size 44 3 rv m vs) ∧ Hid (Below w3.heap.size w3 wr))) (fun _ iv _ => 1 - (intOf iv).toNat)
 case atStart => exact .inl ⟨rfl, rfl, rfl⟩
 case round =>
  rcases hrel with ⟨rfl, rfl, rfl⟩ | ⟨rfl, hR, hB⟩
  ·have FIN : Hid (∀ (o : Obj) rv w5, w5.ownsRow (wr.alloc o).heap.size 44 3 rv m vs → (wr.alloc o).grownBy w5 none → w5.ownsRow wr.heap.size 44 3 rv m vs ∧ Below wr.heap.size wr w5) := fun o rv w5 ho hgr => ⟨ydp ho (fun k e => by have := (World.ownsRow.lt ho k e).1; simp at this; omega), ((Below.refl _ _).alloc (Nat.le_refl _) o).grown hgr (by simp) (fun j hj => by cases hj)⟩
   go_wp2_with (at_builtin; refine app_changes _ rfl (.tmp 33) (.tmp 35) rfl rfl _ z m vs rfl (OW.out.alloc _) HC.out (by omega) HN.out ?_; intro rv w5 ho5 hg5; have F5 := yab (FIN.out _ rv w5 ho5 hg5); clear ho5 hg5)
   go_roundw
   case rel => exact .inr ⟨by go_num, F5.out.1, F5.out.2⟩
   case measure => simp [intOf]
  ·obtain ⟨w4, hw4⟩ : ∃ w4, w4 = wr := ⟨_, rfl⟩
   subst hw4
   have hgb : gb < w3.heap.size := (Array.getElem?_eq_some_iff.1 HB.out).1
   have OB : Hid (∀ o, Below w3.heap.size w3 (w4.alloc o)) := fun o => hB.out.alloc hB.out.size o
   have d0 : w4.cell? ⟨gb, 0, none⟩ = some (.pointer (some ⟨ab, 0, none⟩)) := (hB.out.cell (p := ⟨gb, 0, none⟩) hgb).trans e0
   have d1 : w4.cell? ⟨gb, 1, none⟩ = some (.slice q1 q2 q3) := (hB.out.cell (p := ⟨gb, 1, none⟩) hgb).trans e1
   have d2 : w4.cell? ⟨gb, 2, none⟩ = some (.int .i64 0) := (hB.out.cell (p := ⟨gb, 2, none⟩) hgb).trans e2
   have dn : ∀ o, (w4.alloc o).cell? ⟨nb, 0, none⟩ = some (.slice (some ⟨pb, 0, none⟩) n cap) := fun o => ((OB.out o).cell (p := ⟨nb, 0, none⟩) hnb).trans cn
   have dg : ∀ o, (w4.alloc o).cell? ⟨g, 0, none⟩ = some (.int .i64 a) := fun o => ((OB.out o).cell (p := ⟨g, 0, none⟩) hg).trans cg
   have dx : ∀ o, (w4.alloc o).cell? ⟨pb, a, none⟩ = some x0 := fun o => ((OB.out o).cell (p := ⟨pb, a, none⟩) hpb).trans cx
   have df : ∀ o, (w4.alloc o).frozen? ⟨pb, a, none⟩ = false := fun o => by rw [← fx]; simp only [World.frozen?, (OB.out o).block pb hpb]
   have FIN : Hid (∀ (o : Obj) (k : Nat), ((w4.alloc o).drewN k).ownsRow w3.heap.size 44 3 u7 m vs ∧ Below w3.heap.size w3 ((w4.alloc o).drewN k)) := fun o k => ⟨hR.out.alloc o, below_drewN (OB.out o) k⟩
   clear e0 e1 e2 cn cg cx fx hnb hpb hg hgb
   go_wp2_with fail
   go_loopw [40] (fun iv wr2 => (iv = .int .i64 0 ∧ wr2 = w4) ∨ (iv = .int .i64 1 ∧ ∃ V', Hid (V'.ownsRow w3.heap.size 44 3 u7 m vs) ∧ Hid (Below w3.heap.size w3 V') ∧ Hid (wr2 = V'.setCell ⟨pb, a, none⟩ (.pointer (some ⟨ab, 0, none⟩))))) (fun iv _ => 1 - (intOf iv).toNat)
   case atStart => exact .inl ⟨rfl, rfl⟩
   case round =>
    rcases hrel with ⟨rfl, rfl⟩ | ⟨rfl, V', hR', hB', hE'⟩
    ·go_wp2_with fail
     go_region
     all_goals
      go_wp2
      refine ⟨.inr ⟨rfl, _, (FIN.out _ 1).1, (FIN.out _ 1).2, rfl⟩, by simp [intOf]⟩
    ·go_wp2
     go_ret2
     exact ⟨gb, w3, V', ab, z, _, _, rfl, Q3.out, HB.out, OW.out, hB'.out, hR'.out, hE'.out⟩
end Go.Proofs.K
