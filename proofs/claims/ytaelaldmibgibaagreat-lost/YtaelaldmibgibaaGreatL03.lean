/- The twin: append keeps memory tame. -/
import Derived.Test.YtaelaldmibgibaaGreatP50
import Derived.Deep.AppendLies

set_option linter.unusedVariables false
set_option linter.unusedSimpArgs false
set_option linter.unusedSectionVars false

namespace Go.Proofs.YtaelaldmibgibaaGreat
open Go.RowKit Go.Sim

theorem app_fixed {ρ : Operand → Value} {o : Oper} {s x : Operand} {t : TypeId} (ho : o.op = .call { callee := .builtin .append, args := #[s, x], argTypes := #[t, t] }) {v v' : World} {a : Next} (e : (execOp ρ o).run (twin Tryz.prog pl) v = .ok a v') (hv : Fixed v) : Fixed v' := by
  have hk : okOp (twin Tryz.prog pl) o.op = true := by rw [ho]; rfl
  have hs : SimE (twin Tryz.prog pl) (twin Tryz.prog pl) None' (fun _ => False) (execOp ρ o) := by
    refine sim_execOpC rfl ρ o hk fun c hop => ?_
    rw [ho] at hop
    cases hop
    unfold resolve
    dsimp only
    refine sim_pureBind ?_
    exact sim_builtin rfl .append rfl _ _ #[] _
  have hR : Rel None' ⟨v'.drawn, 0, 0, v.tape, v.tape⟩ v v := rel_self hv v.tape v.tape v'.drawn (fun _ _ _ => rfl)
  have hm := hs _ v v #[] hR
  rw [e] at hm
  rcases hm (Nat.le_refl _) with q | ⟨w', new, e', hR', _⟩
  · exact q.elim
  · obtain ⟨b1, _⟩ := rel_back hR'
    intro b ob hb
    have := b1 b
    rw [hb] at this
    cases hw : w'.heap[b]? with
    | none => rw [hw] at this; cases this
    | some y =>
      rw [hw, Option.map_some, Option.some.injEq] at this
      rw [this]
      exact tamed_tamed y
section
variable {ops : Array Oper} {rest : List Oper} {o : Oper} {a : Act} {Q : Exit → Act → World → Prop} (w : World)
/-- append of one value to a row of the call's own, in the twin -/
theorem qapp_one (hgd : o.guard = none) (s x : Operand) (t e : TypeId) (i0 : TypeInfo) (z : Value) (by_ : Nat) (ht : Tryz.prog.underlying t = some (.slice e)) (hi : Tryz.prog.info? e = some i0) (hz0 : i0.zero = some z) (hz1 : i0.size = 1) (hz2 : i0.bytes = by_) (hzs : z.cells.size = 1) (hby : by_ ≤ 16)
    (ho : o.op = .call { callee := .builtin .append, args := #[s, x], argTypes := #[t, t] }) (base : Nat) (v : Value) (n : Nat) (xs : List Value) (hs : a.eval s = v) (hown : w.ownsRow base e 1 v n xs)
    (k : Nat) (y : Value) (hx : a.eval x = .slice (some ⟨k, 0, none⟩) 1 1) (hc : w.cell? ⟨k, 0, none⟩ = some y) (hy : y.oneCell' = true) (hn : n ≤ 1000000) (hb : base ≤ w.heap.size) (hw : Fixed w)
    (h : ∀ g cap w1, w1.ownsRow base e 1 (.slice (some ⟨g, 0, none⟩) (n + 1) cap) (n + 1) (xs ++ [y]) → w.grownBy w1 v.ownBlock → (v.ownBlock = some g ∨ g = w.heap.size) → Fixed w1 → wpList (twin Tryz.prog pl) ops Q rest (a.put o.dst (.slice (some ⟨g, 0, none⟩) (n + 1) cap)) w1) :
    wpList (twin Tryz.prog pl) ops Q (o :: rest) a w := by
  refine wpList_plain hgd fun K hK => ?_
  obtain ⟨g, cap, w', hr, h2, h3, h4, h5⟩ := run_append_lies (P := twin Tryz.prog pl) w t o.type base e i0 z 1 by_ ((tw_underlying _).trans ht) ((tw_info _).trans hi) hz0 hz1 hz2 hzs (by decide) v n xs hown ⟨k, 0, none⟩ 1 1 [y] rfl (fun j u hj => by
    match j, hj with
    | 0, hj => simp at hj; subst hj; simpa [Addr.add] using hc) (fun u hu => by simp at hu; subst hu; exact hy) (by omega) (by unfold maxLen; omega) (by have : (n + 1) * by_ ≤ (n + 1) * 16 := Nat.mul_le_mul_left _ hby; omega) hb _ rfl
  have ex : (execOp a.eval o).run (twin Tryz.prog pl) w = .ok (.value (.slice (some ⟨g, 0, none⟩) (n + 1) cap)) w' := by
    unfold execOp
    simp [ho, resolve, invoke, builtin, hs, hx, hr, Result.andThen]
  have hf := app_fixed ho ex hw
  unfold Oper.wp
  rw [ex]
  exact hK _ _ (h g cap w' h2 h3 h4 hf)
end
end Go.Proofs.YtaelaldmibgibaaGreat
