/- Proved: PartedSaid: for all texts and every way, reunionkeep.Parted returns true, whatever the memory and the schedule, and leaves what came in as it was. Conditions: none. -/
import Derived.Test.YtaelaldmibgibaaGreatP51
import Derived.Test.YtaelaldmibgibaaGreatRows
import Derived.Conc.LeavingOf
import Derived.Conc.Holds
import Derived.ProofKit
import Derived.OpenShut
import Derived.WideKeyArgs

set_option linter.unusedVariables false
set_option linter.unusedSimpArgs false
set_option linter.unusedSectionVars false

namespace Go.Proofs.YtaelaldmibgibaaGreat
open Go.ChangeShapes Go.WideShapes Go.ChangeAt Go.RowKit Go.Conc Go.Sim
open Go.ChangeMaps (open_string shut_string)

theorem own : ownKnob Tryz.prog.godebug = none := by kernel_rfl
theorem laid : laidOutB Tryz.prog = true := by kernel_rfl
/-- old memory is as it was: places of it hold what they held -/
theorem Still.below {W W' : World} (h : Still W W') : Below W.heap.size W { W' with tape := W.tape } := ⟨h.os, rfl, h.output, h.size, h.old⟩
theorem Still.same {W W' : World} (h : Still W W') {p : MemPlace} (hp : p.block < W.heap.size) : W.sameAt W' p := (Still.below h).same hp
theorem Still.frame {W W' : World} (h : Still W W') (may : MemPlace → Prop) : W.keptBut W' may := (Still.below h).frame may
/-- a contract of the twin's at every tape gives a run in company -/
theorem in_company {f : Nat} {fn : Func} {args : Array Value} {W : World} (hfn : (twin Tryz.prog pl).funcs[f]? = some fn) (hsame : Tryz.prog.funcs[f]? = some fn) (hi : Tryz.prog.inits.idxOf? f = none)
    (h : ∀ w : World, Fixed w → w.heap = (calm W).heap → Calls (twin Tryz.prog pl) f args w (fun e w' => e = .returned (.bool true) ∧ Below w.heap.size w w')) :
    ∃ M last o w' t', runNT Tryz.prog (M + 1) (solo (G (Frame.enter Tryz.prog f args .normal) []) W) #[] = (.ended o w', t') ∧ runN Tryz.prog M (solo (G (Frame.enter Tryz.prog f args .normal) []) W) = .next last ∧
        step Tryz.prog last = .ended o w' ∧ Conc.Good Tryz.prog (fun v W' => v = .bool true ∧ Still W W') last o w' t' := by
  refine leaving_of_calls (Seat.of plib seat_ok) hfn (hsame.trans hfn.symm) hi (fun τ => ?_)
  refine (h ((calm W).tp τ) (calm_fixed W) rfl).mono ?_
  rintro e w' ⟨rfl, hb⟩
  exact ⟨rfl, hb.size, hb.block, hb.os, hb.output⟩
end Go.Proofs.YtaelaldmibgibaaGreat

namespace Go.Proofs.YtaelaldmibgibaaGreat
open Go.ChangeShapes Go.WideShapes Go.ChangeAt Go.RowKit Go.Conc Go.Sim
open Go.ChangeMaps (open_string shut_string)

set_option maxRecDepth 100000 in
theorem parted_lifted (os : Os) (started : os.Started) (H : Type) (enc : TypeId × Value → H) :
    ReturnsInLeavingWide {} Tryz.checked os 7 .any (Rows.partedSpec.pre6 enc Tryz.prog Tryz.f7 Rows.partedRow.domain false) (Rows.partedSpec.post enc Tryz.prog Tryz.f7 false true false false) := by
  refine returnsInLeavingWide_of_change_sized (C := Tryz.checked) own started Tryz.func7
    (ChangeSpec.witness6 (enc := enc) (C := Tryz.checked) false ⟨#[], #[.string ⟨#[]⟩, .string ⟨#[]⟩, .string ⟨#[]⟩, .int .i64 0], []⟩ 8 (by kernel_rfl) (by kernel_rfl) (by kernel_rfl) (by kernel_rfl)) ?_
  intro W base args ds gs before hval0 hW _ _ _
  have hW' := hW
  obtain ⟨p, q, hA0, hV, rfl, hfz, hnd⟩ := hW
  have hval : ∀ (j : Nat) t v, Tryz.f7.params[j]? = some t → args[j]? = some v → Value.okWide Tryz.prog W .any base t v := hval0
  have hA : DataW.TrodAll enc Tryz.prog W 0 (fun _ => true) true Tryz.f7.params.toList args.toList ds p := hA0
  rw [Tryz.params7] at hA hval
  obtain ⟨v0, vs0, d0, ds0, p0, q0, hargs, rfl, rfl, h0, r0⟩ := trodAll_cons hA
  obtain ⟨v1, vs1, d1, ds1, p1, q1, rfl, rfl, rfl, h1, r1⟩ := trodAll_cons r0
  obtain ⟨v2, vs2, d2, ds2, p2, q2, rfl, rfl, rfl, h2, r2⟩ := trodAll_cons r1
  obtain ⟨v3, vs3, d3, ds3, p3, q3, rfl, rfl, rfl, h3, r3⟩ := trodAll_cons r2
  obtain ⟨rfl, rfl, rfl⟩ := trodAll_nil r3
  obtain rfl : args = #[v0, v1, v2, v3] := by cases args; simp_all
  obtain ⟨rfl, rfl⟩ := trodVars_none hV
  obtain ⟨s0, rfl, rfl, rfl, z0⟩ := open_string Tryz.underlying9 (hval 0 9 v0 rfl rfl) h0
  obtain ⟨s1, rfl, rfl, rfl, z1⟩ := open_string Tryz.underlying9 (hval 1 9 v1 rfl rfl) h1
  obtain ⟨s2, rfl, rfl, rfl, z2⟩ := open_string Tryz.underlying9 (hval 2 9 v2 rfl rfl) h2
  obtain ⟨n, rfl, rfl, rfl, z3⟩ := open_int Tryz.underlying3 (hval 3 3 v3 rfl rfl) h3
  have hn : -9223372036854775808 ≤ n ∧ n < 9223372036854775808 := by
    have z := z3
    simp [Lit.wf, IntKind.min, IntKind.max, IntKind.signed, IntKind.bits] at z
    omega
  clear hA0 hA r0 r1 r2 r3
  obtain ⟨M, last, o, w', t', g1, g2, g3, g4⟩ := in_company (W := W) (args := #[.string s0, .string s1, .string s2, .int .i64 n]) q_func7 Tryz.func7 (by kernel_rfl) (fun w hw _ => parted_any s0 s1 s2 n hn w hw)
  refine ⟨M, last, o, w', t', g1, g2, g3, g4.mono fun v hF => ?_⟩
  obtain ⟨rfl, hst⟩ := hF
  refine ⟨_, _, _, [], [] ++ ([] ++ ([] ++ ([] ++ []))), [], hW', ?_, ?_, rfl, Still.frame hst _, fun h => by cases h⟩
  · exact trodAll_cons_mk (shut_bool Tryz.underlying4 _) trodAll_mk0
  · exact trodAll_cons_mk (shut_string Tryz.underlying9 z0) (trodAll_cons_mk (shut_string Tryz.underlying9 z1) (trodAll_cons_mk (shut_string Tryz.underlying9 z2) (trodAll_cons_mk (shut_int Tryz.underlying3 z3) trodAll_mk0)))
theorem parted_holds : Rows.PartedSaid :=
  OpenClaim.holds_of_wide_leaving 7 Tryz.f7 rfl rfl rfl rfl rfl rfl rfl ⟨rfl, rfl, rfl, rfl, rfl⟩ rfl rfl rfl rfl rfl (by kernel_rfl) Tryz.func7 (by kernel_rfl)
    (of_decide_eq_true (by kernel_rfl)) (by unfold Func.isWrapper; first | (rw [if_pos (by decide +kernel)]; kernel_rfl) | (rw [if_neg (by decide +kernel)]; exact ⟨rfl, rfl⟩))
    (fun os started H enc _ => parted_lifted os started H enc)
end Go.Proofs.YtaelaldmibgibaaGreat
#print axioms Go.Proofs.YtaelaldmibgibaaGreat.parted_holds
