/- Proved: TwiceCardSaid: for every size, every script and every two replicas, reunionkeep.Twice returns true, whatever the memory and the schedule, and leaves what came in as it was. Conditions: the three listed variables of Go's library hold what their texts lay (the card's tie); no other. -/
import Derived.Test.YtaelaldmibgibaaGreatDoorT50
import Derived.Test.YtaelaldmibgibaaGreatDoorT51
import Derived.Test.YtaelaldmibgibaaGreatDoorT52
import Derived.Test.YtaelaldmibgibaaGreatDoorT43
import Derived.Test.YtaelaldmibgibaaGreatDoorT44
import Derived.Stop.Joined

set_option linter.unusedVariables false
set_option linter.unusedSimpArgs false
set_option linter.unusedSectionVars false
set_option maxRecDepth 1000000

namespace Go.Proofs.YtaelaldmibgibaaGreatDoor
open Go.ChangeShapes Go.WideShapes Go.ChangeAt Go.RowKit Go.Conc Go.Sim
open Go.ChangeMaps (open_string shut_string)
theorem readsT (os : Os) {H : Type} (enc : TypeId × Value → H) : ∃ places, DataW.whole enc Tryz.prog ((laidOf (World.holding Tryz.prog os heldIn) (World.settled Tryz.prog os).heap.size).forCall (fun _ _ => 0) ⟨#[], #[.int .i64 0, .slice none 0 0, .int .i64 0, .int .i64 0], []⟩).memory Tryz.f7.params.toList Rows.twiceSpec.vars false #[Value.int .i64 0, .slice none 0 0, .int .i64 0, .int .i64 0].toList 8 = some ([.lit (.int .i64 0), .nil, .lit (.int .i64 0), .lit (.int .i64 0)], [], places) :=
 ⟨[], by kernel_rfl⟩
theorem laid_metT (os : Os) (args : Array Value) : laidMet Tryz.prog Rows.twiceRow.laid ((laidOf (World.holding Tryz.prog os heldIn) (World.settled Tryz.prog os).heap.size).forCall (fun _ _ => 0) ⟨#[], args, []⟩).memory :=
 laidMet_of_run' 8 (by kernel_rfl) (by kernel_rfl)
theorem yud (os : Os) (started : os.Started) (H : Type) (enc : TypeId × Value → H) :
  ReturnsInLeavingWide {} Tryz.checked os 7 .any ((OpenSpec.ofChange Rows.twiceSpec).preRow enc Tryz.prog Tryz.f7 Rows.twiceRow.domain false Rows.twiceRow.laid) (Rows.twiceSpec.post enc Tryz.prog Tryz.f7 false true false false) := by
 obtain ⟨places, hx⟩ := readsT os enc
 refine returnsInLeavingWide_of_good own started
  (witness_row_atRef (enc := enc) (C := Tryz.checked) false (laidOf (World.holding Tryz.prog os heldIn) (World.settled Tryz.prog os).heap.size) #[.int .i64 0, .slice none 0 0, .int .i64 0, .int .i64 0] rfl (by kernel_rfl) (by kernel_rfl) (by kernel_rfl)
   (OpenSpec.preRow_of_cond 8 hx (by kernel_rfl) (fun k hk => by cases hk) (by kernel_rfl) (laid_metT os _))) ?_
 intro w tape inp _ hsh _ hok hpre _
 obtain ⟨_, _, _, fn, hfn, _, _, _, _, hval0⟩ := hok
 obtain rfl : fn = Tryz.f7 := Option.some.inj (hfn.symm.trans Tryz.func7)
 obtain ⟨⟨hp, hl⟩, hzz⟩ := hpre
 obtain ⟨ds, gs, before, hw, _, _⟩ := OpenSpec.pre_parts hp
 have hsz0 := hzz.weights hw
 have hG : yli (w.forCall tape inp) := globT_of _ (hl.of_heap (by rfl)) hsh
 have hW : DataW.Whole enc Tryz.prog Tryz.f7.params.toList _ _ (w.forCall tape inp) inp.args.toList ds gs before := DataW.Whole.of_heap (w' := w.forCall tape inp) (by rfl) hw
 have hval : ∀ (j : Nat) t v, Tryz.f7.params[j]? = some t → inp.args[j]? = some v → Value.okWide Tryz.prog (w.forCall tape inp) .any w.heap.size t v := hval0
 have hsz : (DataW.weightsEach Tryz.prog (Tryz.f7.params.toList ++ Rows.twiceSpec.plain.varTypes Tryz.prog) (ds ++ gs)).all (· ≤ reachBytes) = true := hsz0
 clear hval0 hp hl hzz hw hfn hsz0
 suffices q : ∃ N last o w' t', runNT Tryz.prog (N + 1) (solo (G (Frame.enter Tryz.prog 7 inp.args CallKind.normal) []) (w.forCall tape inp)) #[] = (Stepped.ended o w', t') ∧ runN Tryz.prog N (solo (G (Frame.enter Tryz.prog 7 inp.args CallKind.normal) []) (w.forCall tape inp)) = Stepped.next last ∧ step Tryz.prog last = Stepped.ended o w' ∧ Conc.Good Tryz.prog (fun v w' => Rows.twiceSpec.post enc Tryz.prog Tryz.f7 false true false false (w.forCall tape inp) inp.args v w') last o w' t' by
  obtain ⟨N, last, o, w', t', q1, q2, q3, q4⟩ := q
  exact ⟨N, last, o, w', t', q1, q2, q3, q4.mono fun v hp => ChangeSpec.post_blind hp⟩
 clear hsh
 generalize w.forCall tape inp = W at *
 generalize inp.args = args at *
 have hW' := hW
 have hlt := hW.lt
 obtain ⟨p, q, hA0, hV, rfl, hfz, hnd⟩ := hW
 have hA : DataW.TrodAll enc Tryz.prog W 0 (fun _ => true) true Tryz.f7.params.toList args.toList ds p := hA0
 rw [Tryz.params7] at hA hval hsz
 obtain ⟨v0, vs0, d0, ds0, p0, q0, hargs, rfl, rfl, h0, r0⟩ := trodAll_cons hA
 obtain ⟨v1, vs1, d1, ds1, p1, q1, rfl, rfl, rfl, h1, r1⟩ := trodAll_cons r0
 obtain ⟨v2, vs2, d2, ds2, p2, q2, rfl, rfl, rfl, h2, r2⟩ := trodAll_cons r1
 obtain ⟨v3, vs3, d3, ds3, p3, q3, rfl, rfl, rfl, h3, r3⟩ := trodAll_cons r2
 obtain ⟨rfl, rfl, rfl⟩ := trodAll_nil r3
 obtain rfl : args = #[v0, v1, v2, v3] := by cases args; simp_all
 obtain ⟨rfl, rfl⟩ := trodVars_none hV
 obtain ⟨n0, rfl, rfl, rfl, z0⟩ := open_int Tryz.underlying3 (hval 0 3 v0 rfl rfl) h0
 obtain ⟨a, len, cap, rfl⟩ := okWide_slice Tryz.underlying31 (hval 1 31 v1 rfl rfl)
 obtain ⟨n2, rfl, rfl, rfl, z2⟩ := open_int Tryz.underlying3 (hval 2 3 v2 rfl rfl) h2
 obtain ⟨n3, rfl, rfl, rfl, z3⟩ := open_int Tryz.underlying3 (hval 3 3 v3 rfl rfl) h3
 obtain ⟨ops, hops⟩ := open_steps h1
 have hlen := steps_len h1 (j := 1) rfl rfl hsz
 clear hA0 hA r0 r1 r2 r3 hsz
 simp only [List.append_nil] at hW' hlt
 obtain ⟨M, last, o, w', t', g1, g2, g3, g4⟩ := in_company (W := W) (args := #[.int .i64 n0, .slice a len cap, .int .i64 n2, .int .i64 n3]) q_funcT Tryz.func7 (by kernel_rfl) (by kernel_rfl) (fun w hw hh => twice_any n0 n2 n3 (ymm z0) (ymm z2) (ymm z3) a len cap hlen ops w hw (hG.calm hh) (fun i hi => by
  obtain ⟨ad, e, hs⟩ := hops i hi
  exact ⟨ad, e, ygw.calm hh hs⟩))
 refine ⟨M, last, o, w', t', g1, g2, g3, g4.mono fun v hF => ?_⟩
 obtain ⟨rfl, hst⟩ := hF
 refine ⟨_, _, _, [], [] ++ (p1 ++ ([] ++ ([] ++ []))), [], hW', ?_, ?_, rfl, ygz.frame hst _, fun h => by cases h⟩
 ·exact trodAll_cons_mk (shut_bool Tryz.underlying4 _) trodAll_mk0
 ·refine trodAll_cons_mk (shut_int Tryz.underlying3 z0) (trodAll_cons_mk (Go.WideElems.Trod_stays laid readSteps sizeSteps h1 (fun p hp => ygz.same hst (hlt p ?_)) (fun p hp => ?_)) (trodAll_cons_mk (shut_int Tryz.underlying3 z2) (trodAll_cons_mk (shut_int Tryz.underlying3 z3) trodAll_mk0)))
  ·simpa using hp
  ·simpa using hlt p (by simpa using hp)
theorem twice_said : Rows.TwiceSaid :=
 OpenClaim.holds_of_wide_leaving 7 Tryz.f7 rfl rfl rfl rfl rfl rfl rfl ⟨rfl, rfl, rfl, rfl, rfl⟩ rfl rfl rfl rfl rfl (by kernel_rfl) Tryz.func7 yuc
  (of_decide_eq_true (by kernel_rfl)) (by unfold Func.isWrapper; first | (rw [if_pos (by decide +kernel)]; kernel_rfl) | (rw [if_neg (by decide +kernel)]; exact ⟨rfl, rfl⟩))
  (fun os started H enc _ => by rw [OpenClaim.pre_eq_preRow]; exact yud os started H enc)
theorem yws (f : FuncId) (fn : Func) (hf : Tryz.pinned.checked.prog.funcNamed "reunion/reunionkeep.Twice" = some f) (hfn : Tryz.pinned.checked.prog.funcs[f]? = some fn) :
  true = Tryz.pinned.checked.prog.looks [] ∧ ∀ (j : Nat) t, fn.params[j]? = some t → Tryz.pinned.checked.prog.wantsStandIn t = false := by
 obtain rfl : f = 7 := Option.some.inj ((show Tryz.prog.funcNamed "reunion/reunionkeep.Twice" = some 7 by kernel_rfl).symm.trans hf) |>.symm
 obtain rfl : fn = Tryz.f7 := (Option.some.inj (Tryz.func7.symm.trans hfn)).symm
 refine ⟨by kernel_rfl, fun j t ht => ?_⟩
 rw [Tryz.params7] at ht
 have hm := Array.mem_of_getElem? ht
 simp only [List.mem_toArray, List.mem_cons, List.not_mem_nil, or_false] at hm
 rcases hm with rfl | rfl | rfl | rfl
 ·exact (show Tryz.prog.wantsStandIn 3 = false by kernel_rfl)
 ·exact (show Tryz.prog.wantsStandIn 31 = false by kernel_rfl)
 ·exact (show Tryz.prog.wantsStandIn 3 = false by kernel_rfl)
 ·exact (show Tryz.prog.wantsStandIn 3 = false by kernel_rfl)
theorem twice_card : Rows.TwiceCardSaid :=
 tied_card .later _ _ _ _ _ twice_said (by kernel_rfl) twice_row_tie rfl ⟨rfl, rfl⟩ (by kernel_rfl) rfl yws (by kernel_rfl)
end Go.Proofs.YtaelaldmibgibaaGreatDoor
#print axioms Go.Proofs.YtaelaldmibgibaaGreatDoor.twice_card
