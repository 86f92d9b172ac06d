/- Proved: PackedCardSaid: for every size, every two scripts, every place and every byte, reunionkeep.Packed returns true, whatever the memory and the schedule, and leaves what came in as it was. Conditions: the seven listed variables of Go's library hold what their texts lay (the card's tie); no other. -/
import Derived.Test.YtaelaldmibgibaaGreatDoorX50
import Derived.Test.YtaelaldmibgibaaGreatDoorX52
import Derived.Test.YtaelaldmibgibaaGreatDoorX29
import Derived.Test.YtaelaldmibgibaaGreatDoorX30

set_option linter.all false
set_option maxRecDepth 1000000

namespace Go.Proofs.YtaelaldmibgibaaGreatDoor
open Go.Proofs.K
open Go.ChangeShapes Go.WideShapes Go.ChangeAt Go.RowKit Go.Conc Go.Sim
open Go.ChangeMaps (open_string shut_string)
theorem readsP (os : Os) {H : Type} (enc : TypeId × Value → H) : ∃ places, DataW.whole enc Tryz.prog ((laidOf (World.holding Tryz.prog os heldIn) (World.settled Tryz.prog os).heap.size).forCall (fun _ _ => 0) ⟨#[], #[.int .i64 0, .slice none 0 0, .slice none 0 0, .int .i64 0, .int .u8 0], []⟩).memory Tryz.f9.params.toList Rows.packedSpec.vars false #[Value.int .i64 0, .slice none 0 0, .slice none 0 0, .int .i64 0, .int .u8 0].toList 8 = some ([.lit (.int .i64 0), .nil, .nil, .lit (.int .i64 0), .lit (.int .u8 0)], [], places) :=
 ⟨[], by kernel_rfl⟩
theorem laid_metP (os : Os) (args : Array Value) : laidMet Tryz.prog Rows.packedRow.laid ((laidOf (World.holding Tryz.prog os heldIn) (World.settled Tryz.prog os).heap.size).forCall (fun _ _ => 0) ⟨#[], args, []⟩).memory :=
 laidMet_of_run' 8 (by kernel_rfl) (by kernel_rfl)
theorem yux (os : Os) (started : os.Started) (H : Type) (enc : TypeId × Value → H) :
  ReturnsInLeavingWide {} Tryz.checked os 9 .any ((OpenSpec.ofChange Rows.packedSpec).preRow enc Tryz.prog Tryz.f9 Rows.packedRow.domain false Rows.packedRow.laid) (Rows.packedSpec.post enc Tryz.prog Tryz.f9 false true false false) := by
 obtain ⟨places, hx⟩ := readsP os enc
 refine returnsInLeavingWide_of_good own started
  (witness_row_atRef (enc := enc) (C := Tryz.checked) false (laidOf (World.holding Tryz.prog os heldIn) (World.settled Tryz.prog os).heap.size) #[.int .i64 0, .slice none 0 0, .slice none 0 0, .int .i64 0, .int .u8 0] rfl (by kernel_rfl) (by kernel_rfl) (by kernel_rfl)
   (OpenSpec.preRow_of_cond 8 hx (by kernel_rfl) (fun k hk => by cases hk) (by kernel_rfl) (laid_metP os _))) ?_
 intro w tape inp _ hsh _ hok hpre _
 obtain ⟨_, _, _, fn, hfn, _, _, _, _, hval0⟩ := hok
 obtain rfl : fn = Tryz.f9 := Option.some.inj (hfn.symm.trans Tryz.func9)
 obtain ⟨⟨hp, hl⟩, hzz⟩ := hpre
 obtain ⟨ds, gs, before, hw, _, _⟩ := OpenSpec.pre_parts hp
 have hsz0 := hzz.weights hw
 have hG : yez (w.forCall tape inp) := glob_of _ (hl.of_heap (by rfl)) hsh
 have hW : DataW.Whole enc Tryz.prog Tryz.f9.params.toList _ _ (w.forCall tape inp) inp.args.toList ds gs before := DataW.Whole.of_heap (w' := w.forCall tape inp) (by rfl) hw
 have hval : ∀ (j : Nat) t v, Tryz.f9.params[j]? = some t → inp.args[j]? = some v → Value.okWide Tryz.prog (w.forCall tape inp) .any w.heap.size t v := hval0
 have hsz : (DataW.weightsEach Tryz.prog (Tryz.f9.params.toList ++ Rows.packedSpec.plain.varTypes Tryz.prog) (ds ++ gs)).all (· ≤ reachBytes) = true := hsz0
 clear hval0 hp hl hzz hw hfn hsz0
 suffices q : ∃ N last o w' t', runNT Tryz.prog (N + 1) (solo (G (Frame.enter Tryz.prog 9 inp.args CallKind.normal) []) (w.forCall tape inp)) #[] = (Stepped.ended o w', t') ∧ runN Tryz.prog N (solo (G (Frame.enter Tryz.prog 9 inp.args CallKind.normal) []) (w.forCall tape inp)) = Stepped.next last ∧ step Tryz.prog last = Stepped.ended o w' ∧ Conc.Good Tryz.prog (fun v w' => Rows.packedSpec.post enc Tryz.prog Tryz.f9 false true false false (w.forCall tape inp) inp.args v w') last o w' t' by
  obtain ⟨N, last, o, w', t', q1, q2, q3, q4⟩ := q
  exact ⟨N, last, o, w', t', q1, q2, q3, q4.mono fun v hp => ChangeSpec.post_blind hp⟩
 clear hsh
 generalize w.forCall tape inp = W at *
 generalize inp.args = args at *
 have hW' := hW
 have hlt := hW.lt
 obtain ⟨p, q, hA0, hV, rfl, hfz, hnd⟩ := hW
 have hA : DataW.TrodAll enc Tryz.prog W 0 (fun _ => true) true Tryz.f9.params.toList args.toList ds p := hA0
 rw [Tryz.params9] at hA hval hsz
 obtain ⟨v0, vs0, d0, ds0, p0, q0, hargs, rfl, rfl, h0, r0⟩ := trodAll_cons hA
 obtain ⟨v1, vs1, d1, ds1, p1, q1, rfl, rfl, rfl, h1, r1⟩ := trodAll_cons r0
 obtain ⟨v2, vs2, d2, ds2, p2, q2, rfl, rfl, rfl, h2, r2⟩ := trodAll_cons r1
 obtain ⟨v3, vs3, d3, ds3, p3, q3, rfl, rfl, rfl, h3, r3⟩ := trodAll_cons r2
 obtain ⟨v4, vs4, d4, ds4, p4, q4, rfl, rfl, rfl, h4, r4⟩ := trodAll_cons r3
 obtain ⟨rfl, rfl, rfl⟩ := trodAll_nil r4
 obtain rfl : args = #[v0, v1, v2, v3, v4] := by cases args; simp_all
 obtain ⟨rfl, rfl⟩ := trodVars_none hV
 obtain ⟨n0, rfl, rfl, rfl, z0⟩ := open_int Tryz.underlying3 (hval 0 3 v0 rfl rfl) h0
 obtain ⟨a, len, cap, rfl⟩ := okWide_slice Tryz.underlying31 (hval 1 31 v1 rfl rfl)
 obtain ⟨a', len', cap', rfl⟩ := okWide_slice Tryz.underlying31 (hval 2 31 v2 rfl rfl)
 obtain ⟨n3, rfl, rfl, rfl, z3⟩ := open_int Tryz.underlying3 (hval 3 3 v3 rfl rfl) h3
 obtain ⟨n4, rfl, rfl, rfl, z4⟩ := open_int Tryz.underlying5 (hval 4 5 v4 rfl rfl) h4
 obtain ⟨ops, hops⟩ := ysm h1
 obtain ⟨ops', hops'⟩ := ysm h2
 have hlen := yyt h1 (j := 1) rfl rfl hsz
 have hlen' := yyt h2 (j := 2) rfl rfl hsz
 clear hA0 hA r0 r1 r2 r3 r4 hsz
 simp only [List.append_nil] at hW' hlt
 obtain ⟨M, last, o, w', t', g1, g2, g3, g4⟩ := in_company (W := W) (args := #[.int .i64 n0, .slice a len cap, .slice a' len' cap', .int .i64 n3, .int .u8 n4]) q_funcP Tryz.func9 (by kernel_rfl) (by kernel_rfl) (fun w hw hh => packed_any n0 n3 n4 (ysi z0) (ysi z3) a len cap hlen ops a' len' cap' hlen' ops' w hw (hG.calm hh) (fun i hi => by
  obtain ⟨ad, e, hs⟩ := hops i hi
  exact ⟨ad, e, ygk.calm hh hs⟩) (fun i hi => by
  obtain ⟨ad, e, hs⟩ := hops' i hi
  exact ⟨ad, e, ygk.calm hh hs⟩))
 refine ⟨M, last, o, w', t', g1, g2, g3, g4.mono fun v hF => ?_⟩
 obtain ⟨rfl, hst⟩ := hF
 refine ⟨_, _, _, [], [] ++ (p1 ++ (p2 ++ ([] ++ ([] ++ [])))), [], hW', ?_, ?_, rfl, yit.frame hst _, fun h => by cases h⟩
 ·exact trodAll_cons_mk (shut_bool Tryz.underlying4 _) trodAll_mk0
 ·refine trodAll_cons_mk (shut_int Tryz.underlying3 z0) (trodAll_cons_mk (Go.WideElems.Trod_stays laid yxr yyl h1 (fun p hp => yit.same hst (hlt p ?_)) (fun p hp => ?_)) (trodAll_cons_mk (Go.WideElems.Trod_stays laid yxr yyl h2 (fun p hp => yit.same hst (hlt p ?_)) (fun p hp => ?_)) (trodAll_cons_mk (shut_int Tryz.underlying3 z3) (trodAll_cons_mk (shut_int Tryz.underlying5 z4) trodAll_mk0))))
  ·simp only [List.nil_append, List.mem_append]; exact .inl hp
  ·exact decide_eq_true (hlt p (by simp only [List.nil_append, List.mem_append]; exact .inl hp))
  ·simp only [List.nil_append, List.mem_append]; exact .inr hp
  ·exact decide_eq_true (hlt p (by simp only [List.nil_append, List.mem_append]; exact .inr hp))
theorem packed_said : Rows.PackedSaid :=
 OpenClaim.holds_of_wide_leaving 9 Tryz.f9 rfl rfl rfl rfl rfl rfl rfl ⟨rfl, rfl, rfl, rfl, rfl⟩ rfl rfl rfl rfl rfl (by kernel_rfl) Tryz.func9 yuw
  (of_decide_eq_true (by kernel_rfl)) (by unfold Func.isWrapper; first | (rw [if_pos (by decide +kernel)]; kernel_rfl) | (rw [if_neg (by decide +kernel)]; exact ⟨rfl, rfl⟩))
  (fun os started H enc _ => by rw [OpenClaim.pre_eq_preRow]; exact yux os started H enc)
theorem yxk (f : FuncId) (fn : Func) (hf : Tryz.pinned.checked.prog.funcNamed "reunion/reunionkeep.Packed" = some f) (hfn : Tryz.pinned.checked.prog.funcs[f]? = some fn) :
  true = Tryz.pinned.checked.prog.looks [] ∧ ∀ (j : Nat) t, fn.params[j]? = some t → Tryz.pinned.checked.prog.wantsStandIn t = false := by
 obtain rfl : f = 9 := Option.some.inj ((show Tryz.prog.funcNamed "reunion/reunionkeep.Packed" = some 9 by kernel_rfl).symm.trans hf) |>.symm
 obtain rfl : fn = Tryz.f9 := (Option.some.inj (Tryz.func9.symm.trans hfn)).symm
 refine ⟨by kernel_rfl, fun j t ht => ?_⟩
 rw [Tryz.params9] at ht
 have hm := Array.mem_of_getElem? ht
 simp only [List.mem_toArray, List.mem_cons, List.not_mem_nil, or_false] at hm
 rcases hm with rfl | rfl | rfl | rfl | rfl
 ·exact (show Tryz.prog.wantsStandIn 3 = false by kernel_rfl)
 ·exact (show Tryz.prog.wantsStandIn 31 = false by kernel_rfl)
 ·exact (show Tryz.prog.wantsStandIn 31 = false by kernel_rfl)
 ·exact (show Tryz.prog.wantsStandIn 3 = false by kernel_rfl)
 ·exact (show Tryz.prog.wantsStandIn 5 = false by kernel_rfl)
theorem packed_card : Rows.PackedCardSaid :=
 tied_card .later _ _ _ _ _ packed_said (by kernel_rfl) packed_row_tie rfl ⟨rfl, rfl⟩ (by kernel_rfl) rfl yxk (by kernel_rfl)
end Go.Proofs.YtaelaldmibgibaaGreatDoor
#print axioms Go.Proofs.YtaelaldmibgibaaGreatDoor.packed_card
