/- Proved: SpreadSaid: for every size and every script, reunionkeep.Spread returns true, whatever the memory and the schedule, and leaves what came in as it was. Conditions: none. -/
import Derived.Test.YtaelaldmibgibaaGreatS33
import Derived.Test.YtaelaldmibgibaaGreatRows
import Derived.Conc.LeavingOf
import Derived.Conc.Holds
import Derived.ProofKit
import Derived.OpenShut
import Derived.WideKeyArgs
import Derived.SizedLaws
import Derived.Deep.Slices
import Derived.Test.YtaelaldmibgibaaGreatS35

set_option linter.unusedVariables false
set_option linter.unusedSimpArgs false
set_option linter.unusedSectionVars false

namespace Go.Proofs.YtaelaldmibgibaaGreat
open Go.ChangeShapes Go.WideShapes Go.ChangeAt Go.RowKit Go.Conc Go.Sim
open Go.ChangeMaps (open_string shut_string)

theorem own : ownKnob Tryz.prog.godebug = none := by kernel_rfl
theorem laid : laidOutB Tryz.prog = true := by kernel_rfl
theorem Still.below {W W' : World} (h : Still W W') : Below W.heap.size W { W' with tape := W.tape } := ⟨h.os, rfl, h.output, h.size, h.old⟩
theorem Still.same {W W' : World} (h : Still W W') {p : MemPlace} (hp : p.block < W.heap.size) : W.sameAt W' p := (Still.below h).same hp
theorem Still.frame {W W' : World} (h : Still W W') (may : MemPlace → Prop) : W.keptBut W' may := (Still.below h).frame may
theorem in_company {f : Nat} {fn : Func} {args : Array Value} {W : World} (hfn : (twin Tryz.prog pl).funcs[f]? = some fn) (hsame : Tryz.prog.funcs[f]? = some fn) (hi : Tryz.prog.inits.idxOf? f = none)
    (h : ∀ w : World, Fixed w → w.heap = (calm W).heap → Calls (twin Tryz.prog pl) f args w (fun e w' => e = .returned (.bool true) ∧ Below w.heap.size w w')) :
    ∃ M last o w' t', runNT Tryz.prog (M + 1) (solo (G (Frame.enter Tryz.prog f args .normal) []) W) #[] = (.ended o w', t') ∧ runN Tryz.prog M (solo (G (Frame.enter Tryz.prog f args .normal) []) W) = .next last ∧
        step Tryz.prog last = .ended o w' ∧ Conc.Good Tryz.prog (fun v W' => v = .bool true ∧ Still W W') last o w' t' := by
  refine leaving_of_calls (Seat.of plib seat_ok) hfn (hsame.trans hfn.symm) hi (fun τ => ?_)
  refine (h ((calm W).tp τ) (calm_fixed W) rfl).mono ?_
  rintro e w' ⟨rfl, hb⟩
  exact ⟨rfl, hb.size, hb.block, hb.os, hb.output⟩
end Go.Proofs.YtaelaldmibgibaaGreat

namespace Go.Proofs.YtaelaldmibgibaaGreat
open Go.ChangeShapes Go.WideShapes Go.ChangeAt Go.RowKit Go.Conc Go.Sim
open Go.ChangeMaps (open_string shut_string)

theorem readSteps : Tryz.prog.readableRec 42 = true := by kernel_rfl
theorem sizeSteps : 42 < Tryz.prog.types.size := of_decide_eq_true (by kernel_rfl)
theorem cells_step : Tryz.prog.cellsOf 52 = 5 := by kernel_rfl
theorem cells_int1 : Tryz.prog.cellsOf 3 = 1 := by kernel_rfl
theorem cells_str1 : Tryz.prog.cellsOf 9 = 1 := by kernel_rfl
theorem list5 {α : Type} {l : List α} (h : l.length = 5) : ∃ a b c d e, l = [a, b, c, d, e] := by
  rcases l with _ | ⟨a, _ | ⟨b, _ | ⟨c, _ | ⟨d, _ | ⟨e, _ | ⟨z, l⟩⟩⟩⟩⟩⟩ <;> simp at h
  exact ⟨a, b, c, d, e, rfl⟩
theorem inI_of {n : Int} (h : (Lit.int .i64 n).wf = true) : inI n := by
  unfold inI
  simp [Lit.wf, IntKind.min, IntKind.max, IntKind.signed, IntKind.bits] at h
  omega
theorem cell_lt {w : World} {a : Addr} {v : Value} (h : w.cell? a = some v) : a.block < w.heap.size := by
  rcases Nat.lt_or_ge a.block w.heap.size with q | q
  · exact q
  · simp [World.cell?, Array.getElem?_eq_none q] at h
set_option maxRecDepth 10000 in
theorem open_step {H : Type} {enc : TypeId × Value → H} {W : World} {n : Nat} {a : Addr} {i : Nat} {D : DataW H} {Pl : List MemPlace} {cs' : List Value} (h1 : W.cells? 0 (a.add (i * 5)) 5 = some cs')
    (h2 : DataW.trod enc Tryz.prog W 0 (fun _ => true) true n 52 cs' = some (D, Pl)) : ∃ o, StepAt W a i o := by
  obtain ⟨_, hlen, hcell⟩ := World.cells?_some h1
  obtain ⟨xs, k, hk, hxy, _, hxl, hf⟩ := DataW.trod_struct Tryz.underlying52 h2
  obtain ⟨v0, v1, v2, v3, v4, rfl⟩ := list5 hlen
  obtain ⟨y0, y1, y2, y3, y4, rfl⟩ := list5 (l := xs) (by simpa using hxl)
  have g0 := hf 0 _ rfl
  have g1 := hf 1 _ rfl
  have g2 := hf 2 _ rfl
  have g3 := hf 3 _ rfl
  have g4 := hf 4 _ rfl
  simp [cells_int1, cells_str1] at g0 g1 g2 g3 g4
  obtain ⟨x0, r0, _, z0⟩ := DataW.trod_int Tryz.underlying3 g0
  obtain ⟨x1, r1, _, z1⟩ := DataW.trod_int Tryz.underlying3 g1
  obtain ⟨x2, r2, _, z2⟩ := DataW.trod_int Tryz.underlying3 g2
  obtain ⟨x3, r3, _, z3⟩ := DataW.trod_int Tryz.underlying3 g3
  obtain ⟨x4, r4, _, _⟩ := DataW.trod_string Tryz.underlying9 g4
  simp at r0 r1 r2 r3 r4
  subst r0 r1 r2 r3 r4
  have e0 := hcell 0 (by omega)
  have e1 := hcell 1 (by omega)
  have e2 := hcell 2 (by omega)
  have e3 := hcell 3 (by omega)
  have e4 := hcell 4 (by omega)
  rw [Deep.add_add] at e0 e1 e2 e3 e4
  refine ⟨⟨x0, x1, x2, x3, x4⟩, ?_, by simpa using e0, by simpa using e1, by simpa using e2, by simpa using e3, by simpa using e4, inI_of z0, inI_of z1, inI_of z2, inI_of z3⟩
  have := cell_lt (e0.trans rfl)
  rw [add_block'] at this
  exact this
theorem calm_cell {W w : World} (hw : w.heap = (calm W).heap) {a : Addr} {v : Value} (h : W.cell? a = some v) : w.cell? a = some v := by
  unfold World.cell? at h ⊢
  rw [hw]
  simp only [calm, Array.getElem?_map]
  cases ho : W.heap[a.block]? with
  | none => rw [ho] at h; simp at h
  | some o =>
    rw [ho] at h
    cases o <;> first | (simp at h; done) | skip
    simp only [Option.map_some]
    rw [tamed_of rfl]
    exact h
theorem StepAt.calm {W w : World} (hw : w.heap = (calm W).heap) {ad : Addr} {i : Nat} {o : StepO} (h : StepAt W ad i o) : StepAt w ad i o :=
  ⟨by rw [hw]; simpa [Go.Sim.calm] using h.lt, calm_cell hw h.c0, calm_cell hw h.c1, calm_cell hw h.c2, calm_cell hw h.c3, calm_cell hw h.c4, h.r0, h.r1, h.r2, h.r3⟩
theorem open_steps {H : Type} {enc : TypeId × Value → H} {W : World} {a : Option Addr} {len cap : Nat} {d : DataW H} {p : List MemPlace} (h : DataW.Trod enc Tryz.prog W 0 (fun _ => true) true 42 (.slice a len cap) d p) :
    ∃ os : Nat → StepO, ∀ i, i < len → ∃ ad, a = some ad ∧ StepAt W ad i (os i) := by
  obtain ⟨fuel, hf⟩ := h
  have key : ∀ i, ∃ o, i < len → ∃ ad, a = some ad ∧ StepAt W ad i o := by
    intro i
    by_cases hi : i < len
    · rcases Deep.open_slice Tryz.underlying42 hf with ⟨e, _⟩ | ⟨ad, len', cap', m, k, D, Pl, e, _, _, _, hm, hx, hel⟩
      · simp [Value.cells] at e
        obtain ⟨rfl, rfl, rfl⟩ := e
        omega
      · simp [Value.cells] at e
        obtain ⟨rfl, rfl, rfl⟩ := e
        have hlm : len ≤ m := by rw [hm]; simp only [if_true]; omega
        obtain ⟨cs', g1, g2⟩ := hel i (by omega)
        rw [cells_step] at g1
        obtain ⟨o, ho⟩ := open_step g1 g2
        exact ⟨o, fun _ => ⟨ad, rfl, ho⟩⟩
    · exact ⟨⟨0, 0, 0, 0, ⟨#[]⟩⟩, fun q => absurd q hi⟩
  exact ⟨fun i => (key i).choose, fun i => (key i).choose_spec⟩
end Go.Proofs.YtaelaldmibgibaaGreat

namespace Go.Proofs.YtaelaldmibgibaaGreat
open Go.ChangeShapes Go.WideShapes Go.ChangeAt Go.RowKit Go.Conc Go.Sim
open Go.ChangeMaps (open_string shut_string)

set_option maxRecDepth 100000 in
theorem spread_lifted (os : Os) (started : os.Started) (H : Type) (enc : TypeId × Value → H) :
    ReturnsInLeavingWide {} Tryz.checked os 5 .any (Rows.spreadSpec.pre6 enc Tryz.prog Tryz.f5 Rows.spreadRow.domain false) (Rows.spreadSpec.post enc Tryz.prog Tryz.f5 false true false false) := by
  refine returnsInLeavingWide_of_change_sized (C := Tryz.checked) own started Tryz.func5
    (ChangeSpec.witness6 (enc := enc) (C := Tryz.checked) false ⟨#[], #[.int .i64 0, .slice none 0 0], []⟩ 8 (by kernel_rfl) (by kernel_rfl) (by kernel_rfl) (by kernel_rfl)) ?_
  intro W base args ds gs before hval0 hW _ hsz0 _
  have hW' := hW
  have hlt := hW.lt
  obtain ⟨p, q, hA0, hV, rfl, hfz, hnd⟩ := hW
  have hval : ∀ (j : Nat) t v, Tryz.f5.params[j]? = some t → args[j]? = some v → Value.okWide Tryz.prog W .any base t v := hval0
  have hA : DataW.TrodAll enc Tryz.prog W 0 (fun _ => true) true Tryz.f5.params.toList args.toList ds p := hA0
  have hsz : (DataW.weightsEach Tryz.prog (Tryz.f5.params.toList ++ Rows.spreadSpec.plain.varTypes Tryz.prog) (ds ++ gs)).all (· ≤ reachBytes) = true := hsz0
  rw [Tryz.params5] at hA hval hsz
  obtain ⟨v0, vs0, d0, ds0, p0, q0, hargs, rfl, rfl, h0, r0⟩ := trodAll_cons hA
  obtain ⟨v1, vs1, d1, ds1, p1, q1, rfl, rfl, rfl, h1, r1⟩ := trodAll_cons r0
  obtain ⟨rfl, rfl, rfl⟩ := trodAll_nil r1
  obtain rfl : args = #[v0, v1] := by cases args; simp_all
  obtain ⟨rfl, rfl⟩ := trodVars_none hV
  obtain ⟨n0, rfl, rfl, rfl, z0⟩ := open_int Tryz.underlying3 (hval 0 3 v0 rfl rfl) h0
  obtain ⟨a, len, cap, rfl⟩ := okWide_slice Tryz.underlying42 (hval 1 42 v1 rfl rfl)
  obtain ⟨ops, hops⟩ := open_steps h1
  clear hA0 hA r0 r1 hsz hsz0
  simp only [List.append_nil] at hW' hlt
  obtain ⟨M, last, o, w', t', g1, g2, g3, g4⟩ := in_company (W := W) (args := #[.int .i64 n0, .slice a len cap]) q_func5 Tryz.func5 (by kernel_rfl) (fun w hw hh => spread_any n0 (inI_of z0) a len cap ops w hw (fun i hi => by
    obtain ⟨ad, e, hs⟩ := hops i hi
    exact ⟨ad, e, StepAt.calm hh hs⟩))
  refine ⟨M, last, o, w', t', g1, g2, g3, g4.mono fun v hF => ?_⟩
  obtain ⟨rfl, hst⟩ := hF
  refine ⟨_, _, _, [], [] ++ (p1 ++ []), [], hW', ?_, ?_, rfl, Still.frame hst _, fun h => by cases h⟩
  · exact trodAll_cons_mk (shut_bool Tryz.underlying4 _) trodAll_mk0
  · refine trodAll_cons_mk (shut_int Tryz.underlying3 z0) (trodAll_cons_mk (Go.WideElems.Trod_stays laid readSteps sizeSteps h1 (fun p hp => Still.same hst (hlt p ?_)) (fun p hp => ?_)) trodAll_mk0)
    · simpa using hp
    · simpa using hlt p (by simpa using hp)
theorem spread_holds : Rows.SpreadSaid :=
  OpenClaim.holds_of_wide_leaving 5 Tryz.f5 rfl rfl rfl rfl rfl rfl rfl ⟨rfl, rfl, rfl, rfl, rfl⟩ rfl rfl rfl rfl rfl (by kernel_rfl) Tryz.func5 (by kernel_rfl)
    (of_decide_eq_true (by kernel_rfl)) (by unfold Func.isWrapper; first | (rw [if_pos (by decide +kernel)]; kernel_rfl) | (rw [if_neg (by decide +kernel)]; exact ⟨rfl, rfl⟩))
    (fun os started H enc _ => spread_lifted os started H enc)
end Go.Proofs.YtaelaldmibgibaaGreat
#print axioms Go.Proofs.YtaelaldmibgibaaGreat.spread_holds
