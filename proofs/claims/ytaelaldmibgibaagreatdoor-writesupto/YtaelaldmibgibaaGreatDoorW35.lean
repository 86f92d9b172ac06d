/- Proved: WritesUptoCardSaid: for every n and every script that together hold at most 1048576 values and letters, reunionlaw.Writes returns true, whatever the memory and the schedule, and leaves what came in as it was. Conditions: the seven listed variables of Go's library hold what their texts lay (the card's tie); no other. -/
import Derived.Test.YtaelaldmibgibaaGreatDoorW34
import Derived.Test.YtaelaldmibgibaaGreatDoorW02
import Derived.Test.YtaelaldmibgibaaGreatDoorW03
import Derived.Test.YtaelaldmibgibaaGreatDoorW04
import Derived.ProofKit
import Derived.OpenShut
import Derived.JoinedCond
import Derived.WideKeyArgs
import Derived.Deep.Slices

set_option linter.unusedVariables false
set_option linter.unusedSimpArgs false

namespace Go.Proofs.YtaelaldmibgibaaGreatDoor
open Go.ChangeShapes Go.WideShapes Go.ChangeAt Go.RowKit
open Go.ChangeMaps (open_string shut_string)

theorem own : ownKnob Tryz.prog.godebug = none := by kernel_rfl
theorem laid : laidOutB Tryz.prog = true := by kernel_rfl
theorem readOps : Tryz.prog.readableRec 22 = true := by kernel_rfl
theorem sizeOps : 22 < Tryz.prog.types.size := of_decide_eq_true (by kernel_rfl)
theorem cells_op : Tryz.prog.cellsOf 62 = 7 := by kernel_rfl
theorem cells_str : Tryz.prog.cellsOf 9 = 1 := by kernel_rfl
theorem cells_bool : Tryz.prog.cellsOf 4 = 1 := by kernel_rfl
theorem cells_pairs : Tryz.prog.cellsOf 48 = 1 := by kernel_rfl

theorem bulk_part {H : Type} {d : DataW H} {l : List (DataW H)} (h : d ∈ l) : Rows.uptoBulk d ≤ Rows.uptoBulkAll l := by
  induction l with
  | nil => cases h
  | cons x r ih =>
    simp only [Rows.uptoBulkAll]
    rcases List.mem_cons.1 h with rfl | h
    · omega
    · have := ih h
      omega
theorem bulk_pos {H : Type} (d : DataW H) : 1 ≤ Rows.uptoBulk d := by
  cases d with
  | lit l => cases l <;> simp [Rows.uptoBulk]
  | nil => simp [Rows.uptoBulk]
  | ptr d => simp [Rows.uptoBulk]
  | slice elems spare => simp [Rows.uptoBulk]
  | agg parts => simp [Rows.uptoBulk]
  | iface t d => simp [Rows.uptoBulk]
  | map entries => simp [Rows.uptoBulk]
  | held h => simp [Rows.uptoBulk]
theorem bulk_len {H : Type} (l : List (DataW H)) : l.length ≤ Rows.uptoBulkAll l := by
  induction l with
  | nil => simp [Rows.uptoBulkAll]
  | cons x r ih =>
    have := bulk_pos x
    simp only [Rows.uptoBulkAll, List.length_cons]
    omega

theorem cell_lt {w : World} {a : Addr} {v : Value} (h : w.cell? a = some v) : a.block < w.heap.size := by
  rcases Nat.lt_or_ge a.block w.heap.size with q | q
  · exact q
  · simp [World.cell?, Array.getElem?_eq_none q] at h

theorem list7 {α : Type} {l : List α} (h : l.length = 7) : ∃ a b c d e f g, l = [a, b, c, d, e, f, g] := by
  rcases l with _ | ⟨a, _ | ⟨b, _ | ⟨c, _ | ⟨d, _ | ⟨e, _ | ⟨f, _ | ⟨g, _ | ⟨z, l⟩⟩⟩⟩⟩⟩⟩⟩ <;> simp at h
  exact ⟨a, b, c, d, e, f, g, rfl⟩

set_option maxRecDepth 10000 in
/-- one step of the script -/
theorem open_op {H : Type} {enc : TypeId × Value → H} {W : World} {n : Nat} {a : Addr} {i : Nat} {D : DataW H} {Pl : List MemPlace} {cs' : List Value} (h1 : W.cells? 0 (a.add (i * 7)) 7 = some cs')
    (h2 : DataW.trod enc Tryz.prog W 0 (fun _ => true) true n 62 cs' = some (D, Pl)) (hbulk : Rows.uptoBulk D ≤ 1048576) : ∃ o, OpAt W a i o := by
  obtain ⟨_, hlen, hcell⟩ := World.cells?_some h1
  obtain ⟨xs, k, hk, hxy, _, hxl, hf⟩ := DataW.trod_struct Tryz.underlying62 h2
  obtain ⟨v0, v1, v2, v3, v4, v5, v6, rfl⟩ := list7 hlen
  obtain ⟨y0, y1, y2, y3, y4, y5, y6, rfl⟩ := list7 (l := xs) (by simpa using hxl)
  have g0 := hf 0 _ rfl
  have g1 := hf 1 _ rfl
  have g2 := hf 2 _ rfl
  have g3 := hf 3 _ rfl
  have g4 := hf 4 _ rfl
  have g5 := hf 5 _ rfl
  have g6 := hf 6 _ rfl
  simp [cells_int, cells_str, cells_bool, cells_pairs] at g0 g1 g2 g3 g4 g5 g6
  obtain ⟨x0, r0, _, _⟩ := DataW.trod_int Tryz.underlying3 g0
  obtain ⟨x1, r1, _, _⟩ := DataW.trod_int Tryz.underlying3 g1
  obtain ⟨x2, r2, _, _⟩ := DataW.trod_int Tryz.underlying3 g2
  obtain ⟨x3, r3, z3, _⟩ := DataW.trod_string Tryz.underlying9 g3
  obtain ⟨x4, r4, z4, _⟩ := DataW.trod_string Tryz.underlying9 g4
  obtain ⟨x5, r5, _⟩ := DataW.trod_bool Tryz.underlying4 g5
  have r6 : ∃ pa pn pc, v6 = .slice pa pn pc := by
    rcases DataW.trod_slice Tryz.underlying48 g6 with ⟨e, _⟩ | ⟨pa, pn, pc, _, _, _, _, e, _⟩
    · simp at e; exact ⟨none, 0, 0, e⟩
    · simp at e; exact ⟨_, _, _, e⟩
  simp at r0 r1 r2 r3 r4 r5
  subst r0 r1 r2 r3 r4 r5
  have hD : D = .agg [y0.1, y1.1, y2.1, y3.1, y4.1, y5.1, y6.1] := by simpa using congrArg Prod.fst hxy
  have len : ∀ s : ByteArray, s.data.toList.length = s.size := fun s => by rw [Array.length_toList]; rfl
  have b3 : x3.size ≤ 1048576 := by
    have q := bulk_part (H := H) (d := y3.1) (l := [y0.1, y1.1, y2.1, y3.1, y4.1, y5.1, y6.1]) (by simp)
    rw [hD] at hbulk
    simp only [Rows.uptoBulk] at hbulk
    have z : Rows.uptoBulk y3.1 = x3.size + 1 := by rw [z3]; simp only [Rows.uptoBulk, len]
    omega
  have b4 : x4.size ≤ 1048576 := by
    have q := bulk_part (H := H) (d := y4.1) (l := [y0.1, y1.1, y2.1, y3.1, y4.1, y5.1, y6.1]) (by simp)
    rw [hD] at hbulk
    simp only [Rows.uptoBulk] at hbulk
    have z : Rows.uptoBulk y4.1 = x4.size + 1 := by rw [z4]; simp only [Rows.uptoBulk, len]
    omega
  have e0 := hcell 0 (by omega)
  have e1 := hcell 1 (by omega)
  have e2 := hcell 2 (by omega)
  have e3 := hcell 3 (by omega)
  have e4 := hcell 4 (by omega)
  have e5 := hcell 5 (by omega)
  have e6 := hcell 6 (by omega)
  rw [Deep.add_add] at e0 e1 e2 e3 e4 e5 e6
  refine ⟨⟨x0, x1, x2, x3, x4, x5, v6⟩, ?_, by simpa using e0, by simpa using e1, by simpa using e2, by simpa using e3, by simpa using e4, by simpa using e5, by simpa using e6, r6, by simp only; omega, by simp only; omega⟩
  have := cell_lt (e0.trans rfl)
  rw [add_block'] at this
  exact this

set_option maxRecDepth 100000 in
/-- what the walk gives, for every argument that is small enough -/
theorem contract (H : Type) (enc : TypeId × Value → H) (W : World) (base : Nat) (args : Array Value) (ds gs : List (DataW H)) (before : List MemPlace)
    (hval : ∀ (j : Nat) t v, Tryz.f3.params[j]? = some t → args[j]? = some v → Value.okWide Tryz.prog W .any base t v)
    (hW : DataW.Whole enc Tryz.prog Tryz.f3.params.toList Rows.writesSpec.vars false W args.toList ds gs before) (hk : Rows.uptoSmall H (ds ++ gs) = true) :
    Calls Tryz.prog 3 args W fun e W' => ∃ v, e = .returned v ∧ Rows.writesSpec.post enc Tryz.prog Tryz.f3 false true false false W args v W' := by
  have hW' := hW
  have hlt := hW.lt
  obtain ⟨p, q, hA0, hV, rfl, hfz, hnd⟩ := hW
  have hA : DataW.TrodAll enc Tryz.prog W 0 (fun _ => true) true Tryz.f3.params.toList args.toList ds p := hA0
  rw [Tryz.params3] at hA hval
  obtain ⟨v0, vs0, d0, ds0, p0, q0, hargs, rfl, rfl, h0, r0⟩ := trodAll_cons hA
  obtain ⟨v1, vs1, d1, ds1, p1, q1, rfl, rfl, rfl, h1, r1⟩ := trodAll_cons r0
  obtain ⟨rfl, rfl, rfl⟩ := trodAll_nil r1
  obtain rfl : args = #[v0, v1] := by cases args; simp_all
  obtain ⟨rfl, rfl⟩ := trodVars_none hV
  obtain ⟨n, rfl, rfl, rfl, w0⟩ := open_int Tryz.underlying3 (hval 0 3 v0 rfl rfl) h0
  have hb : Rows.uptoBulkAll [DataW.lit (H := H) (.int .i64 n), d1] ≤ 1048576 := of_decide_eq_true hk
  simp only [Rows.uptoBulkAll, Rows.uptoBulk] at hb
  obtain ⟨a, len, cap, rfl⟩ := okWide_slice Tryz.underlying22 (hval 1 22 v1 rfl rfl)
  have H1 := h1
  obtain ⟨fuel, hf⟩ := h1
  have hops : len ≤ 1048576 ∧ ∀ i, i < len → ∃ ad o, a = some ad ∧ OpAt W ad i o := by
    rcases Deep.open_slice Tryz.underlying22 hf with ⟨e, _⟩ | ⟨ad, len', cap', m, k, D, Pl, e, _, _, _, hm, hx, hel⟩
    · simp [Value.cells] at e
      obtain ⟨rfl, rfl, rfl⟩ := e
      exact ⟨by omega, fun i hi => by omega⟩
    · simp [Value.cells] at e
      obtain ⟨rfl, rfl, rfl⟩ := e
      have hd1 : d1 = .slice ((List.range len).map D) ((List.range (m - len)).map fun j => D (len + j)) := congrArg Prod.fst hx
      rw [hd1] at hb
      simp only [Rows.uptoBulk] at hb
      have hl := bulk_len ((List.range len).map D)
      simp only [List.length_map, List.length_range] at hl
      refine ⟨by omega, fun i hi => ?_⟩
      have hlm : len ≤ m := by rw [hm]; simp only [if_true]; omega
      obtain ⟨cs', g1, g2⟩ := hel i (by omega)
      rw [cells_op] at g1
      have hD := bulk_part (H := H) (d := D i) (l := (List.range len).map D) (List.mem_map.2 ⟨i, List.mem_range.2 hi, rfl⟩)
      obtain ⟨o, ho⟩ := open_op g1 g2 (by omega)
      exact ⟨ad, o, rfl, ho⟩
  clear hA0
  simp only [List.append_nil] at hW' hlt
  refine (writes_walk n a len cap W hops.1 hops.2).mono ?_
  rintro e W' ⟨rfl, hB⟩
  refine ⟨_, rfl, _, _, _, [], [] ++ (p1 ++ []), [], hW', ?_, ?_, rfl, hB.frame _, fun h => by cases h⟩
  · exact trodAll_cons_mk (shut_bool Tryz.underlying4 _) trodAll_mk0
  · refine trodAll_cons_mk (shut_int Tryz.underlying3 w0) (trodAll_cons_mk (Go.WideElems.Trod_stays laid readOps sizeOps H1 (fun p hp => hB.same (hlt p ?_)) (fun p hp => ?_)) trodAll_mk0)
    · simpa using hp
    · simpa using hlt p (by simpa using hp)

theorem reads (os : Os) {H : Type} (enc : TypeId × Value → H) : ∃ places, DataW.whole enc Tryz.prog ((laidOf (World.holding Tryz.prog os heldIn) (World.settled Tryz.prog os).heap.size).forCall (fun _ _ => 0) ⟨#[], #[.int .i64 0, .slice none 0 0], []⟩).memory Tryz.f3.params.toList Rows.writesSpec.vars false #[Value.int .i64 0, Value.slice none 0 0].toList 8 = some ([.lit (.int .i64 0), .nil], [], places) :=
  ⟨[], by kernel_rfl⟩

set_option maxRecDepth 1000000 in
theorem laid_met (os : Os) (args : Array Value) : laidMet Tryz.prog Rows.writesUptoRow.laid ((laidOf (World.holding Tryz.prog os heldIn) (World.settled Tryz.prog os).heap.size).forCall (fun _ _ => 0) ⟨#[], args, []⟩).memory :=
  laidMet_of_run' 8 (by kernel_rfl) (by kernel_rfl)

set_option maxRecDepth 100000 in
theorem lifted (os : Os) (started : os.Started) (H : Type) (enc : TypeId × Value → H) (F : Stop.Interp) :
    ReturnsInHanded {} Tryz.checked os 3 .any ((Rows.OpenSpec.upto Rows.writesSpec).preRow enc Tryz.prog Tryz.f3 Rows.writesUptoRow.domain false Rows.writesUptoRow.laid) (((Rows.OpenSpec.upto Rows.writesSpec).at F).post enc Tryz.prog Tryz.f3 false true false false) := by
  obtain ⟨places, hx⟩ := reads os enc
  refine returnsInHanded_of_row (C := Tryz.checked) (s := Rows.OpenSpec.upto Rows.writesSpec) own started (by kernel_rfl) Tryz.func3
    (witness_row_atRef (enc := enc) (C := Tryz.checked) false (laidOf (World.holding Tryz.prog os heldIn) (World.settled Tryz.prog os).heap.size) #[.int .i64 0, .slice none 0 0] rfl (by kernel_rfl) (by kernel_rfl) (by kernel_rfl)
      (OpenSpec.preRow_of_cond 8 hx (by kernel_rfl) (fun k hk => by cases hk; kernel_rfl) (by kernel_rfl) (laid_met os _))) ?_
  intro W base args ds gs before hval hW _ hk _ _ _ _
  exact contract H enc W base args ds gs before hval hW (hk _ rfl)

theorem writes_alone : ({ Rows.writesUptoRow with leaving := false } : OpenClaim).holds Tryz.pinned (Rows.OpenSpec.upto Rows.writesSpec) :=
  OpenClaim.holds_of_cond 3 Tryz.f3 rfl rfl rfl rfl rfl rfl rfl ⟨rfl, rfl, rfl, rfl, rfl⟩ rfl rfl rfl rfl rfl (by kernel_rfl) Tryz.func3 writes_closed
    (of_decide_eq_true (by kernel_rfl)) (by unfold Func.isWrapper; first | (rw [if_pos (by decide +kernel)]; kernel_rfl) | (rw [if_neg (by decide +kernel)]; exact ⟨rfl, rfl⟩))
    (fun os started H enc _ F => by rw [OpenClaim.pre_eq_preRow]; exact lifted os started H enc F)

theorem writes_upto : Rows.WritesUptoSaid := holds_leaving (c := Rows.writesUptoRow) rfl rfl rfl writes_alone

/-- no parameter wants a stand-in -/
theorem writes_plain (f : FuncId) (fn : Func) (hf : Tryz.pinned.checked.prog.funcNamed "reunion/reunionlaw.Writes" = some f) (hfn : Tryz.pinned.checked.prog.funcs[f]? = some fn) :
    true = Tryz.pinned.checked.prog.looks [] ∧ ∀ (j : Nat) t, fn.params[j]? = some t → Tryz.pinned.checked.prog.wantsStandIn t = false := by
  obtain rfl : f = 3 := Option.some.inj ((show Tryz.prog.funcNamed "reunion/reunionlaw.Writes" = some 3 by kernel_rfl).symm.trans hf) |>.symm
  obtain rfl : fn = Tryz.f3 := (Option.some.inj (Tryz.func3.symm.trans hfn)).symm
  refine ⟨by kernel_rfl, fun j t ht => ?_⟩
  rw [Tryz.params3] at ht
  have hm := Array.mem_of_getElem? ht
  simp only [List.mem_toArray, List.mem_cons, List.not_mem_nil, or_false] at hm
  rcases hm with rfl | rfl
  · exact (show Tryz.prog.wantsStandIn 3 = false by kernel_rfl)
  · exact (show Tryz.prog.wantsStandIn 22 = false by kernel_rfl)

theorem writes_card : Rows.WritesUptoCardSaid :=
  tied_card .later _ _ _ _ _ writes_upto (by kernel_rfl) writesUpto_row_tie rfl ⟨rfl, rfl⟩ (by kernel_rfl) rfl writes_plain (by kernel_rfl)

#print axioms writes_card

end Go.Proofs.YtaelaldmibgibaaGreatDoor
