/- Proved: UnpacksUptoCardSaid: for every list of texts that together hold at most 1048576 values and letters, reunionlaw.Unpacks returns true, whatever the memory and the schedule, and leaves what came in as it was. Conditions: the seven listed variables of Go's library hold what their texts lay (the card's tie); no other. -/
import Derived.Test.YtaelaldmibgibaaGreatDoorU49
import Derived.Test.YtaelaldmibgibaaGreatDoorU31
import Derived.Test.YtaelaldmibgibaaGreatDoorU03
import Derived.Test.YtaelaldmibgibaaGreatDoorU04
import Derived.Test.YtaelaldmibgibaaGreatDoorU05
import Derived.ProofKit
import Derived.OpenShut
import Derived.JoinedCond
import Derived.WideKeyArgs
import Derived.Deep.Slices

set_option linter.unusedVariables false
set_option linter.unusedSimpArgs false

namespace Go.Proofs.YtaelaldmibgibaaGreatDoor
open Go.ChangeShapes Go.WideShapes Go.ChangeAt Go.RowKit
open Go.ChangeMaps (open_string shut_string)

theorem own : ownKnob Tryz.prog.godebug = none := by kernel_rfl
theorem laid : laidOutB Tryz.prog = true := by kernel_rfl
theorem readTexts : Tryz.prog.readableRec 25 = true := by kernel_rfl
theorem sizeTexts : 25 < Tryz.prog.types.size := of_decide_eq_true (by kernel_rfl)
theorem cells_str : Tryz.prog.cellsOf 9 = 1 := by kernel_rfl

theorem bulk_part {H : Type} {d : DataW H} {l : List (DataW H)} (h : d ∈ l) : Rows.uptoBulk d ≤ Rows.uptoBulkAll l := by
  induction l with
  | nil => cases h
  | cons x r ih =>
    simp only [Rows.uptoBulkAll]
    rcases List.mem_cons.1 h with rfl | h
    · omega
    · have := ih h
      omega
theorem bulk_pos {H : Type} (d : DataW H) : 1 ≤ Rows.uptoBulk d := by
  cases d with
  | lit l => cases l <;> simp [Rows.uptoBulk]
  | nil => simp [Rows.uptoBulk]
  | ptr d => simp [Rows.uptoBulk]
  | slice elems spare => simp [Rows.uptoBulk]
  | agg parts => simp [Rows.uptoBulk]
  | iface t d => simp [Rows.uptoBulk]
  | map entries => simp [Rows.uptoBulk]
  | held h => simp [Rows.uptoBulk]
theorem bulk_len {H : Type} (l : List (DataW H)) : l.length ≤ Rows.uptoBulkAll l := by
  induction l with
  | nil => simp [Rows.uptoBulkAll]
  | cons x r ih =>
    have := bulk_pos x
    simp only [Rows.uptoBulkAll, List.length_cons]
    omega

theorem cell_lt {w : World} {a : Addr} {v : Value} (h : w.cell? a = some v) : a.block < w.heap.size := by
  rcases Nat.lt_or_ge a.block w.heap.size with q | q
  · exact q
  · simp [World.cell?, Array.getElem?_eq_none q] at h

/-- one text of the list -/
theorem open_text {H : Type} {enc : TypeId × Value → H} {W : World} {n : Nat} {a : Addr} {i : Nat} {D : DataW H} {Pl : List MemPlace} {cs' : List Value} (h1 : W.cells? 0 (a.add (i * 1)) 1 = some cs')
    (h2 : DataW.trod enc Tryz.prog W 0 (fun _ => true) true n 9 cs' = some (D, Pl)) (hbulk : Rows.uptoBulk D ≤ 1048576) : ∃ s, TextAt W a i s := by
  obtain ⟨_, hlen, hcell⟩ := World.cells?_some h1
  obtain ⟨x, r, z, _⟩ := DataW.trod_string Tryz.underlying9 h2
  subst r
  have len : x.data.toList.length = x.size := by rw [Array.length_toList]; rfl
  have b : x.size ≤ 1048576 := by
    have zD : D = .lit (.string x.data.toList) := congrArg Prod.fst z
    have hz : Rows.uptoBulk D = x.size + 1 := by rw [zD]; simp only [Rows.uptoBulk, len]
    omega
  have e0 := hcell 0 (by omega)
  rw [Deep.add_add] at e0
  have e1 : W.cell? (a.add i) = some (.string x) := by simpa using e0
  refine ⟨x, ?_, e1, by omega⟩
  have := cell_lt e1
  rw [addU_block] at this
  exact this

set_option maxRecDepth 100000 in
/-- what the walk gives, for every argument that is small enough -/
theorem contract (H : Type) (enc : TypeId × Value → H) (W : World) (base : Nat) (args : Array Value) (ds gs : List (DataW H)) (before : List MemPlace)
    (hval : ∀ (j : Nat) t v, Tryz.f5.params[j]? = some t → args[j]? = some v → Value.okWide Tryz.prog W .any base t v)
    (hW : DataW.Whole enc Tryz.prog Tryz.f5.params.toList Rows.unpacksSpec.vars false W args.toList ds gs before) (hk : Rows.uptoSmall H (ds ++ gs) = true) (hG : Glob W) :
    Calls Tryz.prog 5 args W fun e W' => ∃ v, e = .returned v ∧ Rows.unpacksSpec.post enc Tryz.prog Tryz.f5 false true false false W args v W' := by
  have hW' := hW
  have hlt := hW.lt
  obtain ⟨p, q, hA0, hV, rfl, hfz, hnd⟩ := hW
  have hA : DataW.TrodAll enc Tryz.prog W 0 (fun _ => true) true Tryz.f5.params.toList args.toList ds p := hA0
  rw [Tryz.params5] at hA hval
  obtain ⟨v1, vs1, d1, ds1, p1, q1, hargs, rfl, rfl, h1, r1⟩ := trodAll_cons hA
  obtain ⟨rfl, rfl, rfl⟩ := trodAll_nil r1
  obtain rfl : args = #[v1] := by cases args; simp_all
  obtain ⟨rfl, rfl⟩ := trodVars_none hV
  have hb : Rows.uptoBulkAll [d1] ≤ 1048576 := of_decide_eq_true hk
  simp only [Rows.uptoBulkAll] at hb
  obtain ⟨a, len, cap, rfl⟩ := okWide_slice Tryz.underlying25 (hval 0 25 v1 rfl rfl)
  have H1 := h1
  obtain ⟨fuel, hf⟩ := h1
  have hops : len ≤ 1048576 ∧ ∀ i, i < len → ∃ ad s, a = some ad ∧ TextAt W ad i s := by
    rcases Deep.open_slice Tryz.underlying25 hf with ⟨e, _⟩ | ⟨ad, len', cap', m, k, D, Pl, e, _, _, _, hm, hx, hel⟩
    · simp [Value.cells] at e
      obtain ⟨rfl, rfl, rfl⟩ := e
      exact ⟨by omega, fun i hi => by omega⟩
    · simp [Value.cells] at e
      obtain ⟨rfl, rfl, rfl⟩ := e
      have hd1 : d1 = .slice ((List.range len).map D) ((List.range (m - len)).map fun j => D (len + j)) := congrArg Prod.fst hx
      rw [hd1] at hb
      simp only [Rows.uptoBulk] at hb
      have hl := bulk_len ((List.range len).map D)
      simp only [List.length_map, List.length_range] at hl
      refine ⟨by omega, fun i hi => ?_⟩
      have hlm : len ≤ m := by rw [hm]; simp only [if_true]; omega
      obtain ⟨cs', g1, g2⟩ := hel i (by omega)
      rw [cells_str] at g1
      have hD := bulk_part (H := H) (d := D i) (l := (List.range len).map D) (List.mem_map.2 ⟨i, List.mem_range.2 hi, rfl⟩)
      obtain ⟨s, hs⟩ := open_text g1 g2 (by omega)
      exact ⟨ad, s, rfl, hs⟩
  clear hA0
  simp only [List.append_nil] at hW' hlt
  refine (unpacks_walk a len cap W hG hops.1 hops.2).mono ?_
  rintro e W' ⟨rfl, hB⟩
  refine ⟨_, rfl, _, _, _, [], p1 ++ [], [], hW', ?_, ?_, rfl, hB.frame _, fun h => by cases h⟩
  · exact trodAll_cons_mk (shut_bool Tryz.underlying4 _) trodAll_mk0
  · refine trodAll_cons_mk (Go.WideElems.Trod_stays laid readTexts sizeTexts H1 (fun p hp => hB.same (hlt p ?_)) (fun p hp => ?_)) trodAll_mk0
    · simpa using hp
    · simpa using hlt p (by simpa using hp)

theorem reads (os : Os) {H : Type} (enc : TypeId × Value → H) : ∃ places, DataW.whole enc Tryz.prog ((laidOf (World.holding Tryz.prog os heldIn) (World.settled Tryz.prog os).heap.size).forCall (fun _ _ => 0) ⟨#[], #[.slice none 0 0], []⟩).memory Tryz.f5.params.toList Rows.unpacksSpec.vars false #[Value.slice none 0 0].toList 8 = some ([.nil], [], places) :=
  ⟨[], by kernel_rfl⟩

set_option maxRecDepth 1000000 in
theorem laid_metU (os : Os) (args : Array Value) : laidMet Tryz.prog Rows.unpacksUptoRow.laid ((laidOf (World.holding Tryz.prog os heldIn) (World.settled Tryz.prog os).heap.size).forCall (fun _ _ => 0) ⟨#[], args, []⟩).memory :=
  laidMet_of_run' 8 (by kernel_rfl) (by kernel_rfl)

set_option maxRecDepth 100000 in
theorem lifted (os : Os) (started : os.Started) (H : Type) (enc : TypeId × Value → H) (F : Stop.Interp) :
    ReturnsInHanded {} Tryz.checked os 5 .any ((Rows.OpenSpec.upto Rows.unpacksSpec).preRow enc Tryz.prog Tryz.f5 Rows.unpacksUptoRow.domain false Rows.unpacksUptoRow.laid) (((Rows.OpenSpec.upto Rows.unpacksSpec).at F).post enc Tryz.prog Tryz.f5 false true false false) := by
  obtain ⟨places, hx⟩ := reads os enc
  refine returnsInHanded_of_row (C := Tryz.checked) (s := Rows.OpenSpec.upto Rows.unpacksSpec) own started (by kernel_rfl) Tryz.func5
    (witness_row_atRef (enc := enc) (C := Tryz.checked) false (laidOf (World.holding Tryz.prog os heldIn) (World.settled Tryz.prog os).heap.size) #[.slice none 0 0] rfl (by kernel_rfl) (by kernel_rfl) (by kernel_rfl)
      (OpenSpec.preRow_of_cond 8 hx (by kernel_rfl) (fun k hk => by cases hk; kernel_rfl) (by kernel_rfl) (laid_metU os _))) ?_
  intro W base args ds gs before hval hW _ hk _ hL hS _
  exact contract H enc W base args ds gs before hval hW (hk _ rfl) (glob_of W hL hS)

theorem unpacks_alone : ({ Rows.unpacksUptoRow with leaving := false } : OpenClaim).holds Tryz.pinned (Rows.OpenSpec.upto Rows.unpacksSpec) :=
  OpenClaim.holds_of_cond 5 Tryz.f5 rfl rfl rfl rfl rfl rfl rfl ⟨rfl, rfl, rfl, rfl, rfl⟩ rfl rfl rfl rfl rfl (by kernel_rfl) Tryz.func5 unpacks_closed
    (of_decide_eq_true (by kernel_rfl)) (by unfold Func.isWrapper; first | (rw [if_pos (by decide +kernel)]; kernel_rfl) | (rw [if_neg (by decide +kernel)]; exact ⟨rfl, rfl⟩))
    (fun os started H enc _ F => by rw [OpenClaim.pre_eq_preRow]; exact lifted os started H enc F)

theorem unpacks_upto : Rows.UnpacksUptoSaid := unpacks_alone

/-- no parameter wants a stand-in -/
theorem unpacks_plain (f : FuncId) (fn : Func) (hf : Tryz.pinned.checked.prog.funcNamed "reunion/reunionlaw.Unpacks" = some f) (hfn : Tryz.pinned.checked.prog.funcs[f]? = some fn) :
    true = Tryz.pinned.checked.prog.looks [] ∧ ∀ (j : Nat) t, fn.params[j]? = some t → Tryz.pinned.checked.prog.wantsStandIn t = false := by
  obtain rfl : f = 5 := Option.some.inj ((show Tryz.prog.funcNamed "reunion/reunionlaw.Unpacks" = some 5 by kernel_rfl).symm.trans hf) |>.symm
  obtain rfl : fn = Tryz.f5 := (Option.some.inj (Tryz.func5.symm.trans hfn)).symm
  refine ⟨by kernel_rfl, fun j t ht => ?_⟩
  rw [Tryz.params5] at ht
  have hm := Array.mem_of_getElem? ht
  simp only [List.mem_toArray, List.mem_cons, List.not_mem_nil, or_false] at hm
  subst hm
  exact (show Tryz.prog.wantsStandIn 25 = false by kernel_rfl)

theorem unpacks_card : Rows.UnpacksUptoCardSaid :=
  tied_card .later _ _ _ _ _ unpacks_upto (by kernel_rfl) unpacksUpto_row_tie rfl ⟨rfl, rfl⟩ (by kernel_rfl) rfl unpacks_plain (by kernel_rfl)

#print axioms unpacks_card

end Go.Proofs.YtaelaldmibgibaaGreatDoor
