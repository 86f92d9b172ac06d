/- Proved: HistoriesUptoSaid: for every size and every script, reunionlaw.Histories returns true, whatever the memory and the schedule, and leaves what came in as it was. Condition: what it reads is of bulk at most 1048576. -/
import Derived.Test.YtaelaldmibgibaaGreatH48
import Derived.Test.YtaelaldmibgibaaGreatRows
import Derived.Conc.LeavingOf
import Derived.Conc.Holds
import Derived.ProofKit
import Derived.OpenShut
import Derived.WideKeyArgs
import Derived.SizedLaws
import Derived.Deep.Slices
import Derived.Test.YtaelaldmibgibaaGreatH52
import Derived.JoinedCond

set_option linter.unusedVariables false
set_option linter.unusedSimpArgs false
set_option linter.unusedSectionVars false
set_option maxRecDepth 100000

namespace Go.Proofs.YtaelaldmibgibaaGreat
open Go.ChangeShapes Go.WideShapes Go.ChangeAt Go.RowKit Go.Conc Go.Sim
open Go.ChangeMaps (open_string shut_string)
theorem own : ownKnob Tryz.prog.godebug = none := by kernel_rfl
theorem laid : laidOutB Tryz.prog = true := by kernel_rfl
theorem ygf.below {W W' : World} (h : ygf W W') : Below W.heap.size W { W' with tape := W.tape } := ⟨h.os, rfl, h.output, h.size, h.old⟩
theorem ygf.same {W W' : World} (h : ygf W W') {p : MemPlace} (hp : p.block < W.heap.size) : W.sameAt W' p := (ygf.below h).same hp
theorem ygf.frame {W W' : World} (h : ygf W W') (may : MemPlace → Prop) : W.keptBut W' may := (ygf.below h).frame may
theorem in_company {f : Nat} {fn : Func} {args : Array Value} {W : World} (hfn : (twin Tryz.prog pl).funcs[f]? = some fn) (hsame : Tryz.prog.funcs[f]? = some fn) (hi : Tryz.prog.inits.idxOf? f = none)
  (h : ∀ w : World, ybf w → w.heap = (calm W).heap → Calls (twin Tryz.prog pl) f args w (fun e w' => e = .returned (.bool true) ∧ Below w.heap.size w w')) :
  ∃ M last o w' t', runNT Tryz.prog (M + 1) (solo (G (Frame.enter Tryz.prog f args .normal) []) W) #[] = (.ended o w', t') ∧ runN Tryz.prog M (solo (G (Frame.enter Tryz.prog f args .normal) []) W) = .next last ∧
    step Tryz.prog last = .ended o w' ∧ Conc.Good Tryz.prog (fun v W' => v = .bool true ∧ ygf W W') last o w' t' := by
 refine leaving_of_calls (Seat.of plib seat_ok) hfn (hsame.trans hfn.symm) hi (fun τ => ?_)
 refine (h ((calm W).tp τ) (ymr W) rfl).mono ?_
 rintro e w' ⟨rfl, hb⟩
 exact ⟨rfl, hb.size, hb.block, hb.os, hb.output⟩
theorem cells_int1 : Tryz.prog.cellsOf 3 = 1 := by kernel_rfl
theorem cells_str1 : Tryz.prog.cellsOf 9 = 1 := by kernel_rfl
theorem inI_of {n : Int} (h : (Lit.int .i64 n).wf = true) : inI n := by
 unfold inI
 simp [Lit.wf, IntKind.min, IntKind.max, IntKind.signed, IntKind.bits] at h
 omega
theorem cell_lt {w : World} {a : Addr} {v : Value} (h : w.cell? a = some v) : a.block < w.heap.size := by
 rcases Nat.lt_or_ge a.block w.heap.size with q | q
 ·exact q
 ·simp [World.cell?, Array.getElem?_eq_none q] at h
theorem yej {W w : World} (hw : w.heap = (calm W).heap) {a : Addr} {v : Value} (h : W.cell? a = some v) : w.cell? a = some v := by
 unfold World.cell? at h ⊢
 rw [hw]
 simp only [calm, Array.getElem?_map]
 cases ho : W.heap[a.block]? with
 |none => rw [ho] at h; simp at h
 |some o =>
  rw [ho] at h
  cases o <;> first | (simp at h; done) | skip
  simp only [Option.map_some]
  rw [yhb rfl]
  exact h
theorem readOps : Tryz.prog.readableRec 22 = true := by kernel_rfl
theorem sizeOps : 22 < Tryz.prog.types.size := of_decide_eq_true (by kernel_rfl)
theorem cells_op : Tryz.prog.cellsOf 34 = 7 := by kernel_rfl
theorem yrq : Tryz.prog.cellsOf 4 = 1 := by kernel_rfl
theorem ypj : Tryz.prog.cellsOf 32 = 1 := by kernel_rfl
theorem list7 {α : Type} {l : List α} (h : l.length = 7) : ∃ a b c d e f g, l = [a, b, c, d, e, f, g] := by
 rcases l with _ | ⟨a, _ | ⟨b, _ | ⟨c, _ | ⟨d, _ | ⟨e, _ | ⟨f, _ | ⟨g, _ | ⟨z, l⟩⟩⟩⟩⟩⟩⟩⟩ <;> simp at h
 exact ⟨a, b, c, d, e, f, g, rfl⟩
theorem bulk_in {H : Type} {d : DataW H} {l : List (DataW H)} (h : d ∈ l) : Rows.uptoBulk d ≤ Rows.uptoBulkAll l := by
 induction l with
 |nil => cases h
 |cons x l ih =>
  simp only [Rows.uptoBulkAll]
  rcases List.mem_cons.1 h with rfl | h
  ·omega
  ·have := ih h; omega
theorem yfq {H : Type} (d : DataW H) : 1 ≤ Rows.uptoBulk d := by
 cases d with
 |lit l => cases l <;> simp [Rows.uptoBulk]
 |_ => simp [Rows.uptoBulk]
theorem bulk_many {H : Type} {l : List (DataW H)} {c : Nat} (h : ∀ d ∈ l, c ≤ Rows.uptoBulk d) : l.length * c ≤ Rows.uptoBulkAll l := by
 induction l with
 |nil => simp [Rows.uptoBulkAll]
 |cons x l ih =>
  have h1 := h x (List.mem_cons_self ..)
  have h2 := ih (fun d hd => h d (List.mem_cons_of_mem _ hd))
  simp only [Rows.uptoBulkAll, List.length_cons, Nat.add_mul]
  omega
theorem open_op {H : Type} {enc : TypeId × Value → H} {W : World} {n : Nat} {a : Addr} {i : Nat} {D : DataW H} {Pl : List MemPlace} {cs' : List Value} (h1 : W.cells? 0 (a.add (i * 7)) 7 = some cs')
  (h2 : DataW.trod enc Tryz.prog W 0 (fun _ => true) true n 34 cs' = some (D, Pl)) : 8 ≤ Rows.uptoBulk D ∧ ∃ o, OpIn W a i o ∧ o.p.size ≤ Rows.uptoBulk D ∧ o.t.size ≤ Rows.uptoBulk D := by
 obtain ⟨_, hlen, hcell⟩ := World.cells?_some h1
 obtain ⟨xs, k, hk, hxy, _, hxl, hf⟩ := DataW.trod_struct Tryz.underlying34 h2
 obtain ⟨v0, v1, v2, v3, v4, v5, v6, rfl⟩ := list7 hlen
 obtain ⟨y0, y1, y2, y3, y4, y5, y6, rfl⟩ := list7 (l := xs) (by simpa using hxl)
 have g0 := hf 0 _ rfl
 have g1 := hf 1 _ rfl
 have g2 := hf 2 _ rfl
 have g3 := hf 3 _ rfl
 have g4 := hf 4 _ rfl
 have g5 := hf 5 _ rfl
 have g6 := hf 6 _ rfl
 simp [cells_int1, cells_str1, yrq, ypj] at g0 g1 g2 g3 g4 g5 g6
 obtain ⟨x0, r0, _, _⟩ := DataW.trod_int Tryz.underlying3 g0
 obtain ⟨x1, r1, _, _⟩ := DataW.trod_int Tryz.underlying3 g1
 obtain ⟨x2, r2, _, _⟩ := DataW.trod_int Tryz.underlying3 g2
 obtain ⟨x3, r3, e3, _⟩ := DataW.trod_string Tryz.underlying9 g3
 obtain ⟨x4, r4, e4, _⟩ := DataW.trod_string Tryz.underlying9 g4
 obtain ⟨x5, r5, _⟩ := DataW.trod_bool Tryz.underlying4 g5
 obtain ⟨pa, pn, pc, r6⟩ : ∃ pa pn pc, v6 = .slice pa pn pc := by
  rcases Deep.open_slice Tryz.underlying32 g6 with ⟨e, _⟩ | ⟨ad, len', cap', _, _, _, _, e, _⟩
  ·exact ⟨none, 0, 0, by simpa using e⟩
  ·exact ⟨_, _, _, by simpa using e⟩
 simp at r0 r1 r2 r3 r4 r5
 subst r0 r1 r2 r3 r4 r5 r6
 have hD : D = .agg [y0.1, y1.1, y2.1, y3.1, y4.1, y5.1, y6.1] := congrArg Prod.fst hxy
 have b0 := yfq y0.1
 have b1 := yfq y1.1
 have b2 := yfq y2.1
 have b3 := yfq y3.1
 have b4 := yfq y4.1
 have b5 := yfq y5.1
 have b6 := yfq y6.1
 have z3 : Rows.uptoBulk y3.1 = x3.size + 1 := by rw [e3]; simp [Rows.uptoBulk]
 have z4 : Rows.uptoBulk y4.1 = x4.size + 1 := by rw [e4]; simp [Rows.uptoBulk]
 have hB : Rows.uptoBulk D = Rows.uptoBulk y0.1 + (Rows.uptoBulk y1.1 + (Rows.uptoBulk y2.1 + (Rows.uptoBulk y3.1 + (Rows.uptoBulk y4.1 + (Rows.uptoBulk y5.1 + (Rows.uptoBulk y6.1 + 0)))))) + 1 := by
  rw [hD]; simp only [Rows.uptoBulk, Rows.uptoBulkAll]
 have q0 := hcell 0 (by omega)
 have q1 := hcell 1 (by omega)
 have q2 := hcell 2 (by omega)
 have q3 := hcell 3 (by omega)
 have q4 := hcell 4 (by omega)
 have q5 := hcell 5 (by omega)
 have q6 := hcell 6 (by omega)
 rw [Deep.add_add] at q0 q1 q2 q3 q4 q5 q6
 refine ⟨by omega, ⟨x0, x1, x2, x3, x4, x5, pa, pn, pc⟩, ⟨?_, by simpa using q0, by simpa using q1, by simpa using q2, by simpa using q3, by simpa using q4, by simpa using q5, by simpa using q6⟩, by show x3.size ≤ _; omega, by show x4.size ≤ _; omega⟩
 have := cell_lt (q0.trans rfl)
 rw [ymn] at this
 exact this
theorem OpIn.calm {W w : World} (hw : w.heap = (calm W).heap) {ad : Addr} {i : Nat} {o : OpO} (h : OpIn W ad i o) : OpIn w ad i o :=
 ⟨by rw [hw]; simpa [Go.Sim.calm] using h.lt, yej hw h.c0, yej hw h.c1, yej hw h.c2, yej hw h.c3, yej hw h.c4, yej hw h.c5, yej hw h.c6⟩
theorem open_ops {H : Type} {enc : TypeId × Value → H} {W : World} {a : Option Addr} {len cap : Nat} {d : DataW H} {p : List MemPlace} (h : DataW.Trod enc Tryz.prog W 0 (fun _ => true) true 22 (.slice a len cap) d p) (hb : Rows.uptoBulk d ≤ 1048576) :
  len ≤ 200000 ∧ ∃ os : Nat → OpO, ∀ i, i < len → (∃ ad, a = some ad ∧ OpIn W ad i (os i)) ∧ (os i).p.size ≤ 1000000000000 ∧ (os i).t.size ≤ 1000000000000 := by
 obtain ⟨fuel, hf⟩ := h
 rcases Deep.open_slice Tryz.underlying22 hf with ⟨e, _⟩ | ⟨ad, len', cap', m, k, D, Pl, e, _, _, _, hm, hx, hel⟩
 ·simp [Value.cells] at e
  obtain ⟨rfl, rfl, rfl⟩ := e
  exact ⟨by omega, fun _ => ⟨0, 0, 0, ⟨#[]⟩, ⟨#[]⟩, false, none, 0, 0⟩, fun i hi => by omega⟩
 ·simp [Value.cells] at e
  obtain ⟨rfl, rfl, rfl⟩ := e
  have hlm : len ≤ m := by rw [hm]; simp only [if_true]; omega
  have hd1 : d = .slice ((List.range len).map D) ((List.range (m - len)).map fun j => D (len + j)) := congrArg Prod.fst hx
  have key : ∀ i, i < len → 8 ≤ Rows.uptoBulk (D i) ∧ ∃ o, OpIn W ad i o ∧ o.p.size ≤ Rows.uptoBulk (D i) ∧ o.t.size ≤ Rows.uptoBulk (D i) := fun i hi => by
   obtain ⟨cs', g1, g2⟩ := hel i (by omega)
   rw [cells_op] at g1
   exact open_op g1 g2
  have hball : Rows.uptoBulkAll ((List.range len).map D) ≤ 1048576 := by
   rw [hd1] at hb
   simp only [Rows.uptoBulk] at hb
   omega
  have hmany := bulk_many (l := (List.range len).map D) (c := 8) (fun x hx => by
   obtain ⟨i, hi, rfl⟩ := List.mem_map.1 hx
   exact (key i (List.mem_range.1 hi)).1)
  rw [List.length_map, List.length_range] at hmany
  refine ⟨by omega, ?_⟩
  have key2 : ∀ i, ∃ o : OpO, i < len → (∃ ad', some ad = some ad' ∧ OpIn W ad' i o) ∧ o.p.size ≤ 1000000000000 ∧ o.t.size ≤ 1000000000000 := by
   intro i
   by_cases hi : i < len
   ·obtain ⟨_, o, h1, h2, h3⟩ := key i hi
    have hin := bulk_in (List.mem_map.2 ⟨i, List.mem_range.2 hi, rfl⟩ : D i ∈ (List.range len).map D)
    exact ⟨o, fun _ => ⟨⟨ad, rfl, h1⟩, by omega, by omega⟩⟩
   ·exact ⟨⟨0, 0, 0, ⟨#[]⟩, ⟨#[]⟩, false, none, 0, 0⟩, fun q => absurd q hi⟩
  exact ⟨fun i => (key2 i).choose, fun i => (key2 i).choose_spec⟩
theorem yoc (n0 : Int) (hz : inI n0) (a : Option Addr) (len cap : Nat) (hlen : len ≤ 200000) (os : Nat → OpO) (w : World) (hx : ybf w) (hs : ∀ i, i < len → (∃ ad, a = some ad ∧ OpIn w ad i (os i)) ∧ (os i).p.size ≤ 1000000000000 ∧ (os i).t.size ≤ 1000000000000) :
  Calls (twin Tryz.prog pl) 3 #[.int .i64 n0, .slice a len cap] w fun e w' => e = .returned (.bool true) ∧ Below w.heap.size w w' := by
 unfold inI at hz
 obtain ⟨c, hc0, hcs⟩ : ∃ c : Int, 0 ≤ c ∧ ((n0 < 0 ∧ c = -(n0 + 1)) ∨ (¬ n0 < 0 ∧ c = n0)) := by
  by_cases h : n0 < 0
  ·exact ⟨-(n0 + 1), by omega, .inl ⟨h, rfl⟩⟩
  ·exact ⟨n0, by omega, .inr ⟨h, rfl⟩⟩
 have hm : c.tmod 6 = c % 6 := Int.tmod_eq_emod_of_nonneg hc0
 obtain ⟨n, hn⟩ : ∃ n : Nat, (1 : Int) + c % 6 = n := ⟨(1 + c % 6).toNat, by omega⟩
 refine ysa n0 (n0 + 1) c n (by omega) (by omega) a len cap hlen os w hx (fun i hi => (hs i hi).1) (fun i hi => (hs i hi).2) ?_ ?_ hn
 ·rcases hcs with ⟨h, e⟩ | ⟨h, e⟩
  ·refine .inl ⟨h, ?_, ?_⟩
   ·rw [IntKind.wrap_i64]; omega
   ·rw [IntKind.wrap_i64, e]; omega
  ·exact .inr ⟨h, e⟩
 ·rw [hm]
  unfold wrap64
  omega
theorem yjt (os : Os) (started : os.Started) (H : Type) (enc : TypeId × Value → H) :
  ReturnsInLeavingWide {} Tryz.checked os 3 .any ((Rows.OpenSpec.upto Rows.historiesSpec).pre6 enc Tryz.prog Tryz.f3 Rows.historiesUptoRow.domain false) (Rows.historiesSpec.post enc Tryz.prog Tryz.f3 false true false false) := by
 refine returnsInLeavingWide_of_good own started (OpenSpec.witness (enc := enc) (C := Tryz.checked) (k := Rows.uptoSmall) rfl false ⟨#[], #[.int .i64 0, .slice none 0 0], []⟩ 8 (by kernel_rfl) (by kernel_rfl) (by kernel_rfl) (x := ([.lit (.int .i64 0), .nil], [], [])) (by kernel_rfl) (by kernel_rfl) (by kernel_rfl)) ?_
 intro w tape inp _ _ _ hok hpre _
 obtain ⟨_, _, _, fn, hfn, _, _, _, _, hval0⟩ := hok
 obtain rfl : fn = Tryz.f3 := Option.some.inj (hfn.symm.trans Tryz.func3)
 obtain ⟨ds, gs, before, hw, _, hkk⟩ := (OpenSpec.pre_some rfl _ _ _ _).1 hpre.1
 have hW : DataW.Whole enc Tryz.prog Tryz.f3.params.toList _ _ (w.forCall tape inp) inp.args.toList ds gs before := DataW.Whole.of_heap (w' := w.forCall tape inp) (by rfl) hw
 have hval : ∀ (j : Nat) t v, Tryz.f3.params[j]? = some t → inp.args[j]? = some v → Value.okWide Tryz.prog (w.forCall tape inp) .any w.heap.size t v := hval0
 clear hval0 hpre hw hfn
 suffices q : ∃ N last o w' t', runNT Tryz.prog (N + 1) (solo (G (Frame.enter Tryz.prog 3 inp.args CallKind.normal) []) (w.forCall tape inp)) #[] = (Stepped.ended o w', t') ∧ runN Tryz.prog N (solo (G (Frame.enter Tryz.prog 3 inp.args CallKind.normal) []) (w.forCall tape inp)) = Stepped.next last ∧ step Tryz.prog last = Stepped.ended o w' ∧ Conc.Good Tryz.prog (fun v w' => Rows.historiesSpec.post enc Tryz.prog Tryz.f3 false true false false (w.forCall tape inp) inp.args v w') last o w' t' by
  obtain ⟨N, last, o, w', t', q1, q2, q3, q4⟩ := q
  exact ⟨N, last, o, w', t', q1, q2, q3, q4.mono fun v hp => ChangeSpec.post_blind hp⟩
 generalize w.forCall tape inp = W at *
 generalize inp.args = args at *
 have hW' := hW
 have hlt := hW.lt
 obtain ⟨p, q, hA0, hV, rfl, hfz, hnd⟩ := hW
 have hA : DataW.TrodAll enc Tryz.prog W 0 (fun _ => true) true Tryz.f3.params.toList args.toList ds p := hA0
 rw [Tryz.params3] at hA hval
 obtain ⟨v0, vs0, d0, ds0, p0, q0, hargs, rfl, rfl, h0, r0⟩ := trodAll_cons hA
 obtain ⟨v1, vs1, d1, ds1, p1, q1, rfl, rfl, rfl, h1, r1⟩ := trodAll_cons r0
 obtain ⟨rfl, rfl, rfl⟩ := trodAll_nil r1
 obtain rfl : args = #[v0, v1] := by cases args; simp_all
 obtain ⟨rfl, rfl⟩ := trodVars_none hV
 obtain ⟨n0, rfl, rfl, rfl, z0⟩ := open_int Tryz.underlying3 (hval 0 3 v0 rfl rfl) h0
 obtain ⟨a, len, cap, rfl⟩ := okWide_slice Tryz.underlying22 (hval 1 22 v1 rfl rfl)
 have hbulk : Rows.uptoBulk d1 ≤ 1048576 := by
  have := of_decide_eq_true hkk
  simp only [List.append_nil, Rows.uptoBulkAll] at this
  omega
 obtain ⟨hlen, ops, hops⟩ := open_ops h1 hbulk
 clear hA0 hA r0 r1 hkk
 simp only [List.append_nil] at hW' hlt
 obtain ⟨M, last, o, w', t', g1, g2, g3, g4⟩ := in_company (W := W) (args := #[.int .i64 n0, .slice a len cap]) ysu Tryz.func3 (by kernel_rfl) (fun w hw hh => yoc n0 (inI_of z0) a len cap hlen ops w hw (fun i hi => by
  obtain ⟨⟨ad, e, hs⟩, hz⟩ := hops i hi
  exact ⟨⟨ad, e, OpIn.calm hh hs⟩, hz⟩))
 refine ⟨M, last, o, w', t', g1, g2, g3, g4.mono fun v hF => ?_⟩
 obtain ⟨rfl, hst⟩ := hF
 refine ⟨_, _, _, [], [] ++ (p1 ++ []), [], hW', ?_, ?_, rfl, ygf.frame hst _, fun h => by cases h⟩
 ·exact trodAll_cons_mk (shut_bool Tryz.underlying4 _) trodAll_mk0
 ·refine trodAll_cons_mk (shut_int Tryz.underlying3 z0) (trodAll_cons_mk (Go.WideElems.Trod_stays laid readOps sizeOps h1 (fun p hp => ygf.same hst (hlt p ?_)) (fun p hp => ?_)) trodAll_mk0)
  ·simpa using hp
  ·simpa using hlt p (by simpa using hp)
theorem histories_holds : Rows.HistoriesUptoSaid := by
 unfold Rows.HistoriesUptoSaid OpenClaim.holds
 refine ⟨by kernel_rfl, rfl, rfl, rfl, by kernel_rfl, by kernel_rfl, ?_, ?_, 3, Tryz.f3, by kernel_rfl, Tryz.func3, ⟨?_, ?_⟩, fun q => ?_, by kernel_rfl, ?_, ?_, by kernel_rfl, ⟨by kernel_rfl, by kernel_rfl, by kernel_rfl⟩, by kernel_rfl, by kernel_rfl, by kernel_rfl, by kernel_rfl, by kernel_rfl, ⟨by kernel_rfl, by kernel_rfl, by kernel_rfl⟩, ⟨by kernel_rfl, by kernel_rfl⟩, ⟨by kernel_rfl, by kernel_rfl, by kernel_rfl, by kernel_rfl⟩, ⟨by kernel_rfl, by kernel_rfl, by kernel_rfl, by kernel_rfl⟩, by kernel_rfl, fun n hn => ?_, ?_, [], ?_, fun os st _ H enc _ => ?_⟩
 ·have e : Tryz.prog.mayEnter = true := by kernel_rfl
  exact e
 ·exact ⟨rfl, rfl, rfl, rfl, rfl, rfl, rfl⟩
 ·exact Array.all_eq_true_iff_forall_mem.1 (by kernel_rfl)
 ·intro t ht
  have := Array.all_eq_true_iff_forall_mem.1 (show Tryz.f3.resultTypes.all (fun t => Tryz.prog.readableRec t && decide (t < Tryz.prog.types.size)) = true by kernel_rfl) t ht
  rw [Bool.and_eq_true, decide_eq_true_eq] at this
  exact this
 ·exact absurd (show (false : Bool) = true from q) (by decide)
 ·exact of_decide_eq_true (by kernel_rfl)
 ·unfold Func.isWrapper
  first | (rw [if_pos (by decide +kernel)]; kernel_rfl) | (rw [if_neg (by decide +kernel)]; exact ⟨rfl, rfl⟩)
 ·exact absurd (show n ∈ ([] : List String) from hn) (by simp)
 ·refine ⟨_, WideRow.started_initial, fun k hk => ?_⟩
  have e : Tryz.prog.stopKnobs = [] := by kernel_rfl
  change k ∈ Tryz.prog.stopKnobs at hk
  rw [e] at hk
  cases hk
 ·rfl
 ·intro F
  rw [OpenClaim.post_not_still rfl, OpenClaim.pre_of_none' rfl]
  exact yjt os st H enc (by kernel_rfl)
end Go.Proofs.YtaelaldmibgibaaGreat
#print axioms Go.Proofs.YtaelaldmibgibaaGreat.histories_holds
