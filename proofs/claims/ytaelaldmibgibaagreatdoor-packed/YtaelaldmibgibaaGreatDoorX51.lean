/- From a contract of the twin's to a row of this seat: what al. -/
import Derived.OpenShut
import Derived.Test.YtaelaldmibgibaaGreatDoorX49

set_option linter.all false
set_option maxRecDepth 10000

namespace Go.Proofs.K
open Go.ChangeShapes Go.WideShapes Go.ChangeAt Go.RowKit Go.Conc Go.Sim
open Go.ChangeMaps (open_string shut_string)
variable {W W' : World}
theorem own : ownKnob Tryz.prog.godebug = none := by kernel_rfl
theorem laid : laidOutB Tryz.prog = true := by kernel_rfl
theorem yit.below (h : yit W W') : Below W.heap.size W { W' with tape := W.tape } := ⟨h.os, rfl, h.output, h.size, h.old⟩
theorem yit.same (h : yit W W') {p : MemPlace} (hp : p.block < W.heap.size) : W.sameAt W' p := (yit.below h).same hp
theorem yit.frame (h : yit W W') (may : MemPlace → Prop) : W.keptBut W' may := (yit.below h).frame may
theorem in_company {f : Nat} {fn : Func} {args : Array Value} (hfn : (twin Tryz.prog pl).funcs[f]? = some fn) (hsame : Tryz.prog.funcs[f]? = some fn) (hd : (f == pl.fPulls || nm.ms.contains f || pl.gone f || fn.body.isNone) = false) (hi : Tryz.prog.inits.idxOf? f = none)
  (h : ∀ w : World, ybr w → w.heap = (calm W).heap → Calls (twin Tryz.prog pl) f args w (fun e w' => e = .returned (.bool true) ∧ Below w.heap.size w w')) :
  ∃ M last o w' t', runNT Tryz.prog (M + 1) (solo (G (Frame.enter Tryz.prog f args .normal) []) W) #[] = (.ended o w', t') ∧ runN Tryz.prog M (solo (G (Frame.enter Tryz.prog f args .normal) []) W) = .next last ∧
    step Tryz.prog last = .ended o w' ∧ Conc.Good Tryz.prog (fun v W' => v = .bool true ∧ yit W W') last o w' t' := by
 refine leaving_of_calls (Seat.of plib yvq phases) hfn (hsame.trans hfn.symm) (Seat.not_odd hsame hd) hi (fun τ => ?_)
 refine (h ((calm W).tp τ) (yrx W) rfl).mono ?_
 rintro e w' ⟨rfl, hb⟩
 exact ⟨rfl, hb.size, hb.block, hb.os, hb.output⟩
end Go.Proofs.K

namespace Go.Proofs.K
open Go.ChangeShapes Go.WideShapes Go.ChangeAt Go.RowKit Go.Conc Go.Sim
open Go.ChangeMaps (open_string shut_string)
variable {W w : World} {a : Addr} {v : Value} {H : Type} {cap i len : Nat} {p : List MemPlace}
theorem yxr : Tryz.prog.readableRec 31 = true := by kernel_rfl
theorem yyl : 31 < Tryz.prog.types.size := of_decide_eq_true (by kernel_rfl)
theorem cells_step : Tryz.prog.cellsOf 78 = 5 := by kernel_rfl
theorem bytes_step : Tryz.prog.bytesOf 78 = 48 := by kernel_rfl
theorem cells_int1 : Tryz.prog.cellsOf 3 = 1 := by kernel_rfl
theorem cells_str1 : Tryz.prog.cellsOf 9 = 1 := by kernel_rfl
theorem list5 {α : Type} {l : List α} (h : l.length = 5) : ∃ a b c d e, l = [a, b, c, d, e] := by
 rcases l with _ | ⟨a, _ | ⟨b, _ | ⟨c, _ | ⟨d, _ | ⟨e, _ | ⟨z, l⟩⟩⟩⟩⟩⟩ <;> simp at h
 exact ⟨a, b, c, d, e, rfl⟩
theorem ysi {n : Int} (h : (Lit.int .i64 n).wf = true) : inI n := by
 unfold inI
 simp [Lit.wf, IntKind.min, IntKind.max, IntKind.signed, IntKind.bits] at h
 omega
theorem cell_lt (h : w.cell? a = some v) : a.block < w.heap.size := by
 rcases Nat.lt_or_ge a.block w.heap.size with q | q
 ·exact q
 ·simp [World.cell?, Array.getElem?_eq_none q] at h
theorem open_step {enc : TypeId × Value → H} {n : Nat} {D : DataW H} {Pl : List MemPlace} {cs' : List Value} (h1 : W.cells? 0 (a.add (i * 5)) 5 = some cs')
  (h2 : DataW.trod enc Tryz.prog W 0 (fun _ => true) true n 78 cs' = some (D, Pl)) : ∃ o, ygk W a i o := by
 obtain ⟨_, hlen, hcell⟩ := World.cells?_some h1
 obtain ⟨xs, k, hk, hxy, _, hxl, hf⟩ := DataW.trod_struct Tryz.underlying78 h2
 obtain ⟨v0, v1, v2, v3, v4, rfl⟩ := list5 hlen
 obtain ⟨y0, y1, y2, y3, y4, rfl⟩ := list5 (l := xs) (by simpa using hxl)
 have g0 := hf 0 _ rfl
 have g1 := hf 1 _ rfl
 have g2 := hf 2 _ rfl
 have g3 := hf 3 _ rfl
 have g4 := hf 4 _ rfl
 simp [cells_int1, cells_str1] at g0 g1 g2 g3 g4
 obtain ⟨x0, r0, _, z0⟩ := DataW.trod_int Tryz.underlying3 g0
 obtain ⟨x1, r1, _, z1⟩ := DataW.trod_int Tryz.underlying3 g1
 obtain ⟨x2, r2, _, z2⟩ := DataW.trod_int Tryz.underlying3 g2
 obtain ⟨x3, r3, _, z3⟩ := DataW.trod_int Tryz.underlying3 g3
 obtain ⟨x4, r4, _, _⟩ := DataW.trod_string Tryz.underlying9 g4
 simp at r0 r1 r2 r3 r4
 subst r0 r1 r2 r3 r4
 have e0 := hcell 0 (by omega)
 have e1 := hcell 1 (by omega)
 have e2 := hcell 2 (by omega)
 have e3 := hcell 3 (by omega)
 have e4 := hcell 4 (by omega)
 rw [Deep.add_add] at e0 e1 e2 e3 e4
 refine ⟨⟨x0, x1, x2, x3, x4⟩, ?_, by simpa using e0, by simpa using e1, by simpa using e2, by simpa using e3, by simpa using e4, ysi z0, ysi z1, ysi z2, ysi z3⟩
 have := cell_lt (e0.trans rfl)
 rw [yrs] at this
 exact this
theorem yen (hw : w.heap = (calm W).heap) (h : W.cell? a = some v) : w.cell? a = some v := by
 unfold World.cell? at h ⊢
 rw [hw]
 simp only [calm, Array.getElem?_map]
 cases ho : W.heap[a.block]? with
 |none => rw [ho] at h; simp at h
 |some o =>
  rw [ho] at h
  cases o <;> first | (simp at h; done) | skip
  simp only [Option.map_some]
  rw [yil rfl]
  exact h
theorem ygk.calm (hw : w.heap = (calm W).heap) {ad : Addr} {o : ych} (h : ygk W ad i o) : ygk w ad i o :=
 ⟨by rw [hw]; simpa [Go.Sim.calm] using h.lt, yen hw h.c0, yen hw h.c1, yen hw h.c2, yen hw h.c3, yen hw h.c4, h.r0, h.r1, h.r2, h.r3⟩
theorem ysm {enc : TypeId × Value → H} {a : Option Addr} {d : DataW H} (h : DataW.Trod enc Tryz.prog W 0 (fun _ => true) true 31 (.slice a len cap) d p) :
  ∃ os : Nat → ych, ∀ i, i < len → ∃ ad, a = some ad ∧ ygk W ad i (os i) := by
 obtain ⟨fuel, hf⟩ := h
 have key : ∀ i, ∃ o, i < len → ∃ ad, a = some ad ∧ ygk W ad i o := by
  intro i
  by_cases hi : i < len
  ·rcases Deep.open_slice Tryz.underlying31 hf with ⟨e, _⟩ | ⟨ad, len', cap', m, k, D, Pl, e, _, _, _, hm, hx, hel⟩
   ·simp [Value.cells] at e
    obtain ⟨rfl, rfl, rfl⟩ := e
    omega
   ·simp [Value.cells] at e
    obtain ⟨rfl, rfl, rfl⟩ := e
    have hlm : len ≤ m := by rw [hm]; simp only [if_true]; omega
    obtain ⟨cs', g1, g2⟩ := hel i (by omega)
    rw [cells_step] at g1
    obtain ⟨o, ho⟩ := open_step g1 g2
    exact ⟨o, fun _ => ⟨ad, rfl, ho⟩⟩
  ·exact ⟨⟨0, 0, 0, 0, ⟨#[]⟩⟩, fun q => absurd q hi⟩
 exact ⟨fun i => (key i).choose, fun i => (key i).choose_spec⟩
theorem yyt {enc : TypeId × Value → H} {a : Option Addr} {d : DataW H} (h : DataW.Trod enc Tryz.prog W 0 (fun _ => true) true 31 (.slice a len cap) d p) {ts : List TypeId} {ds : List (DataW H)} {j : Nat} (ht : ts[j]? = some 31) (hd : ds[j]? = some d) (hz : (DataW.weightsEach Tryz.prog ts ds).all (· ≤ reachBytes) = true) : len ≤ 4611686018427387904 := by
 obtain ⟨fuel, hf⟩ := h
 rcases Deep.open_slice Tryz.underlying31 hf with ⟨e, _⟩ | ⟨ad, len', cap', m, k, D, Pl, e, _, _, _, hm, hx, hel⟩
 ·simp [Value.cells] at e
  omega
 ·simp [Value.cells] at e
  obtain ⟨rfl, rfl, rfl⟩ := e
  have hd1 : d = .slice ((List.range len).map D) ((List.range (m - len)).map fun j => D (len + j)) := congrArg Prod.fst hx
  rw [hd1] at hd
  have := sized_slice hz ht hd Tryz.underlying31
  rw [bytes_step] at this
  simp only [List.length_map, List.length_range, reachBytes] at this
  omega
end Go.Proofs.K
