/- Histories: Resolve of the pasts: ours. (Written by genghs.py.) -/
import Derived.Test.YtaelaldmibgibaaGreatH28
import Derived.Deep.RegionLaw
import Derived.Deep.DeepCutAuto

set_option linter.unusedVariables false
set_option linter.unusedSimpArgs false
set_option linter.unusedSectionVars false
set_option maxHeartbeats 8000000
set_option maxRecDepth 100000

namespace Go.Proofs.YtaelaldmibgibaaGreat
open Go.RowKit
open Classical
section
variable {z : Nat} {w : World} {gb n : Nat} {ρ : Nat → Nat} {G : Gst} {D : GD}
theorem gResolve_F (h : Gh z w gb n ρ G D (fun _ => G.ps)) (hzw : z ≤ w.heap.size) {a b : Nat} (ha : a < n) (hb : b < n) (p : ByteArray) (h0 : p ∉ G.ps → ∀ r, G.pa r p = yct) (hl : G.ps.length ≤ 100000000) (hnd : G.ps.Nodup) (hc : 0 ≤ G.c a ∧ G.c a ≤ 1000000000000) (hle : (G.pa a p).heard.length + (G.pa b p).heard.length ≤ 100000000) (hlm : (G.pa a p).made.length + (G.pa b p).made.length ≤ 100000000) :
  Calls Tryz.prog 37 #[.pointer (some ⟨gb, 0, none⟩), .int .i64 a, .int .i64 b, .string p, .bool false] w fun e w' => e = .returned (.tuple #[]) ∧ ∃ ρ' D', Gp z w w' gb n ρ ⟨fun i => if i = a then G.c a + 1 else G.c i, yan p G.ps, ybn G.pa a p (rsP (G.pa a p) (G.pa b p) (a, G.c a + 1) false)⟩ D' (fun _ => yan p G.ps) ρ' := by
 have CP := yab (ybg h hzw p h0 hl)
 have n6 := h.n6
 have HND := yab (yaw (p := p) hnd)
 have HLE := yab hle
 have HLM := yab hlm
 clear h hle hlm
 go_enter Tryz.func37, Tryz.ntmps37
 go_wp2_with (go_at_call 31; refine CP.out.mono ?_; rintro e w1 ⟨⟨i, rfl, hi⟩, ρ1, D1, hP⟩; have P1 := yab hP; have HI := yab hi; obtain ⟨cg, cc, ec, lc, rc2, hcs, fc⟩ := hP.gh.count; have c0 := hP.gh.c0; rw [ec] at c0; have cr := hcs a ha; have fcr := fc a; obtain ⟨sg, sc, rg, rc, es, er, g2, gs, k0, k1, k2, k3, k4, k5, ls, lr, rs4, rr6, fr, lq, lm⟩ := hP.gh.six ha hi; obtain ⟨sg', sc', rb, rc', es', er', _, gs', j0, j1, j2, j3, j4, j5, _, lr', _, rr6', _, _, _⟩ := hP.gh.six hb hi; rw [es] at es'; cases es'; have lg := hP.gh.glt; have rbb := hP.gh.rb; have ne1 : gb ≠ cg := (fun e => by rw [e, rc2] at rbb; omega); have ne2 : sg ≠ cg := (fun e => by rw [e, rc2] at rs4; omega); have ne3 : rg ≠ cg := (fun e => by rw [e, rc2] at rr6; omega); have ne4 : rb ≠ cg := (fun e => by rw [e, rc2] at rr6'; omega); clear rbb; simp only at k0 k1 k2 k3 k4 k5 j0 j1 j2 j3 j4 j5 cr; have EA := yab (hP.gh.ev a ha p (List.mem_of_getElem? hi)); have EBv := yab (hP.gh.ev b hb p (List.mem_of_getElem? hi)); have RA := yab (hP.gh.re a ha p (List.mem_of_getElem? hi)); have RBv := yab (hP.gh.re b hb p (List.mem_of_getElem? hi)); have ER := yab er; have EC := yab ec; obtain ⟨a4, c4, e4⟩ := EA.out.1.slice; obtain ⟨a5, c5, e5⟩ := EA.out.2.slice; obtain ⟨b4, d4, f4⟩ := EBv.out.1.slice; obtain ⟨b5, d5, f5⟩ := EBv.out.2.slice; simp only at e4 e5 f4 f5 EA EBv; rw [e4, e5] at EA RA; rw [f4, f5] at EBv RBv; rw [e4] at k4; rw [e5] at k5; rw [f4] at j4; rw [f5] at j5; have E4 := yab e4; have E5 := yab e5; have F4 := yab f4; have F5 := yab f5; clear hP hi es er er' rs4 rr6 rr6' e4 e5 f4 f5 hcs fc rc2 ec)
 have Q1 : Hid (Gp z w (((((w1.setCell ⟨cg, a, none⟩ (Value.int IntKind.i64 (G.c a + 1))).alloc (Obj.cells #[Value.bool (G.pa a p).there, Value.string (G.pa a p).text, Value.int IntKind.i64 (G.pa a p).birth.1, Value.int IntKind.i64 (G.pa a p).birth.2, (.slice a4 (G.pa a p).made.length c4), (.slice a5 (G.pa a p).heard.length c5)] 86)).alloc (Obj.cells #[Value.bool (G.pa b p).there, Value.string (G.pa b p).text, Value.int IntKind.i64 (G.pa b p).birth.1, Value.int IntKind.i64 (G.pa b p).birth.2, (.slice b4 (G.pa b p).made.length d4), (.slice b5 (G.pa b p).heard.length d5)] 86)).alloc (Obj.cells #[Value.int IntKind.i64 a, Value.int IntKind.i64 (G.c a + 1)] 82)).alloc (Obj.cells #[Value.bool (G.pa a p).there, Value.string (G.pa a p).text, Value.int IntKind.i64 (G.pa a p).birth.1, Value.int IntKind.i64 (G.pa a p).birth.2, (.slice a4 (G.pa a p).made.length c4), (.slice a5 (G.pa a p).heard.length c5)] 86)) gb n ρ ⟨fun i => if i = a then G.c a + 1 else G.c i, yan p G.ps, G.pa⟩ D1 (fun _ => yan p G.ps) ρ1) := (((((P1.out.recount ha EC.out (G.c a + 1)).below ((Below.refl _ _).alloc (Nat.le_refl _) _)).below ((Below.refl _ _).alloc (Nat.le_refl _) _)).below ((Below.refl _ _).alloc (Nat.le_refl _) _)).below ((Below.refl _ _).alloc (Nat.le_refl _) _))
 obtain ⟨q1, q2, q3, q4, q5⟩ := four (w1.setCell ⟨cg, a, none⟩ (Value.int IntKind.i64 (G.c a + 1))) (Obj.cells #[Value.bool (G.pa a p).there, Value.string (G.pa a p).text, Value.int IntKind.i64 (G.pa a p).birth.1, Value.int IntKind.i64 (G.pa a p).birth.2, (.slice a4 (G.pa a p).made.length c4), (.slice a5 (G.pa a p).heard.length c5)] 86) (Obj.cells #[Value.bool (G.pa b p).there, Value.string (G.pa b p).text, Value.int IntKind.i64 (G.pa b p).birth.1, Value.int IntKind.i64 (G.pa b p).birth.2, (.slice b4 (G.pa b p).made.length d4), (.slice b5 (G.pa b p).heard.length d5)] 86) (Obj.cells #[Value.int IntKind.i64 a, Value.int IntKind.i64 (G.c a + 1)] 82) (Obj.cells #[Value.bool (G.pa a p).there, Value.string (G.pa a p).text, Value.int IntKind.i64 (G.pa a p).birth.1, Value.int IntKind.i64 (G.pa a p).birth.2, (.slice a4 (G.pa a p).made.length c4), (.slice a5 (G.pa a p).heard.length c5)] 86)
 simp only [ybz] at q1 q2 q3 q4 q5
 have SA : Hid (ygd (((((w1.setCell ⟨cg, a, none⟩ (Value.int IntKind.i64 (G.c a + 1))).alloc (Obj.cells #[Value.bool (G.pa a p).there, Value.string (G.pa a p).text, Value.int IntKind.i64 (G.pa a p).birth.1, Value.int IntKind.i64 (G.pa a p).birth.2, (.slice a4 (G.pa a p).made.length c4), (.slice a5 (G.pa a p).heard.length c5)] 86)).alloc (Obj.cells #[Value.bool (G.pa b p).there, Value.string (G.pa b p).text, Value.int IntKind.i64 (G.pa b p).birth.1, Value.int IntKind.i64 (G.pa b p).birth.2, (.slice b4 (G.pa b p).made.length d4), (.slice b5 (G.pa b p).heard.length d5)] 86)).alloc (Obj.cells #[Value.int IntKind.i64 a, Value.int IntKind.i64 (G.c a + 1)] 82)).alloc (Obj.cells #[Value.bool (G.pa a p).there, Value.string (G.pa a p).text, Value.int IntKind.i64 (G.pa a p).birth.1, Value.int IntKind.i64 (G.pa a p).birth.2, (.slice a4 (G.pa a p).made.length c4), (.slice a5 (G.pa a p).heard.length c5)] 86)) w1.heap.size (G.pa a p) (.slice a4 (G.pa a p).made.length c4) (.slice a5 (G.pa a p).heard.length c5)) := ⟨q1⟩
 have SB : Hid (ygd (((((w1.setCell ⟨cg, a, none⟩ (Value.int IntKind.i64 (G.c a + 1))).alloc (Obj.cells #[Value.bool (G.pa a p).there, Value.string (G.pa a p).text, Value.int IntKind.i64 (G.pa a p).birth.1, Value.int IntKind.i64 (G.pa a p).birth.2, (.slice a4 (G.pa a p).made.length c4), (.slice a5 (G.pa a p).heard.length c5)] 86)).alloc (Obj.cells #[Value.bool (G.pa b p).there, Value.string (G.pa b p).text, Value.int IntKind.i64 (G.pa b p).birth.1, Value.int IntKind.i64 (G.pa b p).birth.2, (.slice b4 (G.pa b p).made.length d4), (.slice b5 (G.pa b p).heard.length d5)] 86)).alloc (Obj.cells #[Value.int IntKind.i64 a, Value.int IntKind.i64 (G.c a + 1)] 82)).alloc (Obj.cells #[Value.bool (G.pa a p).there, Value.string (G.pa a p).text, Value.int IntKind.i64 (G.pa a p).birth.1, Value.int IntKind.i64 (G.pa a p).birth.2, (.slice a4 (G.pa a p).made.length c4), (.slice a5 (G.pa a p).heard.length c5)] 86)) (w1.heap.size + 1) (G.pa b p) (.slice b4 (G.pa b p).made.length d4) (.slice b5 (G.pa b p).heard.length d5)) := ⟨q2⟩
 have EB : Hid ((((((w1.setCell ⟨cg, a, none⟩ (Value.int IntKind.i64 (G.c a + 1))).alloc (Obj.cells #[Value.bool (G.pa a p).there, Value.string (G.pa a p).text, Value.int IntKind.i64 (G.pa a p).birth.1, Value.int IntKind.i64 (G.pa a p).birth.2, (.slice a4 (G.pa a p).made.length c4), (.slice a5 (G.pa a p).heard.length c5)] 86)).alloc (Obj.cells #[Value.bool (G.pa b p).there, Value.string (G.pa b p).text, Value.int IntKind.i64 (G.pa b p).birth.1, Value.int IntKind.i64 (G.pa b p).birth.2, (.slice b4 (G.pa b p).made.length d4), (.slice b5 (G.pa b p).heard.length d5)] 86)).alloc (Obj.cells #[Value.int IntKind.i64 a, Value.int IntKind.i64 (G.c a + 1)] 82)).alloc (Obj.cells #[Value.bool (G.pa a p).there, Value.string (G.pa a p).text, Value.int IntKind.i64 (G.pa a p).birth.1, Value.int IntKind.i64 (G.pa a p).birth.2, (.slice a4 (G.pa a p).made.length c4), (.slice a5 (G.pa a p).heard.length c5)] 86)).heap[w1.heap.size + 1 + 1]? = some (Obj.cells #[Value.int IntKind.i64 a, Value.int IntKind.i64 (G.c a + 1)] 82 (0, 0))) := q3
 have SC : Hid (ygd (((((w1.setCell ⟨cg, a, none⟩ (Value.int IntKind.i64 (G.c a + 1))).alloc (Obj.cells #[Value.bool (G.pa a p).there, Value.string (G.pa a p).text, Value.int IntKind.i64 (G.pa a p).birth.1, Value.int IntKind.i64 (G.pa a p).birth.2, (.slice a4 (G.pa a p).made.length c4), (.slice a5 (G.pa a p).heard.length c5)] 86)).alloc (Obj.cells #[Value.bool (G.pa b p).there, Value.string (G.pa b p).text, Value.int IntKind.i64 (G.pa b p).birth.1, Value.int IntKind.i64 (G.pa b p).birth.2, (.slice b4 (G.pa b p).made.length d4), (.slice b5 (G.pa b p).heard.length d5)] 86)).alloc (Obj.cells #[Value.int IntKind.i64 a, Value.int IntKind.i64 (G.c a + 1)] 82)).alloc (Obj.cells #[Value.bool (G.pa a p).there, Value.string (G.pa a p).text, Value.int IntKind.i64 (G.pa a p).birth.1, Value.int IntKind.i64 (G.pa a p).birth.2, (.slice a4 (G.pa a p).made.length c4), (.slice a5 (G.pa a p).heard.length c5)] 86)) (w1.heap.size + 1 + 1 + 1) (G.pa a p) (.slice a4 (G.pa a p).made.length c4) (.slice a5 (G.pa a p).heard.length c5)) := ⟨q4⟩
 have SZ : Hid ((((((w1.setCell ⟨cg, a, none⟩ (Value.int IntKind.i64 (G.c a + 1))).alloc (Obj.cells #[Value.bool (G.pa a p).there, Value.string (G.pa a p).text, Value.int IntKind.i64 (G.pa a p).birth.1, Value.int IntKind.i64 (G.pa a p).birth.2, (.slice a4 (G.pa a p).made.length c4), (.slice a5 (G.pa a p).heard.length c5)] 86)).alloc (Obj.cells #[Value.bool (G.pa b p).there, Value.string (G.pa b p).text, Value.int IntKind.i64 (G.pa b p).birth.1, Value.int IntKind.i64 (G.pa b p).birth.2, (.slice b4 (G.pa b p).made.length d4), (.slice b5 (G.pa b p).heard.length d5)] 86)).alloc (Obj.cells #[Value.int IntKind.i64 a, Value.int IntKind.i64 (G.c a + 1)] 82)).alloc (Obj.cells #[Value.bool (G.pa a p).there, Value.string (G.pa a p).text, Value.int IntKind.i64 (G.pa a p).birth.1, Value.int IntKind.i64 (G.pa a p).birth.2, (.slice a4 (G.pa a p).made.length c4), (.slice a5 (G.pa a p).heard.length c5)] 86)).heap.size = w1.heap.size + 4) := q5
 have HX : Hid (w.heap.size ≤ w1.heap.size) := P1.out.fr.size
 have NX : Hid (ρ1 (w1.heap.size + 1 + 1 + 1) = 0) := by
  show _ = _
  rcases Nat.eq_zero_or_pos (ρ1 (w1.heap.size + 1 + 1 + 1)) with y | y
  ·exact y
  ·have := P1.out.gh.lt (w1.heap.size + 1 + 1 + 1) (by omega); omega
 have EVA := yab (Q1.out.gh.ev a ha p (List.mem_of_getElem? HI.out))
 have EVBv := yab (Q1.out.gh.ev b hb p (List.mem_of_getElem? HI.out))
 rw [E4.out, E5.out] at EVA
 rw [F4.out, F5.out] at EVBv
 simp only at EVA EVBv
 generalize (((((w1.setCell ⟨cg, a, none⟩ (Value.int IntKind.i64 (G.c a + 1))).alloc (Obj.cells #[Value.bool (G.pa a p).there, Value.string (G.pa a p).text, Value.int IntKind.i64 (G.pa a p).birth.1, Value.int IntKind.i64 (G.pa a p).birth.2, (.slice a4 (G.pa a p).made.length c4), (.slice a5 (G.pa a p).heard.length c5)] 86)).alloc (Obj.cells #[Value.bool (G.pa b p).there, Value.string (G.pa b p).text, Value.int IntKind.i64 (G.pa b p).birth.1, Value.int IntKind.i64 (G.pa b p).birth.2, (.slice b4 (G.pa b p).made.length d4), (.slice b5 (G.pa b p).heard.length d5)] 86)).alloc (Obj.cells #[Value.int IntKind.i64 a, Value.int IntKind.i64 (G.c a + 1)] 82)).alloc (Obj.cells #[Value.bool (G.pa a p).there, Value.string (G.pa a p).text, Value.int IntKind.i64 (G.pa a p).birth.1, Value.int IntKind.i64 (G.pa a p).birth.2, (.slice a4 (G.pa a p).made.length c4), (.slice a5 (G.pa a p).heard.length c5)] 86)) = W at *
 clear q1 q2 q3 q4 q5 k0 k1 k2 k3 k4 k5 j0 j1 j2 j3 j4 j5 c0 cr fcr g2 gs gs' ne1 ne2 ne3 ne4 fr ls lr lr' lc lg CP EA EBv EC
 generalize w1.heap.size = B1 at *
 have K1 := yab (Gw.start Q1.out HND.out ha HI.out ER.out)
 rw [E4.out, E5.out] at K1
 clear Q1 P1 ER E4 E5 F4 F5
 obtain ⟨k0, k1, k2, k3, k4, k5⟩ := SA.out.cells
 obtain ⟨j0, j1, j2, j3, j4, j5⟩ := SB.out.cells
 have y0 : W.cell? ⟨B1 + 1 + 1, 0, none⟩ = some (.int .i64 a) := by simp [World.cell?, EB.out]
 have y1 : W.cell? ⟨B1 + 1 + 1, 1, none⟩ = some (.int .i64 (G.c a + 1)) := by simp [World.cell?, EB.out]
 have lE : B1 + 1 + 1 < W.heap.size := World.block_lt_of_cell? W ⟨B1 + 1 + 1, 0, none⟩ y0
 clear k0 k1 k2 k3 j0 j1 j2 j3
 have lA : B1 < W.heap.size := SA.out.lt
 have lB : B1 + 1 < W.heap.size := SB.out.lt
 have HZ : Hid (z ≤ W.heap.size) := by have := SZ.out; have := HX.out; show z ≤ _; omega
 go_cut [15] (fun s15 wx => ∃ ua uc, s15 = .slice ua (yaa (yaa (G.pa a p).made (G.pa b p).made) [(a, G.c a + 1)]).length uc ∧ Hid (Below W.heap.size W wx) ∧ Hid (wx.ownsRow W.heap.size 82 2 s15 (yaa (yaa (G.pa a p).made (G.pa b p).made) [(a, G.c a + 1)]).length (evs (yaa (yaa (G.pa a p).made (G.pa b p).made) [(a, G.c a + 1)]))))
 case first =>
  have HU1 : Hid (∀ V, Below W.heap.size W V → Calls Tryz.prog 32 #[(.slice a4 (G.pa a p).made.length c4), (.slice b4 (G.pa b p).made.length d4)] V fun e w' => ∃ x, e = .returned x ∧ w'.ownsRow V.heap.size 82 2 x (yaa (G.pa a p).made (G.pa b p).made).length (evs (yaa (G.pa a p).made (G.pa b p).made)) ∧ Below V.heap.size V w') := fun V hV => ybh _ _ _ _ _ (EVA.out.1.below hV) (EVBv.out.1.below hV) (by have := HLM.out; omega)
  have HL1 : Hid ((yaa (G.pa a p).made (G.pa b p).made).length ≤ 500000000) := by
   have q := ygn (G.pa a p).made (G.pa b p).made
   have := HLM.out
   show _ ≤ _
   omega
  go_region_law (first
   |(go_simp; go_at_call 32; first
     |(have BP : Hid (Below W.heap.size W W.drew) := (Below.refl _ _).drew; (with_reducible refine (HU1.out _ BP.out).mono ?_); clear HU1; rintro e wx ⟨u1, rfl, ho1, hb1⟩; obtain ⟨ua, uc, rfl⟩ := yam ho1; have E1 := yab (EvL.own ho1); have BX : Hid (Below W.heap.size W wx) := BP.out.trans (hb1.mono BP.out.size); have x0 := (BX.out.cell (p := ⟨B1 + 1 + 1, 0, none⟩) lE).trans y0; have x1 := (BX.out.cell (p := ⟨B1 + 1 + 1, 1, none⟩) lE).trans y1; clear ho1 hb1; dsimp only)
     |(have BP : Hid (Below W.heap.size W (W.alloc (Obj.cells #[Value.int IntKind.i64 a, Value.int IntKind.i64 (G.c a + 1)] 82)).drew) := ((Below.refl _ _).alloc (Nat.le_refl _) _).drew; (with_reducible refine (HU1.out _ BP.out).mono ?_); clear HU1; rintro e wx ⟨u1, rfl, ho1, hb1⟩; obtain ⟨ua, uc, rfl⟩ := yam ho1; have E1 := yab (EvL.own ho1); have BX : Hid (Below W.heap.size W wx) := BP.out.trans (hb1.mono BP.out.size); have x0 := (BX.out.cell (p := ⟨B1 + 1 + 1, 0, none⟩) lE).trans y0; have x1 := (BX.out.cell (p := ⟨B1 + 1 + 1, 1, none⟩) lE).trans y1; have EBx : Hid (wx.heap[W.heap.size]? = some (Obj.cells #[Value.int IntKind.i64 a, Value.int IntKind.i64 (G.c a + 1)] 82 (0, 0))) := (hb1.block W.heap.size (by simp [World.drew])).trans (heap_alloc_new W _); clear ho1 hb1; dsimp only)
     |(have BQ := BX; refine (ybr E1.out HL1.out EBx.out).mono ?_; rintro e wy ⟨u2, rfl, ho2, hb2⟩; obtain ⟨va, vc, rfl⟩ := yam ho2; have BY : Hid (Below W.heap.size W wy) := BQ.out.trans (hb2.mono BQ.out.size); have OY : Hid (wy.ownsRow W.heap.size 82 2 (.slice va (yaa (yaa (G.pa a p).made (G.pa b p).made) [(a, G.c a + 1)]).length vc) (yaa (yaa (G.pa a p).made (G.pa b p).made) [(a, G.c a + 1)]).length (evs (yaa (yaa (G.pa a p).made (G.pa b p).made) [(a, G.c a + 1)]))) := yaq ho2 (fun k e => Nat.le_trans BQ.out.size (World.ownsRow.lt ho2 k e).1); clear ho2 hb2; dsimp only)
     |(have BQ : Hid (Below W.heap.size W (wx.alloc (Obj.cells #[Value.int IntKind.i64 a, Value.int IntKind.i64 (G.c a + 1)] 82))) := BX.out.alloc BX.out.size _; refine (ybr (E1.out.below ((Below.refl _ _).alloc (Nat.le_refl _) _)) HL1.out (by exact heap_alloc_new wx _)).mono ?_; rintro e wy ⟨u2, rfl, ho2, hb2⟩; obtain ⟨va, vc, rfl⟩ := yam ho2; have BY : Hid (Below W.heap.size W wy) := BQ.out.trans (hb2.mono BQ.out.size); have OY : Hid (wy.ownsRow W.heap.size 82 2 (.slice va (yaa (yaa (G.pa a p).made (G.pa b p).made) [(a, G.c a + 1)]).length vc) (yaa (yaa (G.pa a p).made (G.pa b p).made) [(a, G.c a + 1)]).length (evs (yaa (yaa (G.pa a p).made (G.pa b p).made) [(a, G.c a + 1)]))) := yaq ho2 (fun k e => Nat.le_trans BQ.out.size (World.ownsRow.lt ho2 k e).1); clear ho2 hb2; dsimp only)))
  all_goals
   go_wp2_with fail
   go_meet
   exact ⟨_, _, rfl, BY, OY⟩
 case rest =>
  obtain ⟨va, vc, rfl, BM, OM⟩ := hcut
  clear k4 k5 j4 j5 y0 y1 lE lA lB
  obtain ⟨ρ2, K2, hv2, ro2, hr2, ro2'⟩ := K1.out.fresh2 HZ.out BM.out OM.out
  have SA2 := yab (SA.out.below BM.out)
  have SB2 := yab (SB.out.below BM.out)
  have SC2 := yab (SC.out.below BM.out)
  have LX2 : Hid (B1 + 1 + 1 + 1 < W.heap.size) := SC.out.lt
  have LE2 : Hid (B1 + 1 + 1 < W.heap.size) := by have := LX2.out; show _ < _; omega
  have EB2 : Hid (wc.heap[B1 + 1 + 1]? = some (Obj.cells #[Value.int IntKind.i64 a, Value.int IntKind.i64 (G.c a + 1)] 82 (0, 0))) := (BM.out.block _ LE2.out).trans EB.out
  have NX2 : Hid (ρ2 (B1 + 1 + 1 + 1) = 0) := hr2 _ NX.out LX2.out
  have HZ2 : Hid (z ≤ wc.heap.size) := Nat.le_trans HZ.out BM.out.size
  have EVA2 := yab (And.intro (EVA.out.1.below BM.out) (EVA.out.2.below BM.out))
  have EVB2 := yab (And.intro (EVBv.out.1.below BM.out) (EVBv.out.2.below BM.out))
  have RA2 := yab (And.intro (ro2' _ 5 (by decide) RA.out.1) (ro2' _ 5 (by decide) RA.out.2))
  have RB2 := yab (And.intro (ro2' _ 5 (by decide) RBv.out.1) (ro2' _ 5 (by decide) RBv.out.2))
  have K2' := yab K2
  have HV2 := yab hv2
  have RO2 := yab ro2
  clear K2 hv2 ro2 hr2 ro2' K1 SA SB SC EB NX HZ EVA EVBv RA RBv SZ
  have EVA := EVA2
  have EVBv := EVB2
  obtain ⟨_, _, _, _, _, k5⟩ := SA2.out.cells
  obtain ⟨_, _, _, _, _, j5⟩ := SB2.out.cells
  obtain ⟨_, _, _, _, _, s5⟩ := SC2.out.cells
  have f5 := SC2.out.fz 5
  have lC : B1 + 1 + 1 + 1 < wc.heap.size := SC2.out.lt
  have y0 : wc.cell? ⟨B1 + 1 + 1, 0, none⟩ = some (.int .i64 a) := by simp [World.cell?, EB2.out]
  have y1 : wc.cell? ⟨B1 + 1 + 1, 1, none⟩ = some (.int .i64 (G.c a + 1)) := by simp [World.cell?, EB2.out]
  have lE : B1 + 1 + 1 < wc.heap.size := World.block_lt_of_cell? wc ⟨B1 + 1 + 1, 0, none⟩ y0
  have lA : B1 < wc.heap.size := SA2.out.lt
  have lB : B1 + 1 < wc.heap.size := SB2.out.lt
  have HX3 : Hid (w.heap.size ≤ B1 + 1 + 1 + 1) := by have := HX.out; show _ ≤ _; omega
  go_wp2_with fail
  go_cut [] (fun wx => ∃ ρ4 ha4 hc4, Hid (Gw z w wx gb n ρ ρ4 (fun i => if i = a then G.c a + 1 else G.c i) (yan p G.ps) G.pa a p i rg rc (G.pa a p) (.slice a4 (G.pa a p).made.length c4) (.slice a5 (G.pa a p).heard.length c5)) ∧ Hid (ygd wx (B1 + 1 + 1 + 1) ⟨(G.pa a p).there, (G.pa a p).text, (G.pa a p).birth, (G.pa a p).made, (yaa (yaa (G.pa a p).heard (G.pa b p).heard) [(a, G.c a + 1)])⟩ (.slice a4 (G.pa a p).made.length c4) (.slice ha4 (yaa (yaa (G.pa a p).heard (G.pa b p).heard) [(a, G.c a + 1)]).length hc4)) ∧ Hid (EvL wx (.slice ha4 (yaa (yaa (G.pa a p).heard (G.pa b p).heard) [(a, G.c a + 1)]).length hc4) (yaa (yaa (G.pa a p).heard (G.pa b p).heard) [(a, G.c a + 1)])) ∧ Hid (ybs ρ4 (.slice ha4 (yaa (yaa (G.pa a p).heard (G.pa b p).heard) [(a, G.c a + 1)]).length hc4) 5) ∧ Hid (EvL wx (.slice va (yaa (yaa (G.pa a p).made (G.pa b p).made) [(a, G.c a + 1)]).length vc) (yaa (yaa (G.pa a p).made (G.pa b p).made) [(a, G.c a + 1)])) ∧ Hid (ybs ρ4 (.slice va (yaa (yaa (G.pa a p).made (G.pa b p).made) [(a, G.c a + 1)]).length vc) 5) ∧ Hid (EvL wx (.slice a4 (G.pa a p).made.length c4) (G.pa a p).made) ∧ Hid (ybs ρ4 (.slice a4 (G.pa a p).made.length c4) 5) ∧ Hid (wx.heap[B1 + 1 + 1]? = some (Obj.cells #[Value.int IntKind.i64 a, Value.int IntKind.i64 (G.c a + 1)] 82 (0, 0))) ∧ Hid (ρ4 (B1 + 1 + 1 + 1) = 0))
  case first =>
   have HU1 : Hid (∀ V, Below wc.heap.size wc V → Calls Tryz.prog 32 #[(.slice a5 (G.pa a p).heard.length c5), (.slice b5 (G.pa b p).heard.length d5)] V fun e w' => ∃ x, e = .returned x ∧ w'.ownsRow V.heap.size 82 2 x (yaa (G.pa a p).heard (G.pa b p).heard).length (evs (yaa (G.pa a p).heard (G.pa b p).heard)) ∧ Below V.heap.size V w') := fun V hV => ybh _ _ _ _ _ (EVA.out.2.below hV) (EVBv.out.2.below hV) (by have := HLE.out; omega)
   have HL1 : Hid ((yaa (G.pa a p).heard (G.pa b p).heard).length ≤ 500000000) := by
    have q := ygn (G.pa a p).heard (G.pa b p).heard
    have := HLE.out
    show _ ≤ _
    omega
   go_region_law (first
    |(go_simp; go_at_call 32; first
      |(have BP : Hid (Below wc.heap.size wc wc.drew) := (Below.refl _ _).drew; (with_reducible refine (HU1.out _ BP.out).mono ?_); clear HU1; rintro e wx ⟨u1, rfl, ho1, hb1⟩; obtain ⟨ua, uc, rfl⟩ := yam ho1; have E1 := yab (EvL.own ho1); have BX : Hid (Below wc.heap.size wc wx) := BP.out.trans (hb1.mono BP.out.size); have x0 := (BX.out.cell (p := ⟨B1 + 1 + 1, 0, none⟩) lE).trans y0; have x1 := (BX.out.cell (p := ⟨B1 + 1 + 1, 1, none⟩) lE).trans y1; clear ho1 hb1; dsimp only)
      |(have BP : Hid (Below wc.heap.size wc (wc.alloc (Obj.cells #[Value.int IntKind.i64 a, Value.int IntKind.i64 (G.c a + 1)] 82)).drew) := ((Below.refl _ _).alloc (Nat.le_refl _) _).drew; (with_reducible refine (HU1.out _ BP.out).mono ?_); clear HU1; rintro e wx ⟨u1, rfl, ho1, hb1⟩; obtain ⟨ua, uc, rfl⟩ := yam ho1; have E1 := yab (EvL.own ho1); have BX : Hid (Below wc.heap.size wc wx) := BP.out.trans (hb1.mono BP.out.size); have x0 := (BX.out.cell (p := ⟨B1 + 1 + 1, 0, none⟩) lE).trans y0; have x1 := (BX.out.cell (p := ⟨B1 + 1 + 1, 1, none⟩) lE).trans y1; have EBx : Hid (wx.heap[wc.heap.size]? = some (Obj.cells #[Value.int IntKind.i64 a, Value.int IntKind.i64 (G.c a + 1)] 82 (0, 0))) := (hb1.block wc.heap.size (by simp [World.drew])).trans (heap_alloc_new wc _); clear ho1 hb1; dsimp only)
      |(have BQ := BX; refine (ybr E1.out HL1.out EBx.out).mono ?_; rintro e wy ⟨u2, rfl, ho2, hb2⟩; obtain ⟨va_, vc_, rfl⟩ := yam ho2; have BY : Hid (Below wc.heap.size wc wy) := BQ.out.trans (hb2.mono BQ.out.size); have OY : Hid (wy.ownsRow wc.heap.size 82 2 (.slice va_ (yaa (yaa (G.pa a p).heard (G.pa b p).heard) [(a, G.c a + 1)]).length vc_) (yaa (yaa (G.pa a p).heard (G.pa b p).heard) [(a, G.c a + 1)]).length (evs (yaa (yaa (G.pa a p).heard (G.pa b p).heard) [(a, G.c a + 1)]))) := yaq ho2 (fun k e => Nat.le_trans BQ.out.size (World.ownsRow.lt ho2 k e).1); clear ho2 hb2; have z5 := (BY.out.cell (p := ⟨B1 + 1 + 1 + 1, 5, none⟩) lC).trans s5; have zf := (BY.out.frozen (p := ⟨B1 + 1 + 1 + 1, 5, none⟩) lC).trans f5; dsimp only)
      |(have BQ : Hid (Below wc.heap.size wc (wx.alloc (Obj.cells #[Value.int IntKind.i64 a, Value.int IntKind.i64 (G.c a + 1)] 82))) := BX.out.alloc BX.out.size _; refine (ybr (E1.out.below ((Below.refl _ _).alloc (Nat.le_refl _) _)) HL1.out (by exact heap_alloc_new wx _)).mono ?_; rintro e wy ⟨u2, rfl, ho2, hb2⟩; obtain ⟨va_, vc_, rfl⟩ := yam ho2; have BY : Hid (Below wc.heap.size wc wy) := BQ.out.trans (hb2.mono BQ.out.size); have OY : Hid (wy.ownsRow wc.heap.size 82 2 (.slice va_ (yaa (yaa (G.pa a p).heard (G.pa b p).heard) [(a, G.c a + 1)]).length vc_) (yaa (yaa (G.pa a p).heard (G.pa b p).heard) [(a, G.c a + 1)]).length (evs (yaa (yaa (G.pa a p).heard (G.pa b p).heard) [(a, G.c a + 1)]))) := yaq ho2 (fun k e => Nat.le_trans BQ.out.size (World.ownsRow.lt ho2 k e).1); clear ho2 hb2; have z5 := (BY.out.cell (p := ⟨B1 + 1 + 1 + 1, 5, none⟩) lC).trans s5; have zf := (BY.out.frozen (p := ⟨B1 + 1 + 1 + 1, 5, none⟩) lC).trans f5; dsimp only)))
   all_goals
    obtain ⟨ρ3, K3, hv3, ro3, hr3, ro3'⟩ := K2'.out.fresh2 HZ2.out BY.out OY.out
    have NX3 : Hid (ρ3 (B1 + 1 + 1 + 1) = 0) := hr3 _ NX2.out lC
    have K4 := yab (K3.away NX3.out HX3.out 5 [.slice va_ (yaa (yaa (G.pa a p).heard (G.pa b p).heard) [(a, G.c a + 1)]).length vc_])
    have S4 := yab ((SC2.out.below BY.out).hear (yaa (yaa (G.pa a p).heard (G.pa b p).heard) [(a, G.c a + 1)]) (.slice va_ (yaa (yaa (G.pa a p).heard (G.pa b p).heard) [(a, G.c a + 1)]).length vc_))
    have EH := yab (hv3.away ro3 NX3.out 5 [.slice va_ (yaa (yaa (G.pa a p).heard (G.pa b p).heard) [(a, G.c a + 1)]).length vc_])
    have EM := yab ((HV2.out.below BY.out).away (ro3' _ 5 (by decide) RO2.out) NX3.out 5 [.slice va_ (yaa (yaa (G.pa a p).heard (G.pa b p).heard) [(a, G.c a + 1)]).length vc_])
    have EC := yab ((EVA.out.1.below BY.out).away (ro3' _ 5 (by decide) RA2.out.1) NX3.out 5 [.slice va_ (yaa (yaa (G.pa a p).heard (G.pa b p).heard) [(a, G.c a + 1)]).length vc_])
    have RM := yab (ro3' _ 5 (by decide) RO2.out)
    have RC := yab (ro3' _ 5 (by decide) RA2.out.1)
    have RH := yab ro3
    have EB5 : Hid ((wy.setCell ⟨B1 + 1 + 1 + 1, 5, none⟩ (.slice va_ (yaa (yaa (G.pa a p).heard (G.pa b p).heard) [(a, G.c a + 1)]).length vc_)).heap[B1 + 1 + 1]? = some (Obj.cells #[Value.int IntKind.i64 a, Value.int IntKind.i64 (G.c a + 1)] 82 (0, 0))) := ((Below.heap_setCell _ _ _ _ (by simp only; omega)).trans (BY.out.block _ lE)).trans EB2.out
    clear K3 hv3 ro3 hr3 ro3' k5 j5 s5 f5 y0 y1
    go_wp2_with fail
    go_meet
    exact ⟨ρ3, _, _, K4, S4, EH, RH, EM, RM, EC, RC, EB5, NX3⟩
  case rest =>
  obtain ⟨ρ4, ha4, hc4, K4, SC4, EH4, RH4, EM4, RM4, EC4, RC4, EB4, NX4⟩ := hcut
  clear K2' SA2 SB2 SC2 EB2 NX2 HZ2 EVA2 EVB2 RA2 RB2 HV2 RO2 EVA EVBv k5 j5 s5 f5 y0 y1 lE lA lB lC
  cases hx : (G.pa a p).there
  ·have q0 := SC4.out.cells.1
   rw [hx] at q0
   obtain ⟨_, _, s2, s3, s4, _⟩ := SC4.out.cells
   have y0 : wc.cell? ⟨B1 + 1 + 1, 0, none⟩ = some (.int .i64 a) := by simp [World.cell?, EB4.out]
   have y1 : wc.cell? ⟨B1 + 1 + 1, 1, none⟩ = some (.int .i64 (G.c a + 1)) := by simp [World.cell?, EB4.out]
   have f2 := SC4.out.fz 2
   have f3 := SC4.out.fz 3
   have f4 := SC4.out.fz 4
   have lE : B1 + 1 + 1 < wc.heap.size := World.block_lt_of_cell? wc ⟨B1 + 1 + 1, 0, none⟩ y0
   go_wp2_with fail
   have K5 : Hid (Gw z w wc gb n ρ ρ4 (fun i => if i = a then G.c a + 1 else G.c i) (yan p G.ps) G.pa a p i rg rc (G.pa a p) (.slice a4 (G.pa a p).made.length c4) (.slice a5 (G.pa a p).heard.length c5)) := K4.out
   have S5 : Hid (ygd wc (B1 + 1 + 1 + 1) ⟨false, (G.pa a p).text, (G.pa a p).birth, (G.pa a p).made, (yaa (yaa (G.pa a p).heard (G.pa b p).heard) [(a, G.c a + 1)])⟩ (.slice a4 (G.pa a p).made.length c4) (.slice ha4 (yaa (yaa (G.pa a p).heard (G.pa b p).heard) [(a, G.c a + 1)]).length hc4)) := ⟨by have q := SC4.out.blk; rw [hx] at q; exact q⟩
   have M5 : Hid (EvL wc (.slice a4 (G.pa a p).made.length c4) (G.pa a p).made) := EC4.out
   have U5 : Hid (EvL wc (.slice ha4 (yaa (yaa (G.pa a p).heard (G.pa b p).heard) [(a, G.c a + 1)]).length hc4) (yaa (yaa (G.pa a p).heard (G.pa b p).heard) [(a, G.c a + 1)])) := EH4.out
   clear q0 s2 s3 s4 y0 y1 f2 f3 f4
   generalize wc = V5 at *
   obtain ⟨k0, k1, k2, k3, k4, k5⟩ := S5.out.cells
   obtain ⟨sg', sc', g2, gs, lg', ls', _, _, lq'⟩ := K5.out.rowc
   obtain ⟨r0, r1, r2, r3, r4, r5, lr5, rf, _⟩ := K5.out.cells
   have h0' := rf (i * 6)
   have h1 := rf (i * 6 + 1)
   have h2 := rf (i * 6 + 2)
   have h3 := rf (i * 6 + 3)
   have h4 := rf (i * 6 + 4)
   have h5 := rf (i * 6 + 5)
   have lX := S5.out.lt
   have KF := yab (K5.out.all (g' := ⟨false, (G.pa a p).text, (G.pa a p).birth, (G.pa a p).made, (yaa (yaa (G.pa a p).heard (G.pa b p).heard) [(a, G.c a + 1)])⟩) ⟨M5.out, U5.out⟩ ⟨RC4.out, RH4.out⟩)
   clear rf
   go_region
   all_goals
    clear k0 k1 k2 k3 k4 k5 r0 r1 r2 r3 r4 r5 h0' h1 h2 h3 h4 h5 g2 gs
    go_wp2_with fail
    go_end0
    obtain ⟨D6, P6⟩ := KF.out.gp
    refine ⟨rfl, ρ4, D6, ?_⟩
    have e : rsP (G.pa a p) (G.pa b p) (a, G.c a + 1) false = ⟨false, (G.pa a p).text, (G.pa a p).birth, (G.pa a p).made, (yaa (yaa (G.pa a p).heard (G.pa b p).heard) [(a, G.c a + 1)])⟩ := by
     unfold rsP
     simp only [hx, if_true, if_false, Bool.false_eq_true]
    rw [e]
    exact P6.drew
  ·have q0 := SC4.out.cells.1
   rw [hx] at q0
   obtain ⟨_, _, s2, s3, s4, _⟩ := SC4.out.cells
   have y0 : wc.cell? ⟨B1 + 1 + 1, 0, none⟩ = some (.int .i64 a) := by simp [World.cell?, EB4.out]
   have y1 : wc.cell? ⟨B1 + 1 + 1, 1, none⟩ = some (.int .i64 (G.c a + 1)) := by simp [World.cell?, EB4.out]
   have f2 := SC4.out.fz 2
   have f3 := SC4.out.fz 3
   have f4 := SC4.out.fz 4
   have lE : B1 + 1 + 1 < wc.heap.size := World.block_lt_of_cell? wc ⟨B1 + 1 + 1, 0, none⟩ y0
   go_wp2_with fail
   have K5 : Hid (Gw z w (((wc.setCell ⟨B1 + 1 + 1 + 1, 2, none⟩ (.int .i64 a)).setCell ⟨B1 + 1 + 1 + 1, 2 + 1, none⟩ (.int .i64 (G.c a + 1))).setCell ⟨B1 + 1 + 1 + 1, 4, none⟩ (.slice va (yaa (yaa (G.pa a p).made (G.pa b p).made) [(a, G.c a + 1)]).length vc)) gb n ρ ρ4 (fun i => if i = a then G.c a + 1 else G.c i) (yan p G.ps) G.pa a p i rg rc (G.pa a p) (.slice a4 (G.pa a p).made.length c4) (.slice a5 (G.pa a p).heard.length c5)) := (((K4.out.away NX4.out HX3.out 2 [.int .i64 a]).away NX4.out HX3.out 3 [.int .i64 (G.c a + 1)]).away NX4.out HX3.out 4 [(.slice va (yaa (yaa (G.pa a p).made (G.pa b p).made) [(a, G.c a + 1)]).length vc)])
   have S5 : Hid (ygd (((wc.setCell ⟨B1 + 1 + 1 + 1, 2, none⟩ (.int .i64 a)).setCell ⟨B1 + 1 + 1 + 1, 2 + 1, none⟩ (.int .i64 (G.c a + 1))).setCell ⟨B1 + 1 + 1 + 1, 4, none⟩ (.slice va (yaa (yaa (G.pa a p).made (G.pa b p).made) [(a, G.c a + 1)]).length vc)) (B1 + 1 + 1 + 1) ⟨true, (G.pa a p).text, (a, G.c a + 1), (yaa (yaa (G.pa a p).made (G.pa b p).made) [(a, G.c a + 1)]), (yaa (yaa (G.pa a p).heard (G.pa b p).heard) [(a, G.c a + 1)])⟩ (.slice va (yaa (yaa (G.pa a p).made (G.pa b p).made) [(a, G.c a + 1)]).length vc) (.slice ha4 (yaa (yaa (G.pa a p).heard (G.pa b p).heard) [(a, G.c a + 1)]).length hc4)) := ⟨by
    have h2 := heap_setCell_same _ (B1 + 1 + 1 + 1) 2 _ _ (.int .i64 a) SC4.out.blk
    have h3 := heap_setCell_same _ (B1 + 1 + 1 + 1) 3 _ _ (.int .i64 (G.c a + 1)) h2
    have h4 := heap_setCell_same _ (B1 + 1 + 1 + 1) 4 _ _ (.slice va (yaa (yaa (G.pa a p).made (G.pa b p).made) [(a, G.c a + 1)]).length vc) h3
    rw [hx] at h4
    exact h4⟩
   have M5 : Hid (EvL (((wc.setCell ⟨B1 + 1 + 1 + 1, 2, none⟩ (.int .i64 a)).setCell ⟨B1 + 1 + 1 + 1, 2 + 1, none⟩ (.int .i64 (G.c a + 1))).setCell ⟨B1 + 1 + 1 + 1, 4, none⟩ (.slice va (yaa (yaa (G.pa a p).made (G.pa b p).made) [(a, G.c a + 1)]).length vc)) (.slice va (yaa (yaa (G.pa a p).made (G.pa b p).made) [(a, G.c a + 1)]).length vc) (yaa (yaa (G.pa a p).made (G.pa b p).made) [(a, G.c a + 1)])) := (((EM4.out.away RM4.out NX4.out 2 [.int .i64 a]).away RM4.out NX4.out 3 [.int .i64 (G.c a + 1)]).away RM4.out NX4.out 4 [(.slice va (yaa (yaa (G.pa a p).made (G.pa b p).made) [(a, G.c a + 1)]).length vc)])
   have U5 : Hid (EvL (((wc.setCell ⟨B1 + 1 + 1 + 1, 2, none⟩ (.int .i64 a)).setCell ⟨B1 + 1 + 1 + 1, 2 + 1, none⟩ (.int .i64 (G.c a + 1))).setCell ⟨B1 + 1 + 1 + 1, 4, none⟩ (.slice va (yaa (yaa (G.pa a p).made (G.pa b p).made) [(a, G.c a + 1)]).length vc)) (.slice ha4 (yaa (yaa (G.pa a p).heard (G.pa b p).heard) [(a, G.c a + 1)]).length hc4) (yaa (yaa (G.pa a p).heard (G.pa b p).heard) [(a, G.c a + 1)])) := (((EH4.out.away RH4.out NX4.out 2 [.int .i64 a]).away RH4.out NX4.out 3 [.int .i64 (G.c a + 1)]).away RH4.out NX4.out 4 [(.slice va (yaa (yaa (G.pa a p).made (G.pa b p).made) [(a, G.c a + 1)]).length vc)])
   clear q0 s2 s3 s4 y0 y1 f2 f3 f4
   generalize (((wc.setCell ⟨B1 + 1 + 1 + 1, 2, none⟩ (.int .i64 a)).setCell ⟨B1 + 1 + 1 + 1, 2 + 1, none⟩ (.int .i64 (G.c a + 1))).setCell ⟨B1 + 1 + 1 + 1, 4, none⟩ (.slice va (yaa (yaa (G.pa a p).made (G.pa b p).made) [(a, G.c a + 1)]).length vc)) = V5 at *
   obtain ⟨k0, k1, k2, k3, k4, k5⟩ := S5.out.cells
   obtain ⟨sg', sc', g2, gs, lg', ls', _, _, lq'⟩ := K5.out.rowc
   obtain ⟨r0, r1, r2, r3, r4, r5, lr5, rf, _⟩ := K5.out.cells
   have h0' := rf (i * 6)
   have h1 := rf (i * 6 + 1)
   have h2 := rf (i * 6 + 2)
   have h3 := rf (i * 6 + 3)
   have h4 := rf (i * 6 + 4)
   have h5 := rf (i * 6 + 5)
   have lX := S5.out.lt
   have KF := yab (K5.out.all (g' := ⟨true, (G.pa a p).text, (a, G.c a + 1), (yaa (yaa (G.pa a p).made (G.pa b p).made) [(a, G.c a + 1)]), (yaa (yaa (G.pa a p).heard (G.pa b p).heard) [(a, G.c a + 1)])⟩) ⟨M5.out, U5.out⟩ ⟨RM4.out, RH4.out⟩)
   clear rf
   go_region
   all_goals
    clear k0 k1 k2 k3 k4 k5 r0 r1 r2 r3 r4 r5 h0' h1 h2 h3 h4 h5 g2 gs
    go_wp2_with fail
    go_end0
    obtain ⟨D6, P6⟩ := KF.out.gp
    refine ⟨rfl, ρ4, D6, ?_⟩
    have e : rsP (G.pa a p) (G.pa b p) (a, G.c a + 1) false = ⟨true, (G.pa a p).text, (a, G.c a + 1), (yaa (yaa (G.pa a p).made (G.pa b p).made) [(a, G.c a + 1)]), (yaa (yaa (G.pa a p).heard (G.pa b p).heard) [(a, G.c a + 1)])⟩ := by
     unfold rsP
     simp only [hx, if_true, if_false, Bool.false_eq_true]
    rw [e]
    exact P6.drew
end
end Go.Proofs.YtaelaldmibgibaaGreat
