/- Histories: Write of the pasts, of a file that is not there. (Written by genghk.py.) Histories: Write of the pasts, of a file that is there. (Written by genghk.py.) Histories: Remove of the pasts. -/
import Derived.Test.YtaelaldmibgibaaGreatH28
import Derived.Deep.RegionLaw
import Derived.Deep.DeepCutAuto

set_option linter.unusedVariables false
set_option linter.unusedSimpArgs false
set_option linter.unusedSectionVars false
set_option maxHeartbeats 4000000
set_option maxRecDepth 100000

namespace Go.Proofs.YtaelaldmibgibaaGreat
open Go.RowKit
open Classical
section
variable {z : Nat} {w : World} {gb n : Nat} {ρ : Nat → Nat} {G : Gst} {D : GD}
theorem gWrite_new (h : Gh z w gb n ρ G D (fun _ => G.ps)) (hzw : z ≤ w.heap.size) {r : Nat} (hr : r < n) (p t : ByteArray) (h0 : p ∉ G.ps → ∀ r, G.pa r p = yct) (hl : G.ps.length ≤ 100000000) (hnd : G.ps.Nodup) (hc : 0 ≤ G.c r ∧ G.c r ≤ 1000000000000) (hlm : (G.pa r p).made.length ≤ 100000000) (hle : (G.pa r p).heard.length ≤ 100000000) (hth : (G.pa r p).there = false) :
  Calls Tryz.prog 11 #[.pointer (some ⟨gb, 0, none⟩), .int .i64 r, .string p, .string t] w fun e w' => e = .returned (.tuple #[]) ∧ ∃ ρ' D', Gp z w w' gb n ρ ⟨fun i => if i = r then G.c r + 1 else G.c i, yan p G.ps, ybn G.pa r p (wrP (G.pa r p) (r, G.c r + 1) t)⟩ D' (fun _ => yan p G.ps) ρ' := by
 have CP := yab (ybg h hzw p h0 hl)
 have n6 := h.n6
 have HND := yab (yaw (p := p) hnd)
 have HTH := yab hth
 have HLM := yab hlm
 have HLE := yab hle
 clear h hlm hle
 go_enter Tryz.func11, Tryz.ntmps11
 go_wp2_with (go_at_call 31; refine CP.out.mono ?_; rintro e w1 ⟨⟨i, rfl, hi⟩, ρ1, D1, hP⟩; have P1 := yab hP; have HI := yab hi; obtain ⟨cg, cc, ec, lc, rc2, hcs, fc⟩ := hP.gh.count; have c0 := hP.gh.c0; rw [ec] at c0; have cr := hcs r hr; have fcr := fc r; obtain ⟨sg, sc, rg, rc, es, er, g2, gs, k0, k1, k2, k3, k4, k5, ls, lr, rs4, rr6, fr, lq, lm⟩ := hP.gh.six hr hi; have lg := hP.gh.glt; have rb := hP.gh.rb; have ne1 : gb ≠ cg := (fun e => by rw [e, rc2] at rb; omega); have ne2 : sg ≠ cg := (fun e => by rw [e, rc2] at rs4; omega); have ne3 : rg ≠ cg := (fun e => by rw [e, rc2] at rr6; omega); have ne4 : sg ≠ rg := (fun e => by rw [e, rr6] at rs4; omega); have ne5 : gb ≠ rg := (fun e => by rw [e, rr6] at rb; omega); clear rb; simp only at k0 k1 k2 k3 k4 k5 cr; rw [hth] at k0; have EC := yab ec; have ER := yab er; clear hP hi ec es er rs4 rr6 hcs fc rc2)
 have K1 := yab ((((((Gw.start (P1.out.recount hr EC.out (G.c r + 1)) HND.out hr HI.out ER.out).there true).birth (r, G.c r + 1)).unmade).text t).alloc (Obj.cells #[Value.int IntKind.i64 r, Value.int IntKind.i64 (G.c r + 1)] 82))
 have EB := yab (heap_alloc_new ((((((w1.setCell ⟨cg, r, none⟩ (Value.int IntKind.i64 (G.c r + 1))).setCell ⟨rg, i * 6, none⟩ (Value.bool true)).setCell ⟨rg, i * 6 + 2, none⟩ (Value.int IntKind.i64 r)).setCell ⟨rg, i * 6 + 2 + 1, none⟩ (Value.int IntKind.i64 (G.c r + 1))).setCell ⟨rg, i * 6 + 4, none⟩ (Value.slice none 0 0)).setCell ⟨rg, i * 6 + 1, none⟩ (Value.string t)) (Obj.cells #[Value.int IntKind.i64 r, Value.int IntKind.i64 (G.c r + 1)] 82))
 have HZ : Hid (z ≤ (((((((w1.setCell ⟨cg, r, none⟩ (Value.int IntKind.i64 (G.c r + 1))).setCell ⟨rg, i * 6, none⟩ (Value.bool true)).setCell ⟨rg, i * 6 + 2, none⟩ (Value.int IntKind.i64 r)).setCell ⟨rg, i * 6 + 2 + 1, none⟩ (Value.int IntKind.i64 (G.c r + 1))).setCell ⟨rg, i * 6 + 4, none⟩ (Value.slice none 0 0)).setCell ⟨rg, i * 6 + 1, none⟩ (Value.string t)).alloc (Obj.cells #[Value.int IntKind.i64 r, Value.int IntKind.i64 (G.c r + 1)] 82)).heap.size) := by
  have := P1.out.fr.size
  show z ≤ _
  simp
  omega
 have RB : Hid (ρ1 w1.heap.size = 0) := by
  show _ = _
  rcases Nat.eq_zero_or_pos (ρ1 w1.heap.size) with y | y
  ·exact y
  ·have := P1.out.gh.lt w1.heap.size (by omega); omega
 simp only [ybz] at EB
 generalize hW : ((((((w1.setCell ⟨cg, r, none⟩ (Value.int IntKind.i64 (G.c r + 1))).setCell ⟨rg, i * 6, none⟩ (Value.bool true)).setCell ⟨rg, i * 6 + 2, none⟩ (Value.int IntKind.i64 r)).setCell ⟨rg, i * 6 + 2 + 1, none⟩ (Value.int IntKind.i64 (G.c r + 1))).setCell ⟨rg, i * 6 + 4, none⟩ (Value.slice none 0 0)).setCell ⟨rg, i * 6 + 1, none⟩ (Value.string t)).alloc (Obj.cells #[Value.int IntKind.i64 r, Value.int IntKind.i64 (G.c r + 1)] 82) = W at *
 clear hW k0 k1 k2 k3 k4 k5 c0 cr fcr g2 gs fr lr ne1 ne2 ne3 ne4 ne5 ls lc lg EC ER P1 CP hth
 generalize w1.heap.size = B at *
 obtain ⟨k0, k1, k2, k3, k4, k5, lr, fr, r6⟩ := K1.out.cells
 have b0 : W.cell? ⟨B, 0, none⟩ = some (.int .i64 r) := by simp [World.cell?, EB.out]
 have b1 : W.cell? ⟨B, 1, none⟩ = some (.int .i64 (G.c r + 1)) := by simp [World.cell?, EB.out]
 have lB : B < W.heap.size := World.block_lt_of_cell? W ⟨B, 0, none⟩ b0
 have f4 := fr (i * 6 + 4)
 have nB : Hid (B ≠ rg) := fun e => by have := RB.out; rw [e, r6] at this; omega
 clear k0 k1 k2 k3 k5 fr r6
 have EL := yab K1.out.ev.1.1
 obtain ⟨am, cm, em⟩ := EL.out.slice
 simp only at em EL
 rw [em] at EL k4
 go_cut [] (fun wx => ∃ ρ2 v2, Hid (Gw z w wx gb n ρ ρ2 (fun i => if i = r then G.c r + 1 else G.c i) (yan p G.ps) G.pa r p i rg rc ⟨true, t, (r, G.c r + 1), (yaa [] [(r, G.c r + 1)]), (G.pa r p).heard⟩ v2 (D1.hv r p)) ∧ Hid (wx.heap[B]? = some (Obj.cells #[Value.int IntKind.i64 r, Value.int IntKind.i64 (G.c r + 1)] 82 (0, 0))) ∧ Hid (ρ2 B = 0) ∧ Hid (z ≤ wx.heap.size))
 case first =>
  have HU : Hid (∀ V m l, EvL V m l → l.length ≤ 100000000 → V.heap[W.heap.size]? = some (.cells #[.int .i64 r, .int .i64 (G.c r + 1)] 82 (0, 0)) → Calls Tryz.prog 32 #[m, .slice (some ⟨W.heap.size, 0, none⟩) 1 1] V fun e w' => ∃ u, e = .returned u ∧ w'.ownsRow V.heap.size 82 2 u (yaa l [(r, G.c r + 1)]).length (evs (yaa l [(r, G.c r + 1)])) ∧ Below V.heap.size V w') := fun V m l h1 h2 h3 => ybr h1 (by omega) h3
  go_region_law (first
   |(go_simp; go_at_call 32; refine (HU.out _ _ [] (by exact EL.out.below (((Below.refl _ _).alloc (Nat.le_refl _) _).drew)) (by first | exact HLM.out | simp) (by exact heap_alloc_new W _)).mono ?_; rintro e wx ⟨u, rfl, hox, hbx⟩; obtain ⟨ua, uc, rfl⟩ := yam hox; have OX : Hid (wx.ownsRow W.heap.size 82 2 (.slice ua (yaa [] [(r, G.c r + 1)]).length uc) (yaa [] [(r, G.c r + 1)]).length (evs (yaa [] [(r, G.c r + 1)]))) := yaq hox (fun k e => by have := (World.ownsRow.lt hox k e).1; simp [World.drew] at this; omega); have BX : Hid (Below W.heap.size W wx) := (((Below.refl _ _).alloc (Nat.le_refl _) _).drew).trans (hbx.mono (by simp [World.drew])); clear hox hbx; have x4 := (BX.out.cell (p := ⟨rg, i * 6 + 4, none⟩) lr).trans k4; have xf := (BX.out.frozen (p := ⟨rg, i * 6 + 4, none⟩) lr).trans f4; dsimp only))
  all_goals
   obtain ⟨ρ2, K2, hv2, ro2, hr2⟩ := K1.out.fresh HZ.out BX.out OX.out
   have K3 := yab (K2.made hv2 ro2)
   have EB3 : Hid ((wx.setCell ⟨rg, i * 6 + 4, none⟩ (.slice ua (yaa [] [(r, G.c r + 1)]).length uc)).heap[B]? = some (Obj.cells #[Value.int IntKind.i64 r, Value.int IntKind.i64 (G.c r + 1)] 82 (0, 0))) := ((Below.heap_setCell _ _ _ _ nB.out).trans (BX.out.block B lB)).trans EB.out
   have RB3 := yab (hr2 B RB.out lB)
   have HZ3 : Hid (z ≤ (wx.setCell ⟨rg, i * 6 + 4, none⟩ (.slice ua (yaa [] [(r, G.c r + 1)]).length uc)).heap.size) := by show z ≤ _; rw [ybz]; exact Nat.le_trans HZ.out BX.out.size
   clear K2 hv2 ro2 hr2 OX BX x4 xf k4 f4 b0 b1
   go_wp2_with fail
   go_meet
   exact ⟨ρ2, _, K3, EB3, RB3, HZ3⟩
 case rest =>
  obtain ⟨ρ2, v2, K2, EB2, RB2, HZ2⟩ := hcut
  clear K1 EB RB HZ EL em k4 f4 lr lB b0 b1 nB
  obtain ⟨k0, k1, k2, k3, k4, k5, lr, fr, r6⟩ := K2.out.cells
  have b0 : wc.cell? ⟨B, 0, none⟩ = some (.int .i64 r) := by simp [World.cell?, EB2.out]
  have b1 : wc.cell? ⟨B, 1, none⟩ = some (.int .i64 (G.c r + 1)) := by simp [World.cell?, EB2.out]
  have f4 := fr (i * 6 + 5)
  clear k0 k1 k2 k3 k4 fr r6
  have EL := yab K2.out.ev.1.2
  obtain ⟨am, cm, em⟩ := EL.out.slice
  simp only at em EL
  rw [em] at EL k5
  have HU : Hid (∀ V m l, EvL V m l → l.length ≤ 100000000 → V.heap[wc.heap.size]? = some (.cells #[.int .i64 r, .int .i64 (G.c r + 1)] 82 (0, 0)) → Calls Tryz.prog 32 #[m, .slice (some ⟨wc.heap.size, 0, none⟩) 1 1] V fun e w' => ∃ u, e = .returned u ∧ w'.ownsRow V.heap.size 82 2 u (yaa l [(r, G.c r + 1)]).length (evs (yaa l [(r, G.c r + 1)])) ∧ Below V.heap.size V w') := fun V m l h1 h2 h3 => ybr h1 (by omega) h3
  go_wp2_with fail
  go_region_law (first
   |(go_simp; go_at_call 32; refine (HU.out _ _ (G.pa r p).heard (by exact EL.out.below (((Below.refl _ _).alloc (Nat.le_refl _) _).drew)) HLE.out (by exact heap_alloc_new wc _)).mono ?_; rintro e wx ⟨u, rfl, hox, hbx⟩; obtain ⟨ua, uc, rfl⟩ := yam hox; have OX : Hid (wx.ownsRow wc.heap.size 82 2 (.slice ua (yaa (G.pa r p).heard [(r, G.c r + 1)]).length uc) (yaa (G.pa r p).heard [(r, G.c r + 1)]).length (evs (yaa (G.pa r p).heard [(r, G.c r + 1)]))) := yaq hox (fun k e => by have := (World.ownsRow.lt hox k e).1; simp [World.drew] at this; omega); have BX : Hid (Below wc.heap.size wc wx) := (((Below.refl _ _).alloc (Nat.le_refl _) _).drew).trans (hbx.mono (by simp [World.drew])); clear hox hbx; have x4 := (BX.out.cell (p := ⟨rg, i * 6 + 5, none⟩) lr).trans k5; have xf := (BX.out.frozen (p := ⟨rg, i * 6 + 5, none⟩) lr).trans f4; dsimp only))
  all_goals
   obtain ⟨ρ3, K3, hv3, ro3, hr3⟩ := K2.out.fresh HZ2.out BX.out OX.out
   have K4 := yab (K3.heard hv3 ro3)
   clear K3 hv3 ro3 hr3 OX BX x4 xf k5 f4 b0 b1
   go_wp2_with fail
   go_end0
   obtain ⟨D4, P4⟩ := K4.out.gp
   refine ⟨rfl, ρ3, D4, ?_⟩
   have e : wrP (G.pa r p) (r, G.c r + 1) t = ⟨true, t, (r, G.c r + 1), (yaa [] [(r, G.c r + 1)]), yaa (G.pa r p).heard [(r, G.c r + 1)]⟩ := by
    unfold wrP
    rw [HTH.out]
    rfl
   rw [e]
   exact P4
end
end Go.Proofs.YtaelaldmibgibaaGreat

namespace Go.Proofs.YtaelaldmibgibaaGreat
open Go.RowKit
open Classical
section
variable {z : Nat} {w : World} {gb n : Nat} {ρ : Nat → Nat} {G : Gst} {D : GD}
theorem gWrite_old (h : Gh z w gb n ρ G D (fun _ => G.ps)) (hzw : z ≤ w.heap.size) {r : Nat} (hr : r < n) (p t : ByteArray) (h0 : p ∉ G.ps → ∀ r, G.pa r p = yct) (hl : G.ps.length ≤ 100000000) (hnd : G.ps.Nodup) (hc : 0 ≤ G.c r ∧ G.c r ≤ 1000000000000) (hlm : (G.pa r p).made.length ≤ 100000000) (hle : (G.pa r p).heard.length ≤ 100000000) (hth : (G.pa r p).there = true) :
  Calls Tryz.prog 11 #[.pointer (some ⟨gb, 0, none⟩), .int .i64 r, .string p, .string t] w fun e w' => e = .returned (.tuple #[]) ∧ ∃ ρ' D', Gp z w w' gb n ρ ⟨fun i => if i = r then G.c r + 1 else G.c i, yan p G.ps, ybn G.pa r p (wrP (G.pa r p) (r, G.c r + 1) t)⟩ D' (fun _ => yan p G.ps) ρ' := by
 have CP := yab (ybg h hzw p h0 hl)
 have n6 := h.n6
 have HND := yab (yaw (p := p) hnd)
 have HTH := yab hth
 have HLM := yab hlm
 have HLE := yab hle
 clear h hlm hle
 go_enter Tryz.func11, Tryz.ntmps11
 go_wp2_with (go_at_call 31; refine CP.out.mono ?_; rintro e w1 ⟨⟨i, rfl, hi⟩, ρ1, D1, hP⟩; have P1 := yab hP; have HI := yab hi; obtain ⟨cg, cc, ec, lc, rc2, hcs, fc⟩ := hP.gh.count; have c0 := hP.gh.c0; rw [ec] at c0; have cr := hcs r hr; have fcr := fc r; obtain ⟨sg, sc, rg, rc, es, er, g2, gs, k0, k1, k2, k3, k4, k5, ls, lr, rs4, rr6, fr, lq, lm⟩ := hP.gh.six hr hi; have lg := hP.gh.glt; have rb := hP.gh.rb; have ne1 : gb ≠ cg := (fun e => by rw [e, rc2] at rb; omega); have ne2 : sg ≠ cg := (fun e => by rw [e, rc2] at rs4; omega); have ne3 : rg ≠ cg := (fun e => by rw [e, rc2] at rr6; omega); have ne4 : sg ≠ rg := (fun e => by rw [e, rr6] at rs4; omega); have ne5 : gb ≠ rg := (fun e => by rw [e, rr6] at rb; omega); clear rb; simp only at k0 k1 k2 k3 k4 k5 cr; rw [hth] at k0; have EC := yab ec; have ER := yab er; clear hP hi ec es er rs4 rr6 hcs fc rc2)
 have K1 := yab (((Gw.start (P1.out.recount hr EC.out (G.c r + 1)) HND.out hr HI.out ER.out).text t).alloc (Obj.cells #[Value.int IntKind.i64 r, Value.int IntKind.i64 (G.c r + 1)] 82))
 have EB := yab (heap_alloc_new ((w1.setCell ⟨cg, r, none⟩ (Value.int IntKind.i64 (G.c r + 1))).setCell ⟨rg, i * 6 + 1, none⟩ (Value.string t)) (Obj.cells #[Value.int IntKind.i64 r, Value.int IntKind.i64 (G.c r + 1)] 82))
 have HZ : Hid (z ≤ (((w1.setCell ⟨cg, r, none⟩ (Value.int IntKind.i64 (G.c r + 1))).setCell ⟨rg, i * 6 + 1, none⟩ (Value.string t)).alloc (Obj.cells #[Value.int IntKind.i64 r, Value.int IntKind.i64 (G.c r + 1)] 82)).heap.size) := by
  have := P1.out.fr.size
  show z ≤ _
  simp
  omega
 have RB : Hid (ρ1 w1.heap.size = 0) := by
  show _ = _
  rcases Nat.eq_zero_or_pos (ρ1 w1.heap.size) with y | y
  ·exact y
  ·have := P1.out.gh.lt w1.heap.size (by omega); omega
 simp only [ybz] at EB
 generalize hW : ((w1.setCell ⟨cg, r, none⟩ (Value.int IntKind.i64 (G.c r + 1))).setCell ⟨rg, i * 6 + 1, none⟩ (Value.string t)).alloc (Obj.cells #[Value.int IntKind.i64 r, Value.int IntKind.i64 (G.c r + 1)] 82) = W at *
 clear hW k0 k1 k2 k3 k4 k5 c0 cr fcr g2 gs fr lr ne1 ne2 ne3 ne4 ne5 ls lc lg EC ER P1 CP hth
 generalize w1.heap.size = B at *
 obtain ⟨k0, k1, k2, k3, k4, k5, lr, fr, r6⟩ := K1.out.cells
 have b0 : W.cell? ⟨B, 0, none⟩ = some (.int .i64 r) := by simp [World.cell?, EB.out]
 have b1 : W.cell? ⟨B, 1, none⟩ = some (.int .i64 (G.c r + 1)) := by simp [World.cell?, EB.out]
 have lB : B < W.heap.size := World.block_lt_of_cell? W ⟨B, 0, none⟩ b0
 have f4 := fr (i * 6 + 4)
 have nB : Hid (B ≠ rg) := fun e => by have := RB.out; rw [e, r6] at this; omega
 clear k0 k1 k2 k3 k5 fr r6
 have EL := yab K1.out.ev.1.1
 obtain ⟨am, cm, em⟩ := EL.out.slice
 simp only at em EL
 rw [em] at EL k4
 go_cut [] (fun wx => ∃ ρ2 v2, Hid (Gw z w wx gb n ρ ρ2 (fun i => if i = r then G.c r + 1 else G.c i) (yan p G.ps) G.pa r p i rg rc ⟨(G.pa r p).there, t, (G.pa r p).birth, (yaa (G.pa r p).made [(r, G.c r + 1)]), (G.pa r p).heard⟩ v2 (D1.hv r p)) ∧ Hid (wx.heap[B]? = some (Obj.cells #[Value.int IntKind.i64 r, Value.int IntKind.i64 (G.c r + 1)] 82 (0, 0))) ∧ Hid (ρ2 B = 0) ∧ Hid (z ≤ wx.heap.size))
 case first =>
  have HU : Hid (∀ V m l, EvL V m l → l.length ≤ 100000000 → V.heap[W.heap.size]? = some (.cells #[.int .i64 r, .int .i64 (G.c r + 1)] 82 (0, 0)) → Calls Tryz.prog 32 #[m, .slice (some ⟨W.heap.size, 0, none⟩) 1 1] V fun e w' => ∃ u, e = .returned u ∧ w'.ownsRow V.heap.size 82 2 u (yaa l [(r, G.c r + 1)]).length (evs (yaa l [(r, G.c r + 1)])) ∧ Below V.heap.size V w') := fun V m l h1 h2 h3 => ybr h1 (by omega) h3
  go_region_law (first
   |(go_simp; go_at_call 32; refine (HU.out _ _ (G.pa r p).made (by exact EL.out.below (((Below.refl _ _).alloc (Nat.le_refl _) _).drew)) (by first | exact HLM.out | simp) (by exact heap_alloc_new W _)).mono ?_; rintro e wx ⟨u, rfl, hox, hbx⟩; obtain ⟨ua, uc, rfl⟩ := yam hox; have OX : Hid (wx.ownsRow W.heap.size 82 2 (.slice ua (yaa (G.pa r p).made [(r, G.c r + 1)]).length uc) (yaa (G.pa r p).made [(r, G.c r + 1)]).length (evs (yaa (G.pa r p).made [(r, G.c r + 1)]))) := yaq hox (fun k e => by have := (World.ownsRow.lt hox k e).1; simp [World.drew] at this; omega); have BX : Hid (Below W.heap.size W wx) := (((Below.refl _ _).alloc (Nat.le_refl _) _).drew).trans (hbx.mono (by simp [World.drew])); clear hox hbx; have x4 := (BX.out.cell (p := ⟨rg, i * 6 + 4, none⟩) lr).trans k4; have xf := (BX.out.frozen (p := ⟨rg, i * 6 + 4, none⟩) lr).trans f4; dsimp only))
  all_goals
   obtain ⟨ρ2, K2, hv2, ro2, hr2⟩ := K1.out.fresh HZ.out BX.out OX.out
   have K3 := yab (K2.made hv2 ro2)
   have EB3 : Hid ((wx.setCell ⟨rg, i * 6 + 4, none⟩ (.slice ua (yaa (G.pa r p).made [(r, G.c r + 1)]).length uc)).heap[B]? = some (Obj.cells #[Value.int IntKind.i64 r, Value.int IntKind.i64 (G.c r + 1)] 82 (0, 0))) := ((Below.heap_setCell _ _ _ _ nB.out).trans (BX.out.block B lB)).trans EB.out
   have RB3 := yab (hr2 B RB.out lB)
   have HZ3 : Hid (z ≤ (wx.setCell ⟨rg, i * 6 + 4, none⟩ (.slice ua (yaa (G.pa r p).made [(r, G.c r + 1)]).length uc)).heap.size) := by show z ≤ _; rw [ybz]; exact Nat.le_trans HZ.out BX.out.size
   clear K2 hv2 ro2 hr2 OX BX x4 xf k4 f4 b0 b1
   go_wp2_with fail
   go_meet
   exact ⟨ρ2, _, K3, EB3, RB3, HZ3⟩
 case rest =>
  obtain ⟨ρ2, v2, K2, EB2, RB2, HZ2⟩ := hcut
  clear K1 EB RB HZ EL em k4 f4 lr lB b0 b1 nB
  obtain ⟨k0, k1, k2, k3, k4, k5, lr, fr, r6⟩ := K2.out.cells
  have b0 : wc.cell? ⟨B, 0, none⟩ = some (.int .i64 r) := by simp [World.cell?, EB2.out]
  have b1 : wc.cell? ⟨B, 1, none⟩ = some (.int .i64 (G.c r + 1)) := by simp [World.cell?, EB2.out]
  have f4 := fr (i * 6 + 5)
  clear k0 k1 k2 k3 k4 fr r6
  have EL := yab K2.out.ev.1.2
  obtain ⟨am, cm, em⟩ := EL.out.slice
  simp only at em EL
  rw [em] at EL k5
  have HU : Hid (∀ V m l, EvL V m l → l.length ≤ 100000000 → V.heap[wc.heap.size]? = some (.cells #[.int .i64 r, .int .i64 (G.c r + 1)] 82 (0, 0)) → Calls Tryz.prog 32 #[m, .slice (some ⟨wc.heap.size, 0, none⟩) 1 1] V fun e w' => ∃ u, e = .returned u ∧ w'.ownsRow V.heap.size 82 2 u (yaa l [(r, G.c r + 1)]).length (evs (yaa l [(r, G.c r + 1)])) ∧ Below V.heap.size V w') := fun V m l h1 h2 h3 => ybr h1 (by omega) h3
  go_wp2_with fail
  go_region_law (first
   |(go_simp; go_at_call 32; refine (HU.out _ _ (G.pa r p).heard (by exact EL.out.below (((Below.refl _ _).alloc (Nat.le_refl _) _).drew)) HLE.out (by exact heap_alloc_new wc _)).mono ?_; rintro e wx ⟨u, rfl, hox, hbx⟩; obtain ⟨ua, uc, rfl⟩ := yam hox; have OX : Hid (wx.ownsRow wc.heap.size 82 2 (.slice ua (yaa (G.pa r p).heard [(r, G.c r + 1)]).length uc) (yaa (G.pa r p).heard [(r, G.c r + 1)]).length (evs (yaa (G.pa r p).heard [(r, G.c r + 1)]))) := yaq hox (fun k e => by have := (World.ownsRow.lt hox k e).1; simp [World.drew] at this; omega); have BX : Hid (Below wc.heap.size wc wx) := (((Below.refl _ _).alloc (Nat.le_refl _) _).drew).trans (hbx.mono (by simp [World.drew])); clear hox hbx; have x4 := (BX.out.cell (p := ⟨rg, i * 6 + 5, none⟩) lr).trans k5; have xf := (BX.out.frozen (p := ⟨rg, i * 6 + 5, none⟩) lr).trans f4; dsimp only))
  all_goals
   obtain ⟨ρ3, K3, hv3, ro3, hr3⟩ := K2.out.fresh HZ2.out BX.out OX.out
   have K4 := yab (K3.heard hv3 ro3)
   clear K3 hv3 ro3 hr3 OX BX x4 xf k5 f4 b0 b1
   go_wp2_with fail
   go_end0
   obtain ⟨D4, P4⟩ := K4.out.gp
   refine ⟨rfl, ρ3, D4, ?_⟩
   have e : wrP (G.pa r p) (r, G.c r + 1) t = ⟨(G.pa r p).there, t, (G.pa r p).birth, (yaa (G.pa r p).made [(r, G.c r + 1)]), yaa (G.pa r p).heard [(r, G.c r + 1)]⟩ := by
    unfold wrP
    rw [HTH.out]
    rfl
   rw [e]
   exact P4
end
end Go.Proofs.YtaelaldmibgibaaGreat

namespace Go.Proofs.YtaelaldmibgibaaGreat
open Go.RowKit
open Classical
section
variable {z : Nat} {w : World} {gb n : Nat} {ρ : Nat → Nat} {G : Gst} {D : GD}
theorem yry (h : Gh z w gb n ρ G D (fun _ => G.ps)) (hzw : z ≤ w.heap.size) {r : Nat} (hr : r < n) (p : ByteArray) (h0 : p ∉ G.ps → ∀ r, G.pa r p = yct) (hl : G.ps.length ≤ 100000000) (hnd : G.ps.Nodup) (hc : 0 ≤ G.c r ∧ G.c r ≤ 1000000000000) (hle : (G.pa r p).heard.length ≤ 100000000) :
  Calls Tryz.prog 33 #[.pointer (some ⟨gb, 0, none⟩), .int .i64 r, .string p] w fun e w' => e = .returned (.tuple #[]) ∧ ∃ ρ' D', Gp z w w' gb n ρ ⟨fun i => if i = r then G.c r + 1 else G.c i, yan p G.ps, ybn G.pa r p (rmP (G.pa r p) (r, G.c r + 1))⟩ D' (fun _ => yan p G.ps) ρ' := by
 have CP := yab (ybg h hzw p h0 hl)
 have n6 := h.n6
 have HND := yab (yaw (p := p) hnd)
 have HLE := yab hle
 clear h hle
 go_enter Tryz.func33, Tryz.ntmps33
 go_wp2_with (go_at_call 31; refine CP.out.mono ?_; rintro e w1 ⟨⟨i, rfl, hi⟩, ρ1, D1, hP⟩; have P1 := yab hP; have HI := yab hi; obtain ⟨cg, cc, ec, lc, rc2, hcs, fc⟩ := hP.gh.count; have c0 := hP.gh.c0; rw [ec] at c0; have cr := hcs r hr; have fcr := fc r; obtain ⟨sg, sc, rg, rc, es, er, g2, gs, k0, k1, k2, k3, k4, k5, ls, lr, rs4, rr6, fr, lq, lm⟩ := hP.gh.six hr hi; have lg := hP.gh.glt; have rb := hP.gh.rb; have ne1 : gb ≠ cg := (fun e => by rw [e, rc2] at rb; omega); have ne2 : sg ≠ cg := (fun e => by rw [e, rc2] at rs4; omega); have ne3 : rg ≠ cg := (fun e => by rw [e, rc2] at rr6; omega); have ne4 : sg ≠ rg := (fun e => by rw [e, rr6] at rs4; omega); have ne5 : gb ≠ rg := (fun e => by rw [e, rr6] at rb; omega); clear rb; simp only at k0 k1 k2 k3 k4 k5 cr; have EC := yab ec; have ER := yab er; clear hP hi ec es er rs4 rr6 hcs fc rc2)
 have K1 := yab ((((Gw.start (P1.out.recount hr EC.out (G.c r + 1)) HND.out hr HI.out ER.out).there false).text ⟨#[]⟩).unmade)
 have HZ : Hid (z ≤ ((((w1.setCell ⟨cg, r, none⟩ (Value.int IntKind.i64 (G.c r + 1))).setCell ⟨rg, i * 6, none⟩ (Value.bool false)).setCell ⟨rg, i * 6 + 1, none⟩ (Value.string ⟨#[]⟩)).setCell ⟨rg, i * 6 + 4, none⟩ (Value.slice none 0 0)).heap.size) := by
  have := P1.out.fr.size
  show z ≤ _
  simp only [ybz]
  omega
 generalize hW : ((((w1.setCell ⟨cg, r, none⟩ (Value.int IntKind.i64 (G.c r + 1))).setCell ⟨rg, i * 6, none⟩ (Value.bool false)).setCell ⟨rg, i * 6 + 1, none⟩ (Value.string ⟨#[]⟩)).setCell ⟨rg, i * 6 + 4, none⟩ (Value.slice none 0 0)) = W at *
 clear hW k0 k1 k2 k3 k4 k5 c0 cr fcr g2 gs fr lr ne1 ne2 ne3 ne4 ne5 ls lc lg EC ER P1 CP
 obtain ⟨k0, k1, k2, k3, k4, k5, lr, fr, r6⟩ := K1.out.cells
 have f4 := fr (i * 6 + 5)
 obtain ⟨cg', cc', c0, cr, lg, lc, _, _⟩ := K1.out.cnt
 rw [if_pos rfl] at cr
 clear k0 k1 k2 k3 k4 fr r6
 have EL := yab K1.out.ev.1.2
 obtain ⟨am, cm, em⟩ := EL.out.slice
 simp only at em EL
 rw [em] at EL k5
 have HU : Hid (∀ V m l, EvL V m l → l.length ≤ 100000000 → V.heap[W.heap.size]? = some (.cells #[.int .i64 r, .int .i64 (G.c r + 1)] 82 (0, 0)) → Calls Tryz.prog 32 #[m, .slice (some ⟨W.heap.size, 0, none⟩) 1 1] V fun e w' => ∃ u, e = .returned u ∧ w'.ownsRow V.heap.size 82 2 u (yaa l [(r, G.c r + 1)]).length (evs (yaa l [(r, G.c r + 1)])) ∧ Below V.heap.size V w') := fun V m l h1 h2 h3 => ybr h1 (by omega) h3
 go_region_law (first
  |(go_simp; go_at_call 32; refine (HU.out _ _ (G.pa r p).heard (by exact EL.out.below (((Below.refl _ _).alloc (Nat.le_refl _) _).drew)) HLE.out (by exact heap_alloc_new W _)).mono ?_; rintro e wx ⟨u, rfl, hox, hbx⟩; obtain ⟨ua, uc, rfl⟩ := yam hox; have OX : Hid (wx.ownsRow W.heap.size 82 2 (.slice ua (yaa (G.pa r p).heard [(r, G.c r + 1)]).length uc) (yaa (G.pa r p).heard [(r, G.c r + 1)]).length (evs (yaa (G.pa r p).heard [(r, G.c r + 1)]))) := yaq hox (fun k e => by have := (World.ownsRow.lt hox k e).1; simp [World.drew] at this; omega); have BX : Hid (Below W.heap.size W wx) := (((Below.refl _ _).alloc (Nat.le_refl _) _).drew).trans (hbx.mono (by simp [World.drew])); clear hox hbx; have x4 := (BX.out.cell (p := ⟨rg, i * 6 + 5, none⟩) lr).trans k5; have xf := (BX.out.frozen (p := ⟨rg, i * 6 + 5, none⟩) lr).trans f4; dsimp only))
 all_goals
  obtain ⟨ρ3, K3, hv3, ro3, hr3⟩ := K1.out.fresh HZ.out BX.out OX.out
  have K4 := yab (K3.heard hv3 ro3)
  clear K3 hv3 ro3 hr3 OX BX x4 xf k5 f4
  go_wp2_with fail
  go_end0
  obtain ⟨D4, P4⟩ := K4.out.gp
  exact ⟨rfl, ρ3, D4, P4⟩
end
end Go.Proofs.YtaelaldmibgibaaGreat
