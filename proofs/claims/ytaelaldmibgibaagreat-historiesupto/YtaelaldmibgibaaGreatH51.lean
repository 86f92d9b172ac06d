/- Histories: one step, which the pasts go along with: Resolve; all steps. Over the twin. -/
import Derived.Test.YtaelaldmibgibaaGreatH50

set_option linter.unusedVariables false
set_option linter.unusedSimpArgs false
set_option linter.unusedSectionVars false
set_option maxHeartbeats 4000000
set_option maxRecDepth 100000

namespace Go.Proofs.YtaelaldmibgibaaGreat
open Go.RowKit Go.Sim
open Classical
section
variable {w0 w : World} {nb gb n : Nat} {S : List RS} {G : Gst} {K : Nat → Prop} {M : Nat}
theorem yky (h : Hh w0 w nb gb n S G K M) (hM : M ≤ 300000) (o : OpO) (hk : o.k = 9) (hp : o.p.size ≤ 1000000000000) : ybu w0 w nb gb n M o := by
 unfold ybu OpO.val
 have H1 := yab (h.boxed #[.int .i64 o.k, .int .i64 o.r, .int .i64 o.f, .string o.p, .string o.t, .bool o.th, .slice o.a o.n o.c] 34)
 have O1 : Hid (OpAt (w.alloc (.cells #[.int .i64 o.k, .int .i64 o.r, .int .i64 o.f, .string o.p, .string o.t, .bool o.th, .slice o.a o.n o.c] 34)) w.heap.size o) := ⟨heap_alloc_new _ _⟩
 have CW := yab (hn_resolve H1.out (by omega) o.r o.f o.p hp o.th)
 have GW : Hid (∀ V S1 a b, Hm w0 V nb gb n S1 G (fun k => k = w.heap.size) → a < n → b < n → Calls (twin Tryz.prog pl) 37 #[.pointer (some ⟨gb, 0, none⟩), .int .i64 (a : Nat), .int .i64 (b : Nat), .string o.p, .bool o.th] V fun e w' => e = .returned (.tuple #[]) ∧ Hm w0 w' nb gb n S1 (bump G a o.p (rsP (G.pa a o.p) (G.pa b o.p) (a, G.c a + 1) o.th)) (fun k => k = w.heap.size)) := fun V S1 a b hm ha hb => (hg_resolve H1.out (by omega) hm ha hb o.p o.th).mono (fun e w' q => ⟨q.1, q.2.1⟩)
 obtain ⟨k0, k1, k2, k3, k4, k5⟩ := O1.out.cells
 rw [hk] at H1 O1 CW k0 k1 k2 k3 k4 k5 ⊢
 clear k4 h hp
 go_enter yfv, Tryz.ntmps12
 go_wp2_with (first
  |(go_at_call 27; refine CW.out.mono ?_; rintro e w1 ⟨er, S1, rfl, hm1, kp1, hc⟩; have HM1 := yab hm1; have O2 := yab (O1.out.keep (kp1 _ rfl)); obtain ⟨k0, k1, k2, k3, k4, k5⟩ := O2.out.cells; clear hm1 kp1 k0 k4 CW; rcases hc with ⟨hne, rfl⟩ | ⟨rfl, a, b, ha, hb, hab, hr, hf, hpo, hwr, rfl⟩ <;> first | (rw [hr] at k1; rw [hf] at k2) | (have d0 : (er == 0) = false := (by simpa using hne))))
 ·go_ret
  exact ⟨rfl, S1, G, (H1.out.same HM1.out).less (fun _ q => q.elim)⟩
 ·obtain ⟨HH, hg⟩ := H1.out.hg
  obtain ⟨hd3, hg'⟩ := hg.resolve ha hb hpo hwr
  have hpm : o.p ∈ G.ps := Classical.byContradiction fun hn => by
   have e1 := hg.new a o.p hn
   have e2 := hg.new b o.p hn
   rw [e1, e2] at hd3
   simp [yap, yct] at hd3
  have HG' := yab hg'
  obtain ⟨ma, hha, mb, hhb, _, _, ca, cb, cd⟩ := hg_of HM1.out ha hb hpm
  rw [hd3] at cd
  have CA := yab ca
  have CB := yab cb
  have CD := yab cd
  clear ca cb cd hg hg' hwr hd3
  have lb : w.heap.size < w1.heap.size := by
   rcases Nat.lt_or_ge w.heap.size w1.heap.size with q | q
   ·exact q
   ·have := O2.out.blk
    rw [Array.getElem?_eq_none q] at this
    cases this
  have HF := yab HM1.out.fix
  unfold pV at CA CB CD
  go_cut [12] (fun s12 wx => s12 = .bool true ∧ Hid (Below w1.heap.size w1 wx) ∧ Hid (ybf wx))
  case first =>
   go_region_law (first
    |(go_simp; go_at_call 36; first
      |(have BP : Hid (Below w1.heap.size w1 w1.drew) := (Below.refl _ _).drew; have FP : Hid (ybf w1.drew) := HF.out; (first | ((with_reducible refine (CA.out _ BP.out FP.out).mono ?_); clear CA) | ((with_reducible refine (CB.out _ BP.out FP.out).mono ?_); clear CB)); rintro e wx ⟨rfl, hbx, hfx⟩; have BX := yab hbx; have FX := yab hfx; have x1 := (hbx.cell (p := ⟨w.heap.size, 1, none⟩) lb).trans k1; have x2 := (hbx.cell (p := ⟨w.heap.size, 2, none⟩) lb).trans k2; have x3 := (hbx.cell (p := ⟨w.heap.size, 3, none⟩) lb).trans k3; clear hbx hfx; dsimp only)
      |((first | ((with_reducible refine (CA.out _ BX.out FX.out).mono ?_); clear CA) | ((with_reducible refine (CB.out _ BX.out FX.out).mono ?_); clear CB)); rintro e wy ⟨rfl, hby, hfy⟩; have BY := yab hby; have FY := yab hfy; clear hby hfy; dsimp only))
    |(go_simp; go_at_call 35; refine (CD.out _ BY.out FY.out).mono ?_; rintro e wz ⟨rfl, hbz, hfz⟩; have BZ := yab hbz; have FZ := yab hfz; clear hbz hfz; dsimp only))
   all_goals
    go_wp2_with fail
    go_meet
    exact ⟨rfl, BZ, FZ⟩
  case rest =>
   obtain ⟨rfl, BZ, FZ⟩ := hcut
   have HM2 := yab ((HM1.out.more BZ.out FZ.out).1)
   have GC := yab (GW.out _ _ _ _ HM2.out ha hb)
   have x1 := (BZ.out.cell (p := ⟨w.heap.size, 1, none⟩) lb).trans k1
   have x2 := (BZ.out.cell (p := ⟨w.heap.size, 2, none⟩) lb).trans k2
   have x3 := (BZ.out.cell (p := ⟨w.heap.size, 3, none⟩) lb).trans k3
   have x5 := (BZ.out.cell (p := ⟨w.heap.size, 5, none⟩) lb).trans k5
   clear k1 k2 k3 k5 CA CB CD
   go_wp2_with (go_at_call 37; refine GC.out.mono ?_; rintro e w3 ⟨rfl, hm3⟩; have HM3 := yab hm3; clear hm3)
   go_ret
   exact ⟨rfl, _, _, (H1.out.bumped HM3.out HG'.out).less (fun _ q => q.elim)⟩
theorem ykx (h : Hh w0 w nb gb n S G K M) (hM : M ≤ 300000) (o : OpO) (hp : o.p.size ≤ 1000000000000) (ht : o.t.size ≤ 1000000000000) : ybu w0 w nb gb n M o := by
 by_cases h1 : o.k = 1
 ·exact ynx h hM o h1 hp ht
 by_cases h2 : o.k = 2
 ·exact ymi h hM o h2 hp
 by_cases h7 : o.k = 7
 ·exact ypp h hM o h7 hp
 by_cases h9 : o.k = 9
 ·exact yky h hM o h9 hp
 by_cases h8 : o.k = 8
 ·exact ypq h hM o h8
 exact ypo h o h1 h2 h7 h9 h8
end
end Go.Proofs.YtaelaldmibgibaaGreat
