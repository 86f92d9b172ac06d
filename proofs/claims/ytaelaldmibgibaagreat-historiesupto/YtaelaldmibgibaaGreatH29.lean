/- Histories: Pull of the pasts: nothing is done. (Written by genghn.py.) Histories: Pull of the pasts: copied, removed. (Written by genghn.py.) Histories: Pull of the pasts: nothing is done, but heard of. (Written by genghn.py.) Histories: Pull of the pasts. -/
import Derived.Test.YtaelaldmibgibaaGreatH28
import Derived.Deep.RegionLaw

set_option linter.unusedVariables false
set_option linter.unusedSimpArgs false
set_option linter.unusedSectionVars false
set_option maxHeartbeats 4000000
set_option maxRecDepth 100000

namespace Go.Proofs.YtaelaldmibgibaaGreat
open Go.RowKit
open Classical
section
variable {z : Nat} {w : World} {gb n : Nat} {ρ : Nat → Nat} {G : Gst} {D : GD}
theorem gPull_TT3 (h : Gh z w gb n ρ G D (fun _ => G.ps)) (hzw : z ≤ w.heap.size) {a b : Nat} (ha : a < n) (hb : b < n) (p : ByteArray) (h0 : p ∉ G.ps → ∀ r, G.pa r p = yct) (hl : G.ps.length ≤ 100000000) (hnd : G.ps.Nodup) (hle : (G.pa a p).heard.length + (G.pa b p).heard.length ≤ 100000000) (ft : (G.pa a p).there = true) (ff : (G.pa b p).there = true) (hd : yap (G.pa a p) (G.pa b p) = 3) :
  Calls Tryz.prog 34 #[.pointer (some ⟨gb, 0, none⟩), .int .i64 a, .int .i64 b, .string p] w fun e w' => e = .returned (.int .i64 (yap (G.pa a p) (G.pa b p))) ∧ ∃ ρ' D', Gp z w w' gb n ρ ⟨G.c, yan p G.ps, ybn G.pa a p (ybv (G.pa a p) (G.pa b p)).1⟩ D' (fun _ => yan p G.ps) ρ' := by
 have CP := yab (ybg h hzw p h0 hl)
 have n6 := h.n6
 have HND := yab (yaw (p := p) hnd)
 have HLE := yab hle
 have HD := yab hd
 clear h hle hd
 go_enter Tryz.func34, Tryz.ntmps34
 go_wp2_with (first
  |(go_at_call 31; refine CP.out.mono ?_; rintro e w1 ⟨⟨i, rfl, hi⟩, ρ1, D1, hP⟩; have P1 := yab hP; have HI := yab hi; obtain ⟨sg, sc, rg, rc, es, er, g2, gs, k0, k1, k2, k3, k4, k5, ls, lr, rs4, rr6, fr, lq, lm⟩ := hP.gh.six ha hi; obtain ⟨sg', sc', rb, rc', es', er', _, gs', j0, j1, j2, j3, j4, j5, _, lr', _, _, _, _, _⟩ := hP.gh.six hb hi; rw [es] at es'; cases es'; have lg := hP.gh.glt; simp only at k0 k1 k2 k3 k4 k5 j0 j1 j2 j3 j4 j5; have EA := yab (hP.gh.ev a ha p (List.mem_of_getElem? hi)); have EBv := yab (hP.gh.ev b hb p (List.mem_of_getElem? hi)); have RA := yab (hP.gh.re a ha p (List.mem_of_getElem? hi)); have RBv := yab (hP.gh.re b hb p (List.mem_of_getElem? hi)); have ER := yab er; obtain ⟨a4, c4, e4⟩ := EA.out.1.slice; obtain ⟨a5, c5, e5⟩ := EA.out.2.slice; obtain ⟨b4, d4, f4⟩ := EBv.out.1.slice; obtain ⟨b5, d5, f5⟩ := EBv.out.2.slice; simp only at e4 e5 f4 f5 EA EBv; have S1 := yab (P2.made w1 (G.pa a p) (G.pa b p) (D1.mv a p) (D1.hv a p) (D1.mv b p) (D1.hv b p)); rw [e4, e5, f4, f5, ft, ff] at S1; have CD : Hid (∀ V, Below w1.heap.size w1 V → Calls Tryz.prog 35 #[pV (G.pa a p) (D1.mv a p) (D1.hv a p), pV (G.pa b p) (D1.mv b p) (D1.hv b p)] V fun e w' => e = .returned (.int .i64 (yap (G.pa a p) (G.pa b p))) ∧ Below V.heap.size V w') := (fun V hV => ycn (EA.out.1.below hV) (EA.out.2.below hV) (EBv.out.1.below hV) (EBv.out.2.below hV)); have CU : Hid (∀ V, Below w1.heap.size w1 V → Calls Tryz.prog 32 #[D1.hv a p, D1.hv b p] V fun e w' => ∃ x, e = .returned x ∧ w'.ownsRow V.heap.size 82 2 x (yaa (G.pa a p).heard (G.pa b p).heard).length (evs (yaa (G.pa a p).heard (G.pa b p).heard)) ∧ Below V.heap.size V w') := (fun V hV => ybh _ _ _ _ _ (EA.out.2.below hV) (EBv.out.2.below hV) (by have := HLE.out; omega)); unfold pV at CD; rw [e4, e5, f4, f5, ft, ff, HD.out] at CD; rw [e5, f5] at CU; rw [e4, e5] at EA RA; rw [f4, f5] at EBv RBv; rw [ft] at k0; rw [ff] at j0; rw [e4] at k4; rw [e5] at k5; rw [f4] at j4; rw [f5] at j5; have E4 := yab e4; have E5 := yab e5; clear hP hi es er er' rs4 rr6 e4 e5 f4 f5)
  |(go_at_call 35; refine (CD.out _ S1.out.bel).mono ?_; rintro e w2 ⟨rfl, hb2⟩; have S2 := yab (S1.out.more hb2); clear hb2 S1 k0 k1 k2 k3 k4 k5 j0 j1 j2 j3 j4 j5 g2 gs gs' fr; obtain ⟨k0, k1, k2, k3, k4, k5⟩ := S2.out.a.cells; obtain ⟨j0, j1, j2, j3, j4, j5⟩ := S2.out.b.cells; rw [ft] at k0; rw [ff] at j0))
 go_ret
 refine ⟨by rw [HD.out]; rfl, ρ1, D1, ?_⟩
 have e : (ybv (G.pa a p) (G.pa b p)).1 = G.pa a p := by
  unfold ybv
  rw [HD.out, ft, ff]
  rfl
 rw [e, yfg]
 exact P1.out.below S2.out.bel
theorem gPull_TF0 (h : Gh z w gb n ρ G D (fun _ => G.ps)) (hzw : z ≤ w.heap.size) {a b : Nat} (ha : a < n) (hb : b < n) (p : ByteArray) (h0 : p ∉ G.ps → ∀ r, G.pa r p = yct) (hl : G.ps.length ≤ 100000000) (hnd : G.ps.Nodup) (hle : (G.pa a p).heard.length + (G.pa b p).heard.length ≤ 100000000) (ft : (G.pa a p).there = true) (ff : (G.pa b p).there = false) (hd : yap (G.pa a p) (G.pa b p) = 0) :
  Calls Tryz.prog 34 #[.pointer (some ⟨gb, 0, none⟩), .int .i64 a, .int .i64 b, .string p] w fun e w' => e = .returned (.int .i64 (yap (G.pa a p) (G.pa b p))) ∧ ∃ ρ' D', Gp z w w' gb n ρ ⟨G.c, yan p G.ps, ybn G.pa a p (ybv (G.pa a p) (G.pa b p)).1⟩ D' (fun _ => yan p G.ps) ρ' := by
 have CP := yab (ybg h hzw p h0 hl)
 have n6 := h.n6
 have HND := yab (yaw (p := p) hnd)
 have HLE := yab hle
 have HD := yab hd
 clear h hle hd
 go_enter Tryz.func34, Tryz.ntmps34
 go_wp2_with (first
  |(go_at_call 31; refine CP.out.mono ?_; rintro e w1 ⟨⟨i, rfl, hi⟩, ρ1, D1, hP⟩; have P1 := yab hP; have HI := yab hi; obtain ⟨sg, sc, rg, rc, es, er, g2, gs, k0, k1, k2, k3, k4, k5, ls, lr, rs4, rr6, fr, lq, lm⟩ := hP.gh.six ha hi; obtain ⟨sg', sc', rb, rc', es', er', _, gs', j0, j1, j2, j3, j4, j5, _, lr', _, _, _, _, _⟩ := hP.gh.six hb hi; rw [es] at es'; cases es'; have lg := hP.gh.glt; simp only at k0 k1 k2 k3 k4 k5 j0 j1 j2 j3 j4 j5; have EA := yab (hP.gh.ev a ha p (List.mem_of_getElem? hi)); have EBv := yab (hP.gh.ev b hb p (List.mem_of_getElem? hi)); have RA := yab (hP.gh.re a ha p (List.mem_of_getElem? hi)); have RBv := yab (hP.gh.re b hb p (List.mem_of_getElem? hi)); have ER := yab er; obtain ⟨a4, c4, e4⟩ := EA.out.1.slice; obtain ⟨a5, c5, e5⟩ := EA.out.2.slice; obtain ⟨b4, d4, f4⟩ := EBv.out.1.slice; obtain ⟨b5, d5, f5⟩ := EBv.out.2.slice; simp only at e4 e5 f4 f5 EA EBv; have S1 := yab (P2.made w1 (G.pa a p) (G.pa b p) (D1.mv a p) (D1.hv a p) (D1.mv b p) (D1.hv b p)); rw [e4, e5, f4, f5, ft, ff] at S1; have CD : Hid (∀ V, Below w1.heap.size w1 V → Calls Tryz.prog 35 #[pV (G.pa a p) (D1.mv a p) (D1.hv a p), pV (G.pa b p) (D1.mv b p) (D1.hv b p)] V fun e w' => e = .returned (.int .i64 (yap (G.pa a p) (G.pa b p))) ∧ Below V.heap.size V w') := (fun V hV => ycn (EA.out.1.below hV) (EA.out.2.below hV) (EBv.out.1.below hV) (EBv.out.2.below hV)); have CU : Hid (∀ V, Below w1.heap.size w1 V → Calls Tryz.prog 32 #[D1.hv a p, D1.hv b p] V fun e w' => ∃ x, e = .returned x ∧ w'.ownsRow V.heap.size 82 2 x (yaa (G.pa a p).heard (G.pa b p).heard).length (evs (yaa (G.pa a p).heard (G.pa b p).heard)) ∧ Below V.heap.size V w') := (fun V hV => ybh _ _ _ _ _ (EA.out.2.below hV) (EBv.out.2.below hV) (by have := HLE.out; omega)); unfold pV at CD; rw [e4, e5, f4, f5, ft, ff, HD.out] at CD; rw [e5, f5] at CU; rw [e4, e5] at EA RA; rw [f4, f5] at EBv RBv; rw [ft] at k0; rw [ff] at j0; rw [e4] at k4; rw [e5] at k5; rw [f4] at j4; rw [f5] at j5; have E4 := yab e4; have E5 := yab e5; clear hP hi es er er' rs4 rr6 e4 e5 f4 f5)
  |(go_at_call 35; refine (CD.out _ S1.out.bel).mono ?_; rintro e w2 ⟨rfl, hb2⟩; have S2 := yab (S1.out.more hb2); clear hb2 S1 k0 k1 k2 k3 k4 k5 j0 j1 j2 j3 j4 j5 g2 gs gs' fr; obtain ⟨k0, k1, k2, k3, k4, k5⟩ := S2.out.a.cells; obtain ⟨j0, j1, j2, j3, j4, j5⟩ := S2.out.b.cells; rw [ft] at k0; rw [ff] at j0))
 go_ret
 refine ⟨by rw [HD.out]; rfl, ρ1, D1, ?_⟩
 have e : (ybv (G.pa a p) (G.pa b p)).1 = G.pa a p := by
  unfold ybv
  rw [HD.out, ft, ff]
  rfl
 rw [e, yfg]
 exact P1.out.below S2.out.bel
theorem gPull_TF3 (h : Gh z w gb n ρ G D (fun _ => G.ps)) (hzw : z ≤ w.heap.size) {a b : Nat} (ha : a < n) (hb : b < n) (p : ByteArray) (h0 : p ∉ G.ps → ∀ r, G.pa r p = yct) (hl : G.ps.length ≤ 100000000) (hnd : G.ps.Nodup) (hle : (G.pa a p).heard.length + (G.pa b p).heard.length ≤ 100000000) (ft : (G.pa a p).there = true) (ff : (G.pa b p).there = false) (hd : yap (G.pa a p) (G.pa b p) = 3) :
  Calls Tryz.prog 34 #[.pointer (some ⟨gb, 0, none⟩), .int .i64 a, .int .i64 b, .string p] w fun e w' => e = .returned (.int .i64 (yap (G.pa a p) (G.pa b p))) ∧ ∃ ρ' D', Gp z w w' gb n ρ ⟨G.c, yan p G.ps, ybn G.pa a p (ybv (G.pa a p) (G.pa b p)).1⟩ D' (fun _ => yan p G.ps) ρ' := by
 have CP := yab (ybg h hzw p h0 hl)
 have n6 := h.n6
 have HND := yab (yaw (p := p) hnd)
 have HLE := yab hle
 have HD := yab hd
 clear h hle hd
 go_enter Tryz.func34, Tryz.ntmps34
 go_wp2_with (first
  |(go_at_call 31; refine CP.out.mono ?_; rintro e w1 ⟨⟨i, rfl, hi⟩, ρ1, D1, hP⟩; have P1 := yab hP; have HI := yab hi; obtain ⟨sg, sc, rg, rc, es, er, g2, gs, k0, k1, k2, k3, k4, k5, ls, lr, rs4, rr6, fr, lq, lm⟩ := hP.gh.six ha hi; obtain ⟨sg', sc', rb, rc', es', er', _, gs', j0, j1, j2, j3, j4, j5, _, lr', _, _, _, _, _⟩ := hP.gh.six hb hi; rw [es] at es'; cases es'; have lg := hP.gh.glt; simp only at k0 k1 k2 k3 k4 k5 j0 j1 j2 j3 j4 j5; have EA := yab (hP.gh.ev a ha p (List.mem_of_getElem? hi)); have EBv := yab (hP.gh.ev b hb p (List.mem_of_getElem? hi)); have RA := yab (hP.gh.re a ha p (List.mem_of_getElem? hi)); have RBv := yab (hP.gh.re b hb p (List.mem_of_getElem? hi)); have ER := yab er; obtain ⟨a4, c4, e4⟩ := EA.out.1.slice; obtain ⟨a5, c5, e5⟩ := EA.out.2.slice; obtain ⟨b4, d4, f4⟩ := EBv.out.1.slice; obtain ⟨b5, d5, f5⟩ := EBv.out.2.slice; simp only at e4 e5 f4 f5 EA EBv; have S1 := yab (P2.made w1 (G.pa a p) (G.pa b p) (D1.mv a p) (D1.hv a p) (D1.mv b p) (D1.hv b p)); rw [e4, e5, f4, f5, ft, ff] at S1; have CD : Hid (∀ V, Below w1.heap.size w1 V → Calls Tryz.prog 35 #[pV (G.pa a p) (D1.mv a p) (D1.hv a p), pV (G.pa b p) (D1.mv b p) (D1.hv b p)] V fun e w' => e = .returned (.int .i64 (yap (G.pa a p) (G.pa b p))) ∧ Below V.heap.size V w') := (fun V hV => ycn (EA.out.1.below hV) (EA.out.2.below hV) (EBv.out.1.below hV) (EBv.out.2.below hV)); have CU : Hid (∀ V, Below w1.heap.size w1 V → Calls Tryz.prog 32 #[D1.hv a p, D1.hv b p] V fun e w' => ∃ x, e = .returned x ∧ w'.ownsRow V.heap.size 82 2 x (yaa (G.pa a p).heard (G.pa b p).heard).length (evs (yaa (G.pa a p).heard (G.pa b p).heard)) ∧ Below V.heap.size V w') := (fun V hV => ybh _ _ _ _ _ (EA.out.2.below hV) (EBv.out.2.below hV) (by have := HLE.out; omega)); unfold pV at CD; rw [e4, e5, f4, f5, ft, ff, HD.out] at CD; rw [e5, f5] at CU; rw [e4, e5] at EA RA; rw [f4, f5] at EBv RBv; rw [ft] at k0; rw [ff] at j0; rw [e4] at k4; rw [e5] at k5; rw [f4] at j4; rw [f5] at j5; have E4 := yab e4; have E5 := yab e5; clear hP hi es er er' rs4 rr6 e4 e5 f4 f5)
  |(go_at_call 35; refine (CD.out _ S1.out.bel).mono ?_; rintro e w2 ⟨rfl, hb2⟩; have S2 := yab (S1.out.more hb2); clear hb2 S1 k0 k1 k2 k3 k4 k5 j0 j1 j2 j3 j4 j5 g2 gs gs' fr; obtain ⟨k0, k1, k2, k3, k4, k5⟩ := S2.out.a.cells; obtain ⟨j0, j1, j2, j3, j4, j5⟩ := S2.out.b.cells; rw [ft] at k0; rw [ff] at j0))
 go_ret
 refine ⟨by rw [HD.out]; rfl, ρ1, D1, ?_⟩
 have e : (ybv (G.pa a p) (G.pa b p)).1 = G.pa a p := by
  unfold ybv
  rw [HD.out, ft, ff]
  rfl
 rw [e, yfg]
 exact P1.out.below S2.out.bel
theorem gPull_FT3 (h : Gh z w gb n ρ G D (fun _ => G.ps)) (hzw : z ≤ w.heap.size) {a b : Nat} (ha : a < n) (hb : b < n) (p : ByteArray) (h0 : p ∉ G.ps → ∀ r, G.pa r p = yct) (hl : G.ps.length ≤ 100000000) (hnd : G.ps.Nodup) (hle : (G.pa a p).heard.length + (G.pa b p).heard.length ≤ 100000000) (ft : (G.pa a p).there = false) (ff : (G.pa b p).there = true) (hd : yap (G.pa a p) (G.pa b p) = 3) :
  Calls Tryz.prog 34 #[.pointer (some ⟨gb, 0, none⟩), .int .i64 a, .int .i64 b, .string p] w fun e w' => e = .returned (.int .i64 (yap (G.pa a p) (G.pa b p))) ∧ ∃ ρ' D', Gp z w w' gb n ρ ⟨G.c, yan p G.ps, ybn G.pa a p (ybv (G.pa a p) (G.pa b p)).1⟩ D' (fun _ => yan p G.ps) ρ' := by
 have CP := yab (ybg h hzw p h0 hl)
 have n6 := h.n6
 have HND := yab (yaw (p := p) hnd)
 have HLE := yab hle
 have HD := yab hd
 clear h hle hd
 go_enter Tryz.func34, Tryz.ntmps34
 go_wp2_with (first
  |(go_at_call 31; refine CP.out.mono ?_; rintro e w1 ⟨⟨i, rfl, hi⟩, ρ1, D1, hP⟩; have P1 := yab hP; have HI := yab hi; obtain ⟨sg, sc, rg, rc, es, er, g2, gs, k0, k1, k2, k3, k4, k5, ls, lr, rs4, rr6, fr, lq, lm⟩ := hP.gh.six ha hi; obtain ⟨sg', sc', rb, rc', es', er', _, gs', j0, j1, j2, j3, j4, j5, _, lr', _, _, _, _, _⟩ := hP.gh.six hb hi; rw [es] at es'; cases es'; have lg := hP.gh.glt; simp only at k0 k1 k2 k3 k4 k5 j0 j1 j2 j3 j4 j5; have EA := yab (hP.gh.ev a ha p (List.mem_of_getElem? hi)); have EBv := yab (hP.gh.ev b hb p (List.mem_of_getElem? hi)); have RA := yab (hP.gh.re a ha p (List.mem_of_getElem? hi)); have RBv := yab (hP.gh.re b hb p (List.mem_of_getElem? hi)); have ER := yab er; obtain ⟨a4, c4, e4⟩ := EA.out.1.slice; obtain ⟨a5, c5, e5⟩ := EA.out.2.slice; obtain ⟨b4, d4, f4⟩ := EBv.out.1.slice; obtain ⟨b5, d5, f5⟩ := EBv.out.2.slice; simp only at e4 e5 f4 f5 EA EBv; have S1 := yab (P2.made w1 (G.pa a p) (G.pa b p) (D1.mv a p) (D1.hv a p) (D1.mv b p) (D1.hv b p)); rw [e4, e5, f4, f5, ft, ff] at S1; have CD : Hid (∀ V, Below w1.heap.size w1 V → Calls Tryz.prog 35 #[pV (G.pa a p) (D1.mv a p) (D1.hv a p), pV (G.pa b p) (D1.mv b p) (D1.hv b p)] V fun e w' => e = .returned (.int .i64 (yap (G.pa a p) (G.pa b p))) ∧ Below V.heap.size V w') := (fun V hV => ycn (EA.out.1.below hV) (EA.out.2.below hV) (EBv.out.1.below hV) (EBv.out.2.below hV)); have CU : Hid (∀ V, Below w1.heap.size w1 V → Calls Tryz.prog 32 #[D1.hv a p, D1.hv b p] V fun e w' => ∃ x, e = .returned x ∧ w'.ownsRow V.heap.size 82 2 x (yaa (G.pa a p).heard (G.pa b p).heard).length (evs (yaa (G.pa a p).heard (G.pa b p).heard)) ∧ Below V.heap.size V w') := (fun V hV => ybh _ _ _ _ _ (EA.out.2.below hV) (EBv.out.2.below hV) (by have := HLE.out; omega)); unfold pV at CD; rw [e4, e5, f4, f5, ft, ff, HD.out] at CD; rw [e5, f5] at CU; rw [e4, e5] at EA RA; rw [f4, f5] at EBv RBv; rw [ft] at k0; rw [ff] at j0; rw [e4] at k4; rw [e5] at k5; rw [f4] at j4; rw [f5] at j5; have E4 := yab e4; have E5 := yab e5; clear hP hi es er er' rs4 rr6 e4 e5 f4 f5)
  |(go_at_call 35; refine (CD.out _ S1.out.bel).mono ?_; rintro e w2 ⟨rfl, hb2⟩; have S2 := yab (S1.out.more hb2); clear hb2 S1 k0 k1 k2 k3 k4 k5 j0 j1 j2 j3 j4 j5 g2 gs gs' fr; obtain ⟨k0, k1, k2, k3, k4, k5⟩ := S2.out.a.cells; obtain ⟨j0, j1, j2, j3, j4, j5⟩ := S2.out.b.cells; rw [ft] at k0; rw [ff] at j0))
 go_ret
 refine ⟨by rw [HD.out]; rfl, ρ1, D1, ?_⟩
 have e : (ybv (G.pa a p) (G.pa b p)).1 = G.pa a p := by
  unfold ybv
  rw [HD.out, ft, ff]
  rfl
 rw [e, yfg]
 exact P1.out.below S2.out.bel
end
end Go.Proofs.YtaelaldmibgibaaGreat

namespace Go.Proofs.YtaelaldmibgibaaGreat
open Go.RowKit
open Classical
section
variable {z : Nat} {w : World} {gb n : Nat} {ρ : Nat → Nat} {G : Gst} {D : GD}
theorem gPull_TT1 (h : Gh z w gb n ρ G D (fun _ => G.ps)) (hzw : z ≤ w.heap.size) {a b : Nat} (ha : a < n) (hb : b < n) (p : ByteArray) (h0 : p ∉ G.ps → ∀ r, G.pa r p = yct) (hl : G.ps.length ≤ 100000000) (hnd : G.ps.Nodup) (hle : (G.pa a p).heard.length + (G.pa b p).heard.length ≤ 100000000) (ft : (G.pa a p).there = true) (ff : (G.pa b p).there = true) (hd : yap (G.pa a p) (G.pa b p) = 1) :
  Calls Tryz.prog 34 #[.pointer (some ⟨gb, 0, none⟩), .int .i64 a, .int .i64 b, .string p] w fun e w' => e = .returned (.int .i64 (yap (G.pa a p) (G.pa b p))) ∧ ∃ ρ' D', Gp z w w' gb n ρ ⟨G.c, yan p G.ps, ybn G.pa a p (ybv (G.pa a p) (G.pa b p)).1⟩ D' (fun _ => yan p G.ps) ρ' := by
 have CP := yab (ybg h hzw p h0 hl)
 have n6 := h.n6
 have HND := yab (yaw (p := p) hnd)
 have HLE := yab hle
 have HD := yab hd
 clear h hle hd
 go_enter Tryz.func34, Tryz.ntmps34
 go_wp2_with (first
  |(go_at_call 31; refine CP.out.mono ?_; rintro e w1 ⟨⟨i, rfl, hi⟩, ρ1, D1, hP⟩; have P1 := yab hP; have HI := yab hi; obtain ⟨sg, sc, rg, rc, es, er, g2, gs, k0, k1, k2, k3, k4, k5, ls, lr, rs4, rr6, fr, lq, lm⟩ := hP.gh.six ha hi; obtain ⟨sg', sc', rb, rc', es', er', _, gs', j0, j1, j2, j3, j4, j5, _, lr', _, _, _, _, _⟩ := hP.gh.six hb hi; rw [es] at es'; cases es'; have lg := hP.gh.glt; simp only at k0 k1 k2 k3 k4 k5 j0 j1 j2 j3 j4 j5; have EA := yab (hP.gh.ev a ha p (List.mem_of_getElem? hi)); have EBv := yab (hP.gh.ev b hb p (List.mem_of_getElem? hi)); have RA := yab (hP.gh.re a ha p (List.mem_of_getElem? hi)); have RBv := yab (hP.gh.re b hb p (List.mem_of_getElem? hi)); have ER := yab er; obtain ⟨a4, c4, e4⟩ := EA.out.1.slice; obtain ⟨a5, c5, e5⟩ := EA.out.2.slice; obtain ⟨b4, d4, f4⟩ := EBv.out.1.slice; obtain ⟨b5, d5, f5⟩ := EBv.out.2.slice; simp only at e4 e5 f4 f5 EA EBv; have S1 := yab (P2.made w1 (G.pa a p) (G.pa b p) (D1.mv a p) (D1.hv a p) (D1.mv b p) (D1.hv b p)); rw [e4, e5, f4, f5, ft, ff] at S1; have CD : Hid (∀ V, Below w1.heap.size w1 V → Calls Tryz.prog 35 #[pV (G.pa a p) (D1.mv a p) (D1.hv a p), pV (G.pa b p) (D1.mv b p) (D1.hv b p)] V fun e w' => e = .returned (.int .i64 (yap (G.pa a p) (G.pa b p))) ∧ Below V.heap.size V w') := (fun V hV => ycn (EA.out.1.below hV) (EA.out.2.below hV) (EBv.out.1.below hV) (EBv.out.2.below hV)); have CU : Hid (∀ V, Below w1.heap.size w1 V → Calls Tryz.prog 32 #[D1.hv a p, D1.hv b p] V fun e w' => ∃ x, e = .returned x ∧ w'.ownsRow V.heap.size 82 2 x (yaa (G.pa a p).heard (G.pa b p).heard).length (evs (yaa (G.pa a p).heard (G.pa b p).heard)) ∧ Below V.heap.size V w') := (fun V hV => ybh _ _ _ _ _ (EA.out.2.below hV) (EBv.out.2.below hV) (by have := HLE.out; omega)); unfold pV at CD; rw [e4, e5, f4, f5, ft, ff, HD.out] at CD; rw [e5, f5] at CU; rw [e4, e5] at EA RA; rw [f4, f5] at EBv RBv; rw [ft] at k0; rw [ff] at j0; rw [e4] at k4; rw [e5] at k5; rw [f4] at j4; rw [f5] at j5; have E4 := yab e4; have E5 := yab e5; clear hP hi es er er' rs4 rr6 e4 e5 f4 f5)
  |(go_at_call 35; refine (CD.out _ S1.out.bel).mono ?_; rintro e w2 ⟨rfl, hb2⟩; have S2 := yab (S1.out.more hb2); clear hb2 S1 k0 k1 k2 k3 k4 k5 j0 j1 j2 j3 j4 j5 g2 gs gs' fr; obtain ⟨k0, k1, k2, k3, k4, k5⟩ := S2.out.a.cells; obtain ⟨j0, j1, j2, j3, j4, j5⟩ := S2.out.b.cells; rw [ft] at k0; rw [ff] at j0)
  |(go_at_call 32; refine (CU.out _ S2.out.bel).mono ?_; rintro e w3 ⟨u, rfl, ho3, hb3⟩; obtain ⟨ua, uc, rfl⟩ := yam ho3; have S3 := yab (S2.out.more hb3); have O3 := yab ho3; have B3 := yab hb3; clear k0 k1 k2 k3 k4 k5 j0 j1 j2 j3 j4 j5 ho3 hb3; obtain ⟨k0, k1, k2, k3, k4, k5⟩ := S3.out.a.cells; obtain ⟨j0, j1, j2, j3, j4, j5⟩ := S3.out.b.cells; rw [ft] at k0; rw [ff] at j0; have xf := S3.out.a.fz; have f0 := xf 0; have f1 := xf 1; have f2 := xf 2; have f3 := xf 3; have f4 := xf 4; have f5 := xf 5; clear xf))
 have NX1 : Hid (ρ1 w1.heap.size = 0) := by
  show _ = _
  rcases Nat.eq_zero_or_pos (ρ1 w1.heap.size) with y | y
  ·exact y
  ·have := P1.out.gh.lt w1.heap.size (by omega); omega
 have HX : Hid (w.heap.size ≤ w1.heap.size) := P1.out.fr.size
 have HZ2 : Hid (z ≤ w2.heap.size) := Nat.le_trans hzw (Nat.le_trans HX.out S2.out.bel.size)
 have LX : Hid (w1.heap.size < w2.heap.size) := S2.out.a.lt
 obtain ⟨ρ3, K3, hv3, ro3, hr3, ro3'⟩ := ((Gw.start P1.out HND.out ha HI.out ER.out).below S2.out.bel).fresh2 HZ2.out B3.out O3.out
 have NX : Hid (ρ3 w1.heap.size = 0) := hr3 _ NX1.out LX.out
 have K5 : Hid (Gw z w (((((((w3.setCell ⟨w1.heap.size, 0, none⟩ (.bool true)).setCell ⟨w1.heap.size, 1, none⟩ (.string (G.pa b p).text)).setCell ⟨w1.heap.size, 2, none⟩ (.int .i64 (G.pa b p).birth.1)).setCell ⟨w1.heap.size, 3, none⟩ (.int .i64 (G.pa b p).birth.2)).setCell ⟨w1.heap.size, 4, none⟩ (.slice b4 (G.pa b p).made.length d4)).setCell ⟨w1.heap.size, 5, none⟩ (.slice b5 (G.pa b p).heard.length d5)).setCell ⟨w1.heap.size, 5, none⟩ (.slice ua (yaa (G.pa a p).heard (G.pa b p).heard).length uc)) gb n ρ ρ3 G.c (yan p G.ps) G.pa a p i rg rc (G.pa a p) (D1.mv a p) (D1.hv a p)) := ((K3.away NX.out HX.out 0 (yed ⟨true, (G.pa b p).text, (G.pa b p).birth, (G.pa b p).made, (G.pa b p).heard⟩ (.slice b4 (G.pa b p).made.length d4) (.slice b5 (G.pa b p).heard.length d5))).away NX.out HX.out 5 [(.slice ua (yaa (G.pa a p).heard (G.pa b p).heard).length uc)])
 have S5 : Hid (ygd (((((((w3.setCell ⟨w1.heap.size, 0, none⟩ (.bool true)).setCell ⟨w1.heap.size, 1, none⟩ (.string (G.pa b p).text)).setCell ⟨w1.heap.size, 2, none⟩ (.int .i64 (G.pa b p).birth.1)).setCell ⟨w1.heap.size, 3, none⟩ (.int .i64 (G.pa b p).birth.2)).setCell ⟨w1.heap.size, 4, none⟩ (.slice b4 (G.pa b p).made.length d4)).setCell ⟨w1.heap.size, 5, none⟩ (.slice b5 (G.pa b p).heard.length d5)).setCell ⟨w1.heap.size, 5, none⟩ (.slice ua (yaa (G.pa a p).heard (G.pa b p).heard).length uc)) w1.heap.size ⟨true, (G.pa b p).text, (G.pa b p).birth, (G.pa b p).made, yaa (G.pa a p).heard (G.pa b p).heard⟩ (.slice b4 (G.pa b p).made.length d4) (.slice ua (yaa (G.pa a p).heard (G.pa b p).heard).length uc)) := by
  have q := ((S3.out.a.set ⟨true, (G.pa b p).text, (G.pa b p).birth, (G.pa b p).made, (G.pa b p).heard⟩ (.slice b4 (G.pa b p).made.length d4) (.slice b5 (G.pa b p).heard.length d5)).hear (yaa (G.pa a p).heard (G.pa b p).heard) (.slice ua (yaa (G.pa a p).heard (G.pa b p).heard).length uc))
  exact q
 have M5 : Hid (EvL (((((((w3.setCell ⟨w1.heap.size, 0, none⟩ (.bool true)).setCell ⟨w1.heap.size, 1, none⟩ (.string (G.pa b p).text)).setCell ⟨w1.heap.size, 2, none⟩ (.int .i64 (G.pa b p).birth.1)).setCell ⟨w1.heap.size, 3, none⟩ (.int .i64 (G.pa b p).birth.2)).setCell ⟨w1.heap.size, 4, none⟩ (.slice b4 (G.pa b p).made.length d4)).setCell ⟨w1.heap.size, 5, none⟩ (.slice b5 (G.pa b p).heard.length d5)).setCell ⟨w1.heap.size, 5, none⟩ (.slice ua (yaa (G.pa a p).heard (G.pa b p).heard).length uc)) (.slice b4 (G.pa b p).made.length d4) (G.pa b p).made) := (((EBv.out.1.below S3.out.bel).away (ro3' _ _ (by decide) RBv.out.1) NX.out 0 (yed ⟨true, (G.pa b p).text, (G.pa b p).birth, (G.pa b p).made, (G.pa b p).heard⟩ (.slice b4 (G.pa b p).made.length d4) (.slice b5 (G.pa b p).heard.length d5))).away (ro3' _ _ (by decide) RBv.out.1) NX.out 5 [(.slice ua (yaa (G.pa a p).heard (G.pa b p).heard).length uc)])
 have U5 : Hid (EvL (((((((w3.setCell ⟨w1.heap.size, 0, none⟩ (.bool true)).setCell ⟨w1.heap.size, 1, none⟩ (.string (G.pa b p).text)).setCell ⟨w1.heap.size, 2, none⟩ (.int .i64 (G.pa b p).birth.1)).setCell ⟨w1.heap.size, 3, none⟩ (.int .i64 (G.pa b p).birth.2)).setCell ⟨w1.heap.size, 4, none⟩ (.slice b4 (G.pa b p).made.length d4)).setCell ⟨w1.heap.size, 5, none⟩ (.slice b5 (G.pa b p).heard.length d5)).setCell ⟨w1.heap.size, 5, none⟩ (.slice ua (yaa (G.pa a p).heard (G.pa b p).heard).length uc)) (.slice ua (yaa (G.pa a p).heard (G.pa b p).heard).length uc) (yaa (G.pa a p).heard (G.pa b p).heard)) := ((hv3.away ro3 NX.out 0 (yed ⟨true, (G.pa b p).text, (G.pa b p).birth, (G.pa b p).made, (G.pa b p).heard⟩ (.slice b4 (G.pa b p).made.length d4) (.slice b5 (G.pa b p).heard.length d5))).away ro3 NX.out 5 [(.slice ua (yaa (G.pa a p).heard (G.pa b p).heard).length uc)])
 have MR : Hid (ybs ρ3 (.slice b4 (G.pa b p).made.length d4) 5) := (ro3' _ _ (by decide) RBv.out.1)
 have UR := yab ro3
 clear k0 k1 k2 k3 k4 k5 j0 j1 j2 j3 j4 j5 f0 f1 f2 f3 f4 f5 K3 hv3 ro3 hr3 ro3'
 generalize (((((((w3.setCell ⟨w1.heap.size, 0, none⟩ (.bool true)).setCell ⟨w1.heap.size, 1, none⟩ (.string (G.pa b p).text)).setCell ⟨w1.heap.size, 2, none⟩ (.int .i64 (G.pa b p).birth.1)).setCell ⟨w1.heap.size, 3, none⟩ (.int .i64 (G.pa b p).birth.2)).setCell ⟨w1.heap.size, 4, none⟩ (.slice b4 (G.pa b p).made.length d4)).setCell ⟨w1.heap.size, 5, none⟩ (.slice b5 (G.pa b p).heard.length d5)).setCell ⟨w1.heap.size, 5, none⟩ (.slice ua (yaa (G.pa a p).heard (G.pa b p).heard).length uc)) = V5 at *
 obtain ⟨k0, k1, k2, k3, k4, k5⟩ := S5.out.cells
 obtain ⟨sg', sc', g2, gs, lg', ls', _, _, lq'⟩ := K5.out.rowc
 obtain ⟨r0, r1, r2, r3, r4, r5, lr5, rf, _⟩ := K5.out.cells
 have h0' := rf (i * 6)
 have h1 := rf (i * 6 + 1)
 have h2 := rf (i * 6 + 2)
 have h3 := rf (i * 6 + 3)
 have h4 := rf (i * 6 + 4)
 have h5 := rf (i * 6 + 5)
 have lX := S5.out.lt
 have KF := yab (K5.out.all (g' := ⟨true, (G.pa b p).text, (G.pa b p).birth, (G.pa b p).made, yaa (G.pa a p).heard (G.pa b p).heard⟩) ⟨M5.out, U5.out⟩ ⟨MR.out, UR.out⟩)
 clear rf
 go_region
 all_goals
  clear k0 k1 k2 k3 k4 k5 r0 r1 r2 r3 r4 r5 h0' h1 h2 h3 h4 h5 g2 gs
  go_wp2_with fail
  go_ret
  obtain ⟨D6, P6⟩ := KF.out.gp
  refine ⟨by rw [HD.out]; rfl, ρ3, D6, ?_⟩
  have e : (ybv (G.pa a p) (G.pa b p)).1 = ⟨true, (G.pa b p).text, (G.pa b p).birth, (G.pa b p).made, yaa (G.pa a p).heard (G.pa b p).heard⟩ := by
   unfold ybv
   rw [HD.out, ft, ff]
   rfl
  rw [e]
  exact P6.drew
theorem gPull_FT1 (h : Gh z w gb n ρ G D (fun _ => G.ps)) (hzw : z ≤ w.heap.size) {a b : Nat} (ha : a < n) (hb : b < n) (p : ByteArray) (h0 : p ∉ G.ps → ∀ r, G.pa r p = yct) (hl : G.ps.length ≤ 100000000) (hnd : G.ps.Nodup) (hle : (G.pa a p).heard.length + (G.pa b p).heard.length ≤ 100000000) (ft : (G.pa a p).there = false) (ff : (G.pa b p).there = true) (hd : yap (G.pa a p) (G.pa b p) = 1) :
  Calls Tryz.prog 34 #[.pointer (some ⟨gb, 0, none⟩), .int .i64 a, .int .i64 b, .string p] w fun e w' => e = .returned (.int .i64 (yap (G.pa a p) (G.pa b p))) ∧ ∃ ρ' D', Gp z w w' gb n ρ ⟨G.c, yan p G.ps, ybn G.pa a p (ybv (G.pa a p) (G.pa b p)).1⟩ D' (fun _ => yan p G.ps) ρ' := by
 have CP := yab (ybg h hzw p h0 hl)
 have n6 := h.n6
 have HND := yab (yaw (p := p) hnd)
 have HLE := yab hle
 have HD := yab hd
 clear h hle hd
 go_enter Tryz.func34, Tryz.ntmps34
 go_wp2_with (first
  |(go_at_call 31; refine CP.out.mono ?_; rintro e w1 ⟨⟨i, rfl, hi⟩, ρ1, D1, hP⟩; have P1 := yab hP; have HI := yab hi; obtain ⟨sg, sc, rg, rc, es, er, g2, gs, k0, k1, k2, k3, k4, k5, ls, lr, rs4, rr6, fr, lq, lm⟩ := hP.gh.six ha hi; obtain ⟨sg', sc', rb, rc', es', er', _, gs', j0, j1, j2, j3, j4, j5, _, lr', _, _, _, _, _⟩ := hP.gh.six hb hi; rw [es] at es'; cases es'; have lg := hP.gh.glt; simp only at k0 k1 k2 k3 k4 k5 j0 j1 j2 j3 j4 j5; have EA := yab (hP.gh.ev a ha p (List.mem_of_getElem? hi)); have EBv := yab (hP.gh.ev b hb p (List.mem_of_getElem? hi)); have RA := yab (hP.gh.re a ha p (List.mem_of_getElem? hi)); have RBv := yab (hP.gh.re b hb p (List.mem_of_getElem? hi)); have ER := yab er; obtain ⟨a4, c4, e4⟩ := EA.out.1.slice; obtain ⟨a5, c5, e5⟩ := EA.out.2.slice; obtain ⟨b4, d4, f4⟩ := EBv.out.1.slice; obtain ⟨b5, d5, f5⟩ := EBv.out.2.slice; simp only at e4 e5 f4 f5 EA EBv; have S1 := yab (P2.made w1 (G.pa a p) (G.pa b p) (D1.mv a p) (D1.hv a p) (D1.mv b p) (D1.hv b p)); rw [e4, e5, f4, f5, ft, ff] at S1; have CD : Hid (∀ V, Below w1.heap.size w1 V → Calls Tryz.prog 35 #[pV (G.pa a p) (D1.mv a p) (D1.hv a p), pV (G.pa b p) (D1.mv b p) (D1.hv b p)] V fun e w' => e = .returned (.int .i64 (yap (G.pa a p) (G.pa b p))) ∧ Below V.heap.size V w') := (fun V hV => ycn (EA.out.1.below hV) (EA.out.2.below hV) (EBv.out.1.below hV) (EBv.out.2.below hV)); have CU : Hid (∀ V, Below w1.heap.size w1 V → Calls Tryz.prog 32 #[D1.hv a p, D1.hv b p] V fun e w' => ∃ x, e = .returned x ∧ w'.ownsRow V.heap.size 82 2 x (yaa (G.pa a p).heard (G.pa b p).heard).length (evs (yaa (G.pa a p).heard (G.pa b p).heard)) ∧ Below V.heap.size V w') := (fun V hV => ybh _ _ _ _ _ (EA.out.2.below hV) (EBv.out.2.below hV) (by have := HLE.out; omega)); unfold pV at CD; rw [e4, e5, f4, f5, ft, ff, HD.out] at CD; rw [e5, f5] at CU; rw [e4, e5] at EA RA; rw [f4, f5] at EBv RBv; rw [ft] at k0; rw [ff] at j0; rw [e4] at k4; rw [e5] at k5; rw [f4] at j4; rw [f5] at j5; have E4 := yab e4; have E5 := yab e5; clear hP hi es er er' rs4 rr6 e4 e5 f4 f5)
  |(go_at_call 35; refine (CD.out _ S1.out.bel).mono ?_; rintro e w2 ⟨rfl, hb2⟩; have S2 := yab (S1.out.more hb2); clear hb2 S1 k0 k1 k2 k3 k4 k5 j0 j1 j2 j3 j4 j5 g2 gs gs' fr; obtain ⟨k0, k1, k2, k3, k4, k5⟩ := S2.out.a.cells; obtain ⟨j0, j1, j2, j3, j4, j5⟩ := S2.out.b.cells; rw [ft] at k0; rw [ff] at j0)
  |(go_at_call 32; refine (CU.out _ S2.out.bel).mono ?_; rintro e w3 ⟨u, rfl, ho3, hb3⟩; obtain ⟨ua, uc, rfl⟩ := yam ho3; have S3 := yab (S2.out.more hb3); have O3 := yab ho3; have B3 := yab hb3; clear k0 k1 k2 k3 k4 k5 j0 j1 j2 j3 j4 j5 ho3 hb3; obtain ⟨k0, k1, k2, k3, k4, k5⟩ := S3.out.a.cells; obtain ⟨j0, j1, j2, j3, j4, j5⟩ := S3.out.b.cells; rw [ft] at k0; rw [ff] at j0; have xf := S3.out.a.fz; have f0 := xf 0; have f1 := xf 1; have f2 := xf 2; have f3 := xf 3; have f4 := xf 4; have f5 := xf 5; clear xf))
 have NX1 : Hid (ρ1 w1.heap.size = 0) := by
  show _ = _
  rcases Nat.eq_zero_or_pos (ρ1 w1.heap.size) with y | y
  ·exact y
  ·have := P1.out.gh.lt w1.heap.size (by omega); omega
 have HX : Hid (w.heap.size ≤ w1.heap.size) := P1.out.fr.size
 have HZ2 : Hid (z ≤ w2.heap.size) := Nat.le_trans hzw (Nat.le_trans HX.out S2.out.bel.size)
 have LX : Hid (w1.heap.size < w2.heap.size) := S2.out.a.lt
 obtain ⟨ρ3, K3, hv3, ro3, hr3, ro3'⟩ := ((Gw.start P1.out HND.out ha HI.out ER.out).below S2.out.bel).fresh2 HZ2.out B3.out O3.out
 have NX : Hid (ρ3 w1.heap.size = 0) := hr3 _ NX1.out LX.out
 have K5 : Hid (Gw z w (((((((w3.setCell ⟨w1.heap.size, 0, none⟩ (.bool true)).setCell ⟨w1.heap.size, 1, none⟩ (.string (G.pa b p).text)).setCell ⟨w1.heap.size, 2, none⟩ (.int .i64 (G.pa b p).birth.1)).setCell ⟨w1.heap.size, 3, none⟩ (.int .i64 (G.pa b p).birth.2)).setCell ⟨w1.heap.size, 4, none⟩ (.slice b4 (G.pa b p).made.length d4)).setCell ⟨w1.heap.size, 5, none⟩ (.slice b5 (G.pa b p).heard.length d5)).setCell ⟨w1.heap.size, 5, none⟩ (.slice ua (yaa (G.pa a p).heard (G.pa b p).heard).length uc)) gb n ρ ρ3 G.c (yan p G.ps) G.pa a p i rg rc (G.pa a p) (D1.mv a p) (D1.hv a p)) := ((K3.away NX.out HX.out 0 (yed ⟨true, (G.pa b p).text, (G.pa b p).birth, (G.pa b p).made, (G.pa b p).heard⟩ (.slice b4 (G.pa b p).made.length d4) (.slice b5 (G.pa b p).heard.length d5))).away NX.out HX.out 5 [(.slice ua (yaa (G.pa a p).heard (G.pa b p).heard).length uc)])
 have S5 : Hid (ygd (((((((w3.setCell ⟨w1.heap.size, 0, none⟩ (.bool true)).setCell ⟨w1.heap.size, 1, none⟩ (.string (G.pa b p).text)).setCell ⟨w1.heap.size, 2, none⟩ (.int .i64 (G.pa b p).birth.1)).setCell ⟨w1.heap.size, 3, none⟩ (.int .i64 (G.pa b p).birth.2)).setCell ⟨w1.heap.size, 4, none⟩ (.slice b4 (G.pa b p).made.length d4)).setCell ⟨w1.heap.size, 5, none⟩ (.slice b5 (G.pa b p).heard.length d5)).setCell ⟨w1.heap.size, 5, none⟩ (.slice ua (yaa (G.pa a p).heard (G.pa b p).heard).length uc)) w1.heap.size ⟨true, (G.pa b p).text, (G.pa b p).birth, (G.pa b p).made, yaa (G.pa a p).heard (G.pa b p).heard⟩ (.slice b4 (G.pa b p).made.length d4) (.slice ua (yaa (G.pa a p).heard (G.pa b p).heard).length uc)) := by
  have q := ((S3.out.a.set ⟨true, (G.pa b p).text, (G.pa b p).birth, (G.pa b p).made, (G.pa b p).heard⟩ (.slice b4 (G.pa b p).made.length d4) (.slice b5 (G.pa b p).heard.length d5)).hear (yaa (G.pa a p).heard (G.pa b p).heard) (.slice ua (yaa (G.pa a p).heard (G.pa b p).heard).length uc))
  exact q
 have M5 : Hid (EvL (((((((w3.setCell ⟨w1.heap.size, 0, none⟩ (.bool true)).setCell ⟨w1.heap.size, 1, none⟩ (.string (G.pa b p).text)).setCell ⟨w1.heap.size, 2, none⟩ (.int .i64 (G.pa b p).birth.1)).setCell ⟨w1.heap.size, 3, none⟩ (.int .i64 (G.pa b p).birth.2)).setCell ⟨w1.heap.size, 4, none⟩ (.slice b4 (G.pa b p).made.length d4)).setCell ⟨w1.heap.size, 5, none⟩ (.slice b5 (G.pa b p).heard.length d5)).setCell ⟨w1.heap.size, 5, none⟩ (.slice ua (yaa (G.pa a p).heard (G.pa b p).heard).length uc)) (.slice b4 (G.pa b p).made.length d4) (G.pa b p).made) := (((EBv.out.1.below S3.out.bel).away (ro3' _ _ (by decide) RBv.out.1) NX.out 0 (yed ⟨true, (G.pa b p).text, (G.pa b p).birth, (G.pa b p).made, (G.pa b p).heard⟩ (.slice b4 (G.pa b p).made.length d4) (.slice b5 (G.pa b p).heard.length d5))).away (ro3' _ _ (by decide) RBv.out.1) NX.out 5 [(.slice ua (yaa (G.pa a p).heard (G.pa b p).heard).length uc)])
 have U5 : Hid (EvL (((((((w3.setCell ⟨w1.heap.size, 0, none⟩ (.bool true)).setCell ⟨w1.heap.size, 1, none⟩ (.string (G.pa b p).text)).setCell ⟨w1.heap.size, 2, none⟩ (.int .i64 (G.pa b p).birth.1)).setCell ⟨w1.heap.size, 3, none⟩ (.int .i64 (G.pa b p).birth.2)).setCell ⟨w1.heap.size, 4, none⟩ (.slice b4 (G.pa b p).made.length d4)).setCell ⟨w1.heap.size, 5, none⟩ (.slice b5 (G.pa b p).heard.length d5)).setCell ⟨w1.heap.size, 5, none⟩ (.slice ua (yaa (G.pa a p).heard (G.pa b p).heard).length uc)) (.slice ua (yaa (G.pa a p).heard (G.pa b p).heard).length uc) (yaa (G.pa a p).heard (G.pa b p).heard)) := ((hv3.away ro3 NX.out 0 (yed ⟨true, (G.pa b p).text, (G.pa b p).birth, (G.pa b p).made, (G.pa b p).heard⟩ (.slice b4 (G.pa b p).made.length d4) (.slice b5 (G.pa b p).heard.length d5))).away ro3 NX.out 5 [(.slice ua (yaa (G.pa a p).heard (G.pa b p).heard).length uc)])
 have MR : Hid (ybs ρ3 (.slice b4 (G.pa b p).made.length d4) 5) := (ro3' _ _ (by decide) RBv.out.1)
 have UR := yab ro3
 clear k0 k1 k2 k3 k4 k5 j0 j1 j2 j3 j4 j5 f0 f1 f2 f3 f4 f5 K3 hv3 ro3 hr3 ro3'
 generalize (((((((w3.setCell ⟨w1.heap.size, 0, none⟩ (.bool true)).setCell ⟨w1.heap.size, 1, none⟩ (.string (G.pa b p).text)).setCell ⟨w1.heap.size, 2, none⟩ (.int .i64 (G.pa b p).birth.1)).setCell ⟨w1.heap.size, 3, none⟩ (.int .i64 (G.pa b p).birth.2)).setCell ⟨w1.heap.size, 4, none⟩ (.slice b4 (G.pa b p).made.length d4)).setCell ⟨w1.heap.size, 5, none⟩ (.slice b5 (G.pa b p).heard.length d5)).setCell ⟨w1.heap.size, 5, none⟩ (.slice ua (yaa (G.pa a p).heard (G.pa b p).heard).length uc)) = V5 at *
 obtain ⟨k0, k1, k2, k3, k4, k5⟩ := S5.out.cells
 obtain ⟨sg', sc', g2, gs, lg', ls', _, _, lq'⟩ := K5.out.rowc
 obtain ⟨r0, r1, r2, r3, r4, r5, lr5, rf, _⟩ := K5.out.cells
 have h0' := rf (i * 6)
 have h1 := rf (i * 6 + 1)
 have h2 := rf (i * 6 + 2)
 have h3 := rf (i * 6 + 3)
 have h4 := rf (i * 6 + 4)
 have h5 := rf (i * 6 + 5)
 have lX := S5.out.lt
 have KF := yab (K5.out.all (g' := ⟨true, (G.pa b p).text, (G.pa b p).birth, (G.pa b p).made, yaa (G.pa a p).heard (G.pa b p).heard⟩) ⟨M5.out, U5.out⟩ ⟨MR.out, UR.out⟩)
 clear rf
 go_region
 all_goals
  clear k0 k1 k2 k3 k4 k5 r0 r1 r2 r3 r4 r5 h0' h1 h2 h3 h4 h5 g2 gs
  go_wp2_with fail
  go_ret
  obtain ⟨D6, P6⟩ := KF.out.gp
  refine ⟨by rw [HD.out]; rfl, ρ3, D6, ?_⟩
  have e : (ybv (G.pa a p) (G.pa b p)).1 = ⟨true, (G.pa b p).text, (G.pa b p).birth, (G.pa b p).made, yaa (G.pa a p).heard (G.pa b p).heard⟩ := by
   unfold ybv
   rw [HD.out, ft, ff]
   rfl
  rw [e]
  exact P6.drew
theorem gPull_TF2 (h : Gh z w gb n ρ G D (fun _ => G.ps)) (hzw : z ≤ w.heap.size) {a b : Nat} (ha : a < n) (hb : b < n) (p : ByteArray) (h0 : p ∉ G.ps → ∀ r, G.pa r p = yct) (hl : G.ps.length ≤ 100000000) (hnd : G.ps.Nodup) (hle : (G.pa a p).heard.length + (G.pa b p).heard.length ≤ 100000000) (ft : (G.pa a p).there = true) (ff : (G.pa b p).there = false) (hd : yap (G.pa a p) (G.pa b p) = 2) :
  Calls Tryz.prog 34 #[.pointer (some ⟨gb, 0, none⟩), .int .i64 a, .int .i64 b, .string p] w fun e w' => e = .returned (.int .i64 (yap (G.pa a p) (G.pa b p))) ∧ ∃ ρ' D', Gp z w w' gb n ρ ⟨G.c, yan p G.ps, ybn G.pa a p (ybv (G.pa a p) (G.pa b p)).1⟩ D' (fun _ => yan p G.ps) ρ' := by
 have CP := yab (ybg h hzw p h0 hl)
 have n6 := h.n6
 have HND := yab (yaw (p := p) hnd)
 have HLE := yab hle
 have HD := yab hd
 clear h hle hd
 go_enter Tryz.func34, Tryz.ntmps34
 go_wp2_with (first
  |(go_at_call 31; refine CP.out.mono ?_; rintro e w1 ⟨⟨i, rfl, hi⟩, ρ1, D1, hP⟩; have P1 := yab hP; have HI := yab hi; obtain ⟨sg, sc, rg, rc, es, er, g2, gs, k0, k1, k2, k3, k4, k5, ls, lr, rs4, rr6, fr, lq, lm⟩ := hP.gh.six ha hi; obtain ⟨sg', sc', rb, rc', es', er', _, gs', j0, j1, j2, j3, j4, j5, _, lr', _, _, _, _, _⟩ := hP.gh.six hb hi; rw [es] at es'; cases es'; have lg := hP.gh.glt; simp only at k0 k1 k2 k3 k4 k5 j0 j1 j2 j3 j4 j5; have EA := yab (hP.gh.ev a ha p (List.mem_of_getElem? hi)); have EBv := yab (hP.gh.ev b hb p (List.mem_of_getElem? hi)); have RA := yab (hP.gh.re a ha p (List.mem_of_getElem? hi)); have RBv := yab (hP.gh.re b hb p (List.mem_of_getElem? hi)); have ER := yab er; obtain ⟨a4, c4, e4⟩ := EA.out.1.slice; obtain ⟨a5, c5, e5⟩ := EA.out.2.slice; obtain ⟨b4, d4, f4⟩ := EBv.out.1.slice; obtain ⟨b5, d5, f5⟩ := EBv.out.2.slice; simp only at e4 e5 f4 f5 EA EBv; have S1 := yab (P2.made w1 (G.pa a p) (G.pa b p) (D1.mv a p) (D1.hv a p) (D1.mv b p) (D1.hv b p)); rw [e4, e5, f4, f5, ft, ff] at S1; have CD : Hid (∀ V, Below w1.heap.size w1 V → Calls Tryz.prog 35 #[pV (G.pa a p) (D1.mv a p) (D1.hv a p), pV (G.pa b p) (D1.mv b p) (D1.hv b p)] V fun e w' => e = .returned (.int .i64 (yap (G.pa a p) (G.pa b p))) ∧ Below V.heap.size V w') := (fun V hV => ycn (EA.out.1.below hV) (EA.out.2.below hV) (EBv.out.1.below hV) (EBv.out.2.below hV)); have CU : Hid (∀ V, Below w1.heap.size w1 V → Calls Tryz.prog 32 #[D1.hv a p, D1.hv b p] V fun e w' => ∃ x, e = .returned x ∧ w'.ownsRow V.heap.size 82 2 x (yaa (G.pa a p).heard (G.pa b p).heard).length (evs (yaa (G.pa a p).heard (G.pa b p).heard)) ∧ Below V.heap.size V w') := (fun V hV => ybh _ _ _ _ _ (EA.out.2.below hV) (EBv.out.2.below hV) (by have := HLE.out; omega)); unfold pV at CD; rw [e4, e5, f4, f5, ft, ff, HD.out] at CD; rw [e5, f5] at CU; rw [e4, e5] at EA RA; rw [f4, f5] at EBv RBv; rw [ft] at k0; rw [ff] at j0; rw [e4] at k4; rw [e5] at k5; rw [f4] at j4; rw [f5] at j5; have E4 := yab e4; have E5 := yab e5; clear hP hi es er er' rs4 rr6 e4 e5 f4 f5)
  |(go_at_call 35; refine (CD.out _ S1.out.bel).mono ?_; rintro e w2 ⟨rfl, hb2⟩; have S2 := yab (S1.out.more hb2); clear hb2 S1 k0 k1 k2 k3 k4 k5 j0 j1 j2 j3 j4 j5 g2 gs gs' fr; obtain ⟨k0, k1, k2, k3, k4, k5⟩ := S2.out.a.cells; obtain ⟨j0, j1, j2, j3, j4, j5⟩ := S2.out.b.cells; rw [ft] at k0; rw [ff] at j0)
  |(go_at_call 32; refine (CU.out _ S2.out.bel).mono ?_; rintro e w3 ⟨u, rfl, ho3, hb3⟩; obtain ⟨ua, uc, rfl⟩ := yam ho3; have S3 := yab (S2.out.more hb3); have O3 := yab ho3; have B3 := yab hb3; clear k0 k1 k2 k3 k4 k5 j0 j1 j2 j3 j4 j5 ho3 hb3; obtain ⟨k0, k1, k2, k3, k4, k5⟩ := S3.out.a.cells; obtain ⟨j0, j1, j2, j3, j4, j5⟩ := S3.out.b.cells; rw [ft] at k0; rw [ff] at j0; have xf := S3.out.a.fz; have f0 := xf 0; have f1 := xf 1; have f2 := xf 2; have f3 := xf 3; have f4 := xf 4; have f5 := xf 5; clear xf))
 have NX1 : Hid (ρ1 w1.heap.size = 0) := by
  show _ = _
  rcases Nat.eq_zero_or_pos (ρ1 w1.heap.size) with y | y
  ·exact y
  ·have := P1.out.gh.lt w1.heap.size (by omega); omega
 have HX : Hid (w.heap.size ≤ w1.heap.size) := P1.out.fr.size
 have HZ2 : Hid (z ≤ w2.heap.size) := Nat.le_trans hzw (Nat.le_trans HX.out S2.out.bel.size)
 have LX : Hid (w1.heap.size < w2.heap.size) := S2.out.a.lt
 obtain ⟨ρ3, K3, hv3, ro3, hr3, ro3'⟩ := ((Gw.start P1.out HND.out ha HI.out ER.out).below S2.out.bel).fresh2 HZ2.out B3.out O3.out
 have NX : Hid (ρ3 w1.heap.size = 0) := hr3 _ NX1.out LX.out
 have K5 : Hid (Gw z w (((((((w3.setCell ⟨w1.heap.size, 0, none⟩ (.bool false)).setCell ⟨w1.heap.size, 1, none⟩ (.string ⟨#[]⟩)).setCell ⟨w1.heap.size, 2, none⟩ (.int .i64 0)).setCell ⟨w1.heap.size, 3, none⟩ (.int .i64 0)).setCell ⟨w1.heap.size, 4, none⟩ (.slice none 0 0)).setCell ⟨w1.heap.size, 5, none⟩ (.slice none 0 0)).setCell ⟨w1.heap.size, 5, none⟩ (.slice ua (yaa (G.pa a p).heard (G.pa b p).heard).length uc)) gb n ρ ρ3 G.c (yan p G.ps) G.pa a p i rg rc (G.pa a p) (D1.mv a p) (D1.hv a p)) := ((K3.away NX.out HX.out 0 (yed yct (.slice none 0 0) (.slice none 0 0))).away NX.out HX.out 5 [(.slice ua (yaa (G.pa a p).heard (G.pa b p).heard).length uc)])
 have S5 : Hid (ygd (((((((w3.setCell ⟨w1.heap.size, 0, none⟩ (.bool false)).setCell ⟨w1.heap.size, 1, none⟩ (.string ⟨#[]⟩)).setCell ⟨w1.heap.size, 2, none⟩ (.int .i64 0)).setCell ⟨w1.heap.size, 3, none⟩ (.int .i64 0)).setCell ⟨w1.heap.size, 4, none⟩ (.slice none 0 0)).setCell ⟨w1.heap.size, 5, none⟩ (.slice none 0 0)).setCell ⟨w1.heap.size, 5, none⟩ (.slice ua (yaa (G.pa a p).heard (G.pa b p).heard).length uc)) w1.heap.size ⟨false, ⟨#[]⟩, (0, 0), [], yaa (G.pa a p).heard (G.pa b p).heard⟩ (.slice none 0 0) (.slice ua (yaa (G.pa a p).heard (G.pa b p).heard).length uc)) := by
  have q := ((S3.out.a.set yct (.slice none 0 0) (.slice none 0 0)).hear (yaa (G.pa a p).heard (G.pa b p).heard) (.slice ua (yaa (G.pa a p).heard (G.pa b p).heard).length uc))
  exact q
 have M5 : Hid (EvL (((((((w3.setCell ⟨w1.heap.size, 0, none⟩ (.bool false)).setCell ⟨w1.heap.size, 1, none⟩ (.string ⟨#[]⟩)).setCell ⟨w1.heap.size, 2, none⟩ (.int .i64 0)).setCell ⟨w1.heap.size, 3, none⟩ (.int .i64 0)).setCell ⟨w1.heap.size, 4, none⟩ (.slice none 0 0)).setCell ⟨w1.heap.size, 5, none⟩ (.slice none 0 0)).setCell ⟨w1.heap.size, 5, none⟩ (.slice ua (yaa (G.pa a p).heard (G.pa b p).heard).length uc)) (.slice none 0 0) []) := (World.ownsRow_nil _ _ _ _)
 have U5 : Hid (EvL (((((((w3.setCell ⟨w1.heap.size, 0, none⟩ (.bool false)).setCell ⟨w1.heap.size, 1, none⟩ (.string ⟨#[]⟩)).setCell ⟨w1.heap.size, 2, none⟩ (.int .i64 0)).setCell ⟨w1.heap.size, 3, none⟩ (.int .i64 0)).setCell ⟨w1.heap.size, 4, none⟩ (.slice none 0 0)).setCell ⟨w1.heap.size, 5, none⟩ (.slice none 0 0)).setCell ⟨w1.heap.size, 5, none⟩ (.slice ua (yaa (G.pa a p).heard (G.pa b p).heard).length uc)) (.slice ua (yaa (G.pa a p).heard (G.pa b p).heard).length uc) (yaa (G.pa a p).heard (G.pa b p).heard)) := ((hv3.away ro3 NX.out 0 (yed yct (.slice none 0 0) (.slice none 0 0))).away ro3 NX.out 5 [(.slice ua (yaa (G.pa a p).heard (G.pa b p).heard).length uc)])
 have MR : Hid (ybs ρ3 (.slice none 0 0) 5) := (fun _ e => (by cases e))
 have UR := yab ro3
 clear k0 k1 k2 k3 k4 k5 j0 j1 j2 j3 j4 j5 f0 f1 f2 f3 f4 f5 K3 hv3 ro3 hr3 ro3'
 generalize (((((((w3.setCell ⟨w1.heap.size, 0, none⟩ (.bool false)).setCell ⟨w1.heap.size, 1, none⟩ (.string ⟨#[]⟩)).setCell ⟨w1.heap.size, 2, none⟩ (.int .i64 0)).setCell ⟨w1.heap.size, 3, none⟩ (.int .i64 0)).setCell ⟨w1.heap.size, 4, none⟩ (.slice none 0 0)).setCell ⟨w1.heap.size, 5, none⟩ (.slice none 0 0)).setCell ⟨w1.heap.size, 5, none⟩ (.slice ua (yaa (G.pa a p).heard (G.pa b p).heard).length uc)) = V5 at *
 obtain ⟨k0, k1, k2, k3, k4, k5⟩ := S5.out.cells
 obtain ⟨sg', sc', g2, gs, lg', ls', _, _, lq'⟩ := K5.out.rowc
 obtain ⟨r0, r1, r2, r3, r4, r5, lr5, rf, _⟩ := K5.out.cells
 have h0' := rf (i * 6)
 have h1 := rf (i * 6 + 1)
 have h2 := rf (i * 6 + 2)
 have h3 := rf (i * 6 + 3)
 have h4 := rf (i * 6 + 4)
 have h5 := rf (i * 6 + 5)
 have lX := S5.out.lt
 have KF := yab (K5.out.all (g' := ⟨false, ⟨#[]⟩, (0, 0), [], yaa (G.pa a p).heard (G.pa b p).heard⟩) ⟨M5.out, U5.out⟩ ⟨MR.out, UR.out⟩)
 clear rf
 go_region
 all_goals
  clear k0 k1 k2 k3 k4 k5 r0 r1 r2 r3 r4 r5 h0' h1 h2 h3 h4 h5 g2 gs
  go_wp2_with fail
  go_ret
  obtain ⟨D6, P6⟩ := KF.out.gp
  refine ⟨by rw [HD.out]; rfl, ρ3, D6, ?_⟩
  have e : (ybv (G.pa a p) (G.pa b p)).1 = ⟨false, ⟨#[]⟩, (0, 0), [], yaa (G.pa a p).heard (G.pa b p).heard⟩ := by
   unfold ybv
   rw [HD.out, ft, ff]
   rfl
  rw [e]
  exact P6.drew
end
end Go.Proofs.YtaelaldmibgibaaGreat

namespace Go.Proofs.YtaelaldmibgibaaGreat
open Go.RowKit
open Classical
section
variable {z : Nat} {w : World} {gb n : Nat} {ρ : Nat → Nat} {G : Gst} {D : GD}
theorem gPull_TT0 (h : Gh z w gb n ρ G D (fun _ => G.ps)) (hzw : z ≤ w.heap.size) {a b : Nat} (ha : a < n) (hb : b < n) (p : ByteArray) (h0 : p ∉ G.ps → ∀ r, G.pa r p = yct) (hl : G.ps.length ≤ 100000000) (hnd : G.ps.Nodup) (hle : (G.pa a p).heard.length + (G.pa b p).heard.length ≤ 100000000) (ft : (G.pa a p).there = true) (ff : (G.pa b p).there = true) (hd : yap (G.pa a p) (G.pa b p) = 0) :
  Calls Tryz.prog 34 #[.pointer (some ⟨gb, 0, none⟩), .int .i64 a, .int .i64 b, .string p] w fun e w' => e = .returned (.int .i64 (yap (G.pa a p) (G.pa b p))) ∧ ∃ ρ' D', Gp z w w' gb n ρ ⟨G.c, yan p G.ps, ybn G.pa a p (ybv (G.pa a p) (G.pa b p)).1⟩ D' (fun _ => yan p G.ps) ρ' := by
 have CP := yab (ybg h hzw p h0 hl)
 have n6 := h.n6
 have HND := yab (yaw (p := p) hnd)
 have HLE := yab hle
 have HD := yab hd
 clear h hle hd
 go_enter Tryz.func34, Tryz.ntmps34
 go_wp2_with (first
  |(go_at_call 31; refine CP.out.mono ?_; rintro e w1 ⟨⟨i, rfl, hi⟩, ρ1, D1, hP⟩; have P1 := yab hP; have HI := yab hi; obtain ⟨sg, sc, rg, rc, es, er, g2, gs, k0, k1, k2, k3, k4, k5, ls, lr, rs4, rr6, fr, lq, lm⟩ := hP.gh.six ha hi; obtain ⟨sg', sc', rb, rc', es', er', _, gs', j0, j1, j2, j3, j4, j5, _, lr', _, _, _, _, _⟩ := hP.gh.six hb hi; rw [es] at es'; cases es'; have lg := hP.gh.glt; simp only at k0 k1 k2 k3 k4 k5 j0 j1 j2 j3 j4 j5; have EA := yab (hP.gh.ev a ha p (List.mem_of_getElem? hi)); have EBv := yab (hP.gh.ev b hb p (List.mem_of_getElem? hi)); have RA := yab (hP.gh.re a ha p (List.mem_of_getElem? hi)); have RBv := yab (hP.gh.re b hb p (List.mem_of_getElem? hi)); have ER := yab er; obtain ⟨a4, c4, e4⟩ := EA.out.1.slice; obtain ⟨a5, c5, e5⟩ := EA.out.2.slice; obtain ⟨b4, d4, f4⟩ := EBv.out.1.slice; obtain ⟨b5, d5, f5⟩ := EBv.out.2.slice; simp only at e4 e5 f4 f5 EA EBv; have S1 := yab (P2.made w1 (G.pa a p) (G.pa b p) (D1.mv a p) (D1.hv a p) (D1.mv b p) (D1.hv b p)); rw [e4, e5, f4, f5, ft, ff] at S1; have CD : Hid (∀ V, Below w1.heap.size w1 V → Calls Tryz.prog 35 #[pV (G.pa a p) (D1.mv a p) (D1.hv a p), pV (G.pa b p) (D1.mv b p) (D1.hv b p)] V fun e w' => e = .returned (.int .i64 (yap (G.pa a p) (G.pa b p))) ∧ Below V.heap.size V w') := (fun V hV => ycn (EA.out.1.below hV) (EA.out.2.below hV) (EBv.out.1.below hV) (EBv.out.2.below hV)); have CU : Hid (∀ V, Below w1.heap.size w1 V → Calls Tryz.prog 32 #[D1.hv a p, D1.hv b p] V fun e w' => ∃ x, e = .returned x ∧ w'.ownsRow V.heap.size 82 2 x (yaa (G.pa a p).heard (G.pa b p).heard).length (evs (yaa (G.pa a p).heard (G.pa b p).heard)) ∧ Below V.heap.size V w') := (fun V hV => ybh _ _ _ _ _ (EA.out.2.below hV) (EBv.out.2.below hV) (by have := HLE.out; omega)); unfold pV at CD; rw [e4, e5, f4, f5, ft, ff, HD.out] at CD; rw [e5, f5] at CU; rw [e4, e5] at EA RA; rw [f4, f5] at EBv RBv; rw [ft] at k0; rw [ff] at j0; rw [e4] at k4; rw [e5] at k5; rw [f4] at j4; rw [f5] at j5; have E4 := yab e4; have E5 := yab e5; clear hP hi es er er' rs4 rr6 e4 e5 f4 f5)
  |(go_at_call 35; refine (CD.out _ S1.out.bel).mono ?_; rintro e w2 ⟨rfl, hb2⟩; have S2 := yab (S1.out.more hb2); clear hb2 S1 k0 k1 k2 k3 k4 k5 j0 j1 j2 j3 j4 j5 g2 gs gs' fr; obtain ⟨k0, k1, k2, k3, k4, k5⟩ := S2.out.a.cells; obtain ⟨j0, j1, j2, j3, j4, j5⟩ := S2.out.b.cells; rw [ft] at k0; rw [ff] at j0)
  |(go_at_call 32; refine (CU.out _ S2.out.bel).mono ?_; rintro e w3 ⟨u, rfl, ho3, hb3⟩; obtain ⟨ua, uc, rfl⟩ := yam ho3; have S3 := yab (S2.out.more hb3); have O3 := yab ho3; have B3 := yab hb3; clear k0 k1 k2 k3 k4 k5 j0 j1 j2 j3 j4 j5 ho3 hb3; obtain ⟨k0, k1, k2, k3, k4, k5⟩ := S3.out.a.cells; obtain ⟨j0, j1, j2, j3, j4, j5⟩ := S3.out.b.cells; rw [ft] at k0; rw [ff] at j0; have xf := S3.out.a.fz; have f0 := xf 0; have f1 := xf 1; have f2 := xf 2; have f3 := xf 3; have f4 := xf 4; have f5 := xf 5; clear xf))
 have NX1 : Hid (ρ1 w1.heap.size = 0) := by
  show _ = _
  rcases Nat.eq_zero_or_pos (ρ1 w1.heap.size) with y | y
  ·exact y
  ·have := P1.out.gh.lt w1.heap.size (by omega); omega
 have HX : Hid (w.heap.size ≤ w1.heap.size) := P1.out.fr.size
 have HZ2 : Hid (z ≤ w2.heap.size) := Nat.le_trans hzw (Nat.le_trans HX.out S2.out.bel.size)
 have LX : Hid (w1.heap.size < w2.heap.size) := S2.out.a.lt
 obtain ⟨ρ3, K3, hv3, ro3, hr3, ro3'⟩ := ((Gw.start P1.out HND.out ha HI.out ER.out).below S2.out.bel).fresh2 HZ2.out B3.out O3.out
 have NX : Hid (ρ3 w1.heap.size = 0) := hr3 _ NX1.out LX.out
 have K5 : Hid (Gw z w (w3.setCell ⟨w1.heap.size, 5, none⟩ (.slice ua (yaa (G.pa a p).heard (G.pa b p).heard).length uc)) gb n ρ ρ3 G.c (yan p G.ps) G.pa a p i rg rc (G.pa a p) (D1.mv a p) (D1.hv a p)) := (K3.away NX.out HX.out 5 [(.slice ua (yaa (G.pa a p).heard (G.pa b p).heard).length uc)])
 have S5 : Hid (ygd (w3.setCell ⟨w1.heap.size, 5, none⟩ (.slice ua (yaa (G.pa a p).heard (G.pa b p).heard).length uc)) w1.heap.size ⟨true, (G.pa a p).text, (G.pa a p).birth, (G.pa a p).made, yaa (G.pa a p).heard (G.pa b p).heard⟩ (.slice a4 (G.pa a p).made.length c4) (.slice ua (yaa (G.pa a p).heard (G.pa b p).heard).length uc)) := by
  have q := (S3.out.a.hear (yaa (G.pa a p).heard (G.pa b p).heard) (.slice ua (yaa (G.pa a p).heard (G.pa b p).heard).length uc))
  rw [ft] at q
  exact q
 have M5 : Hid (EvL (w3.setCell ⟨w1.heap.size, 5, none⟩ (.slice ua (yaa (G.pa a p).heard (G.pa b p).heard).length uc)) (.slice a4 (G.pa a p).made.length c4) (G.pa a p).made) := ((EA.out.1.below S3.out.bel).away (ro3' _ _ (by decide) RA.out.1) NX.out 5 [(.slice ua (yaa (G.pa a p).heard (G.pa b p).heard).length uc)])
 have U5 : Hid (EvL (w3.setCell ⟨w1.heap.size, 5, none⟩ (.slice ua (yaa (G.pa a p).heard (G.pa b p).heard).length uc)) (.slice ua (yaa (G.pa a p).heard (G.pa b p).heard).length uc) (yaa (G.pa a p).heard (G.pa b p).heard)) := (hv3.away ro3 NX.out 5 [(.slice ua (yaa (G.pa a p).heard (G.pa b p).heard).length uc)])
 have MR : Hid (ybs ρ3 (.slice a4 (G.pa a p).made.length c4) 5) := (ro3' _ _ (by decide) RA.out.1)
 have UR := yab ro3
 clear k0 k1 k2 k3 k4 k5 j0 j1 j2 j3 j4 j5 f0 f1 f2 f3 f4 f5 K3 hv3 ro3 hr3 ro3'
 generalize (w3.setCell ⟨w1.heap.size, 5, none⟩ (.slice ua (yaa (G.pa a p).heard (G.pa b p).heard).length uc)) = V5 at *
 obtain ⟨k0, k1, k2, k3, k4, k5⟩ := S5.out.cells
 obtain ⟨sg', sc', g2, gs, lg', ls', _, _, lq'⟩ := K5.out.rowc
 obtain ⟨r0, r1, r2, r3, r4, r5, lr5, rf, _⟩ := K5.out.cells
 have h0' := rf (i * 6)
 have h1 := rf (i * 6 + 1)
 have h2 := rf (i * 6 + 2)
 have h3 := rf (i * 6 + 3)
 have h4 := rf (i * 6 + 4)
 have h5 := rf (i * 6 + 5)
 have lX := S5.out.lt
 have KF := yab (K5.out.all (g' := ⟨true, (G.pa a p).text, (G.pa a p).birth, (G.pa a p).made, yaa (G.pa a p).heard (G.pa b p).heard⟩) ⟨M5.out, U5.out⟩ ⟨MR.out, UR.out⟩)
 clear rf
 go_region
 all_goals
  clear k0 k1 k2 k3 k4 k5 r0 r1 r2 r3 r4 r5 h0' h1 h2 h3 h4 h5 g2 gs
  go_wp2_with fail
  go_ret
  obtain ⟨D6, P6⟩ := KF.out.gp
  refine ⟨by rw [HD.out]; rfl, ρ3, D6, ?_⟩
  have e : (ybv (G.pa a p) (G.pa b p)).1 = ⟨true, (G.pa a p).text, (G.pa a p).birth, (G.pa a p).made, yaa (G.pa a p).heard (G.pa b p).heard⟩ := by
   unfold ybv
   rw [HD.out, ft, ff]
   rfl
  rw [e]
  exact P6.drew
theorem gPull_FT0 (h : Gh z w gb n ρ G D (fun _ => G.ps)) (hzw : z ≤ w.heap.size) {a b : Nat} (ha : a < n) (hb : b < n) (p : ByteArray) (h0 : p ∉ G.ps → ∀ r, G.pa r p = yct) (hl : G.ps.length ≤ 100000000) (hnd : G.ps.Nodup) (hle : (G.pa a p).heard.length + (G.pa b p).heard.length ≤ 100000000) (ft : (G.pa a p).there = false) (ff : (G.pa b p).there = true) (hd : yap (G.pa a p) (G.pa b p) = 0) :
  Calls Tryz.prog 34 #[.pointer (some ⟨gb, 0, none⟩), .int .i64 a, .int .i64 b, .string p] w fun e w' => e = .returned (.int .i64 (yap (G.pa a p) (G.pa b p))) ∧ ∃ ρ' D', Gp z w w' gb n ρ ⟨G.c, yan p G.ps, ybn G.pa a p (ybv (G.pa a p) (G.pa b p)).1⟩ D' (fun _ => yan p G.ps) ρ' := by
 have CP := yab (ybg h hzw p h0 hl)
 have n6 := h.n6
 have HND := yab (yaw (p := p) hnd)
 have HLE := yab hle
 have HD := yab hd
 clear h hle hd
 go_enter Tryz.func34, Tryz.ntmps34
 go_wp2_with (first
  |(go_at_call 31; refine CP.out.mono ?_; rintro e w1 ⟨⟨i, rfl, hi⟩, ρ1, D1, hP⟩; have P1 := yab hP; have HI := yab hi; obtain ⟨sg, sc, rg, rc, es, er, g2, gs, k0, k1, k2, k3, k4, k5, ls, lr, rs4, rr6, fr, lq, lm⟩ := hP.gh.six ha hi; obtain ⟨sg', sc', rb, rc', es', er', _, gs', j0, j1, j2, j3, j4, j5, _, lr', _, _, _, _, _⟩ := hP.gh.six hb hi; rw [es] at es'; cases es'; have lg := hP.gh.glt; simp only at k0 k1 k2 k3 k4 k5 j0 j1 j2 j3 j4 j5; have EA := yab (hP.gh.ev a ha p (List.mem_of_getElem? hi)); have EBv := yab (hP.gh.ev b hb p (List.mem_of_getElem? hi)); have RA := yab (hP.gh.re a ha p (List.mem_of_getElem? hi)); have RBv := yab (hP.gh.re b hb p (List.mem_of_getElem? hi)); have ER := yab er; obtain ⟨a4, c4, e4⟩ := EA.out.1.slice; obtain ⟨a5, c5, e5⟩ := EA.out.2.slice; obtain ⟨b4, d4, f4⟩ := EBv.out.1.slice; obtain ⟨b5, d5, f5⟩ := EBv.out.2.slice; simp only at e4 e5 f4 f5 EA EBv; have S1 := yab (P2.made w1 (G.pa a p) (G.pa b p) (D1.mv a p) (D1.hv a p) (D1.mv b p) (D1.hv b p)); rw [e4, e5, f4, f5, ft, ff] at S1; have CD : Hid (∀ V, Below w1.heap.size w1 V → Calls Tryz.prog 35 #[pV (G.pa a p) (D1.mv a p) (D1.hv a p), pV (G.pa b p) (D1.mv b p) (D1.hv b p)] V fun e w' => e = .returned (.int .i64 (yap (G.pa a p) (G.pa b p))) ∧ Below V.heap.size V w') := (fun V hV => ycn (EA.out.1.below hV) (EA.out.2.below hV) (EBv.out.1.below hV) (EBv.out.2.below hV)); have CU : Hid (∀ V, Below w1.heap.size w1 V → Calls Tryz.prog 32 #[D1.hv a p, D1.hv b p] V fun e w' => ∃ x, e = .returned x ∧ w'.ownsRow V.heap.size 82 2 x (yaa (G.pa a p).heard (G.pa b p).heard).length (evs (yaa (G.pa a p).heard (G.pa b p).heard)) ∧ Below V.heap.size V w') := (fun V hV => ybh _ _ _ _ _ (EA.out.2.below hV) (EBv.out.2.below hV) (by have := HLE.out; omega)); unfold pV at CD; rw [e4, e5, f4, f5, ft, ff, HD.out] at CD; rw [e5, f5] at CU; rw [e4, e5] at EA RA; rw [f4, f5] at EBv RBv; rw [ft] at k0; rw [ff] at j0; rw [e4] at k4; rw [e5] at k5; rw [f4] at j4; rw [f5] at j5; have E4 := yab e4; have E5 := yab e5; clear hP hi es er er' rs4 rr6 e4 e5 f4 f5)
  |(go_at_call 35; refine (CD.out _ S1.out.bel).mono ?_; rintro e w2 ⟨rfl, hb2⟩; have S2 := yab (S1.out.more hb2); clear hb2 S1 k0 k1 k2 k3 k4 k5 j0 j1 j2 j3 j4 j5 g2 gs gs' fr; obtain ⟨k0, k1, k2, k3, k4, k5⟩ := S2.out.a.cells; obtain ⟨j0, j1, j2, j3, j4, j5⟩ := S2.out.b.cells; rw [ft] at k0; rw [ff] at j0)
  |(go_at_call 32; refine (CU.out _ S2.out.bel).mono ?_; rintro e w3 ⟨u, rfl, ho3, hb3⟩; obtain ⟨ua, uc, rfl⟩ := yam ho3; have S3 := yab (S2.out.more hb3); have O3 := yab ho3; have B3 := yab hb3; clear k0 k1 k2 k3 k4 k5 j0 j1 j2 j3 j4 j5 ho3 hb3; obtain ⟨k0, k1, k2, k3, k4, k5⟩ := S3.out.a.cells; obtain ⟨j0, j1, j2, j3, j4, j5⟩ := S3.out.b.cells; rw [ft] at k0; rw [ff] at j0; have xf := S3.out.a.fz; have f0 := xf 0; have f1 := xf 1; have f2 := xf 2; have f3 := xf 3; have f4 := xf 4; have f5 := xf 5; clear xf))
 have NX1 : Hid (ρ1 w1.heap.size = 0) := by
  show _ = _
  rcases Nat.eq_zero_or_pos (ρ1 w1.heap.size) with y | y
  ·exact y
  ·have := P1.out.gh.lt w1.heap.size (by omega); omega
 have HX : Hid (w.heap.size ≤ w1.heap.size) := P1.out.fr.size
 have HZ2 : Hid (z ≤ w2.heap.size) := Nat.le_trans hzw (Nat.le_trans HX.out S2.out.bel.size)
 have LX : Hid (w1.heap.size < w2.heap.size) := S2.out.a.lt
 obtain ⟨ρ3, K3, hv3, ro3, hr3, ro3'⟩ := ((Gw.start P1.out HND.out ha HI.out ER.out).below S2.out.bel).fresh2 HZ2.out B3.out O3.out
 have NX : Hid (ρ3 w1.heap.size = 0) := hr3 _ NX1.out LX.out
 have K5 : Hid (Gw z w (w3.setCell ⟨w1.heap.size, 5, none⟩ (.slice ua (yaa (G.pa a p).heard (G.pa b p).heard).length uc)) gb n ρ ρ3 G.c (yan p G.ps) G.pa a p i rg rc (G.pa a p) (D1.mv a p) (D1.hv a p)) := (K3.away NX.out HX.out 5 [(.slice ua (yaa (G.pa a p).heard (G.pa b p).heard).length uc)])
 have S5 : Hid (ygd (w3.setCell ⟨w1.heap.size, 5, none⟩ (.slice ua (yaa (G.pa a p).heard (G.pa b p).heard).length uc)) w1.heap.size ⟨false, (G.pa a p).text, (G.pa a p).birth, (G.pa a p).made, yaa (G.pa a p).heard (G.pa b p).heard⟩ (.slice a4 (G.pa a p).made.length c4) (.slice ua (yaa (G.pa a p).heard (G.pa b p).heard).length uc)) := by
  have q := (S3.out.a.hear (yaa (G.pa a p).heard (G.pa b p).heard) (.slice ua (yaa (G.pa a p).heard (G.pa b p).heard).length uc))
  rw [ft] at q
  exact q
 have M5 : Hid (EvL (w3.setCell ⟨w1.heap.size, 5, none⟩ (.slice ua (yaa (G.pa a p).heard (G.pa b p).heard).length uc)) (.slice a4 (G.pa a p).made.length c4) (G.pa a p).made) := ((EA.out.1.below S3.out.bel).away (ro3' _ _ (by decide) RA.out.1) NX.out 5 [(.slice ua (yaa (G.pa a p).heard (G.pa b p).heard).length uc)])
 have U5 : Hid (EvL (w3.setCell ⟨w1.heap.size, 5, none⟩ (.slice ua (yaa (G.pa a p).heard (G.pa b p).heard).length uc)) (.slice ua (yaa (G.pa a p).heard (G.pa b p).heard).length uc) (yaa (G.pa a p).heard (G.pa b p).heard)) := (hv3.away ro3 NX.out 5 [(.slice ua (yaa (G.pa a p).heard (G.pa b p).heard).length uc)])
 have MR : Hid (ybs ρ3 (.slice a4 (G.pa a p).made.length c4) 5) := (ro3' _ _ (by decide) RA.out.1)
 have UR := yab ro3
 clear k0 k1 k2 k3 k4 k5 j0 j1 j2 j3 j4 j5 f0 f1 f2 f3 f4 f5 K3 hv3 ro3 hr3 ro3'
 generalize (w3.setCell ⟨w1.heap.size, 5, none⟩ (.slice ua (yaa (G.pa a p).heard (G.pa b p).heard).length uc)) = V5 at *
 obtain ⟨k0, k1, k2, k3, k4, k5⟩ := S5.out.cells
 obtain ⟨sg', sc', g2, gs, lg', ls', _, _, lq'⟩ := K5.out.rowc
 obtain ⟨r0, r1, r2, r3, r4, r5, lr5, rf, _⟩ := K5.out.cells
 have h0' := rf (i * 6)
 have h1 := rf (i * 6 + 1)
 have h2 := rf (i * 6 + 2)
 have h3 := rf (i * 6 + 3)
 have h4 := rf (i * 6 + 4)
 have h5 := rf (i * 6 + 5)
 have lX := S5.out.lt
 have KF := yab (K5.out.all (g' := ⟨false, (G.pa a p).text, (G.pa a p).birth, (G.pa a p).made, yaa (G.pa a p).heard (G.pa b p).heard⟩) ⟨M5.out, U5.out⟩ ⟨MR.out, UR.out⟩)
 clear rf
 go_region
 all_goals
  clear k0 k1 k2 k3 k4 k5 r0 r1 r2 r3 r4 r5 h0' h1 h2 h3 h4 h5 g2 gs
  go_wp2_with fail
  go_ret
  obtain ⟨D6, P6⟩ := KF.out.gp
  refine ⟨by rw [HD.out]; rfl, ρ3, D6, ?_⟩
  have e : (ybv (G.pa a p) (G.pa b p)).1 = ⟨false, (G.pa a p).text, (G.pa a p).birth, (G.pa a p).made, yaa (G.pa a p).heard (G.pa b p).heard⟩ := by
   unfold ybv
   rw [HD.out, ft, ff]
   rfl
  rw [e]
  exact P6.drew
theorem gPull_FF0 (h : Gh z w gb n ρ G D (fun _ => G.ps)) (hzw : z ≤ w.heap.size) {a b : Nat} (ha : a < n) (hb : b < n) (p : ByteArray) (h0 : p ∉ G.ps → ∀ r, G.pa r p = yct) (hl : G.ps.length ≤ 100000000) (hnd : G.ps.Nodup) (hle : (G.pa a p).heard.length + (G.pa b p).heard.length ≤ 100000000) (ft : (G.pa a p).there = false) (ff : (G.pa b p).there = false) (hd : yap (G.pa a p) (G.pa b p) = 0) :
  Calls Tryz.prog 34 #[.pointer (some ⟨gb, 0, none⟩), .int .i64 a, .int .i64 b, .string p] w fun e w' => e = .returned (.int .i64 (yap (G.pa a p) (G.pa b p))) ∧ ∃ ρ' D', Gp z w w' gb n ρ ⟨G.c, yan p G.ps, ybn G.pa a p (ybv (G.pa a p) (G.pa b p)).1⟩ D' (fun _ => yan p G.ps) ρ' := by
 have CP := yab (ybg h hzw p h0 hl)
 have n6 := h.n6
 have HND := yab (yaw (p := p) hnd)
 have HLE := yab hle
 have HD := yab hd
 clear h hle hd
 go_enter Tryz.func34, Tryz.ntmps34
 go_wp2_with (first
  |(go_at_call 31; refine CP.out.mono ?_; rintro e w1 ⟨⟨i, rfl, hi⟩, ρ1, D1, hP⟩; have P1 := yab hP; have HI := yab hi; obtain ⟨sg, sc, rg, rc, es, er, g2, gs, k0, k1, k2, k3, k4, k5, ls, lr, rs4, rr6, fr, lq, lm⟩ := hP.gh.six ha hi; obtain ⟨sg', sc', rb, rc', es', er', _, gs', j0, j1, j2, j3, j4, j5, _, lr', _, _, _, _, _⟩ := hP.gh.six hb hi; rw [es] at es'; cases es'; have lg := hP.gh.glt; simp only at k0 k1 k2 k3 k4 k5 j0 j1 j2 j3 j4 j5; have EA := yab (hP.gh.ev a ha p (List.mem_of_getElem? hi)); have EBv := yab (hP.gh.ev b hb p (List.mem_of_getElem? hi)); have RA := yab (hP.gh.re a ha p (List.mem_of_getElem? hi)); have RBv := yab (hP.gh.re b hb p (List.mem_of_getElem? hi)); have ER := yab er; obtain ⟨a4, c4, e4⟩ := EA.out.1.slice; obtain ⟨a5, c5, e5⟩ := EA.out.2.slice; obtain ⟨b4, d4, f4⟩ := EBv.out.1.slice; obtain ⟨b5, d5, f5⟩ := EBv.out.2.slice; simp only at e4 e5 f4 f5 EA EBv; have S1 := yab (P2.made w1 (G.pa a p) (G.pa b p) (D1.mv a p) (D1.hv a p) (D1.mv b p) (D1.hv b p)); rw [e4, e5, f4, f5, ft, ff] at S1; have CD : Hid (∀ V, Below w1.heap.size w1 V → Calls Tryz.prog 35 #[pV (G.pa a p) (D1.mv a p) (D1.hv a p), pV (G.pa b p) (D1.mv b p) (D1.hv b p)] V fun e w' => e = .returned (.int .i64 (yap (G.pa a p) (G.pa b p))) ∧ Below V.heap.size V w') := (fun V hV => ycn (EA.out.1.below hV) (EA.out.2.below hV) (EBv.out.1.below hV) (EBv.out.2.below hV)); have CU : Hid (∀ V, Below w1.heap.size w1 V → Calls Tryz.prog 32 #[D1.hv a p, D1.hv b p] V fun e w' => ∃ x, e = .returned x ∧ w'.ownsRow V.heap.size 82 2 x (yaa (G.pa a p).heard (G.pa b p).heard).length (evs (yaa (G.pa a p).heard (G.pa b p).heard)) ∧ Below V.heap.size V w') := (fun V hV => ybh _ _ _ _ _ (EA.out.2.below hV) (EBv.out.2.below hV) (by have := HLE.out; omega)); unfold pV at CD; rw [e4, e5, f4, f5, ft, ff, HD.out] at CD; rw [e5, f5] at CU; rw [e4, e5] at EA RA; rw [f4, f5] at EBv RBv; rw [ft] at k0; rw [ff] at j0; rw [e4] at k4; rw [e5] at k5; rw [f4] at j4; rw [f5] at j5; have E4 := yab e4; have E5 := yab e5; clear hP hi es er er' rs4 rr6 e4 e5 f4 f5)
  |(go_at_call 35; refine (CD.out _ S1.out.bel).mono ?_; rintro e w2 ⟨rfl, hb2⟩; have S2 := yab (S1.out.more hb2); clear hb2 S1 k0 k1 k2 k3 k4 k5 j0 j1 j2 j3 j4 j5 g2 gs gs' fr; obtain ⟨k0, k1, k2, k3, k4, k5⟩ := S2.out.a.cells; obtain ⟨j0, j1, j2, j3, j4, j5⟩ := S2.out.b.cells; rw [ft] at k0; rw [ff] at j0)
  |(go_at_call 32; refine (CU.out _ S2.out.bel).mono ?_; rintro e w3 ⟨u, rfl, ho3, hb3⟩; obtain ⟨ua, uc, rfl⟩ := yam ho3; have S3 := yab (S2.out.more hb3); have O3 := yab ho3; have B3 := yab hb3; clear k0 k1 k2 k3 k4 k5 j0 j1 j2 j3 j4 j5 ho3 hb3; obtain ⟨k0, k1, k2, k3, k4, k5⟩ := S3.out.a.cells; obtain ⟨j0, j1, j2, j3, j4, j5⟩ := S3.out.b.cells; rw [ft] at k0; rw [ff] at j0; have xf := S3.out.a.fz; have f0 := xf 0; have f1 := xf 1; have f2 := xf 2; have f3 := xf 3; have f4 := xf 4; have f5 := xf 5; clear xf))
 have NX1 : Hid (ρ1 w1.heap.size = 0) := by
  show _ = _
  rcases Nat.eq_zero_or_pos (ρ1 w1.heap.size) with y | y
  ·exact y
  ·have := P1.out.gh.lt w1.heap.size (by omega); omega
 have HX : Hid (w.heap.size ≤ w1.heap.size) := P1.out.fr.size
 have HZ2 : Hid (z ≤ w2.heap.size) := Nat.le_trans hzw (Nat.le_trans HX.out S2.out.bel.size)
 have LX : Hid (w1.heap.size < w2.heap.size) := S2.out.a.lt
 obtain ⟨ρ3, K3, hv3, ro3, hr3, ro3'⟩ := ((Gw.start P1.out HND.out ha HI.out ER.out).below S2.out.bel).fresh2 HZ2.out B3.out O3.out
 have NX : Hid (ρ3 w1.heap.size = 0) := hr3 _ NX1.out LX.out
 have K5 : Hid (Gw z w (w3.setCell ⟨w1.heap.size, 5, none⟩ (.slice ua (yaa (G.pa a p).heard (G.pa b p).heard).length uc)) gb n ρ ρ3 G.c (yan p G.ps) G.pa a p i rg rc (G.pa a p) (D1.mv a p) (D1.hv a p)) := (K3.away NX.out HX.out 5 [(.slice ua (yaa (G.pa a p).heard (G.pa b p).heard).length uc)])
 have S5 : Hid (ygd (w3.setCell ⟨w1.heap.size, 5, none⟩ (.slice ua (yaa (G.pa a p).heard (G.pa b p).heard).length uc)) w1.heap.size ⟨false, (G.pa a p).text, (G.pa a p).birth, (G.pa a p).made, yaa (G.pa a p).heard (G.pa b p).heard⟩ (.slice a4 (G.pa a p).made.length c4) (.slice ua (yaa (G.pa a p).heard (G.pa b p).heard).length uc)) := by
  have q := (S3.out.a.hear (yaa (G.pa a p).heard (G.pa b p).heard) (.slice ua (yaa (G.pa a p).heard (G.pa b p).heard).length uc))
  rw [ft] at q
  exact q
 have M5 : Hid (EvL (w3.setCell ⟨w1.heap.size, 5, none⟩ (.slice ua (yaa (G.pa a p).heard (G.pa b p).heard).length uc)) (.slice a4 (G.pa a p).made.length c4) (G.pa a p).made) := ((EA.out.1.below S3.out.bel).away (ro3' _ _ (by decide) RA.out.1) NX.out 5 [(.slice ua (yaa (G.pa a p).heard (G.pa b p).heard).length uc)])
 have U5 : Hid (EvL (w3.setCell ⟨w1.heap.size, 5, none⟩ (.slice ua (yaa (G.pa a p).heard (G.pa b p).heard).length uc)) (.slice ua (yaa (G.pa a p).heard (G.pa b p).heard).length uc) (yaa (G.pa a p).heard (G.pa b p).heard)) := (hv3.away ro3 NX.out 5 [(.slice ua (yaa (G.pa a p).heard (G.pa b p).heard).length uc)])
 have MR : Hid (ybs ρ3 (.slice a4 (G.pa a p).made.length c4) 5) := (ro3' _ _ (by decide) RA.out.1)
 have UR := yab ro3
 clear k0 k1 k2 k3 k4 k5 j0 j1 j2 j3 j4 j5 f0 f1 f2 f3 f4 f5 K3 hv3 ro3 hr3 ro3'
 generalize (w3.setCell ⟨w1.heap.size, 5, none⟩ (.slice ua (yaa (G.pa a p).heard (G.pa b p).heard).length uc)) = V5 at *
 obtain ⟨k0, k1, k2, k3, k4, k5⟩ := S5.out.cells
 obtain ⟨sg', sc', g2, gs, lg', ls', _, _, lq'⟩ := K5.out.rowc
 obtain ⟨r0, r1, r2, r3, r4, r5, lr5, rf, _⟩ := K5.out.cells
 have h0' := rf (i * 6)
 have h1 := rf (i * 6 + 1)
 have h2 := rf (i * 6 + 2)
 have h3 := rf (i * 6 + 3)
 have h4 := rf (i * 6 + 4)
 have h5 := rf (i * 6 + 5)
 have lX := S5.out.lt
 have KF := yab (K5.out.all (g' := ⟨false, (G.pa a p).text, (G.pa a p).birth, (G.pa a p).made, yaa (G.pa a p).heard (G.pa b p).heard⟩) ⟨M5.out, U5.out⟩ ⟨MR.out, UR.out⟩)
 clear rf
 go_region
 all_goals
  clear k0 k1 k2 k3 k4 k5 r0 r1 r2 r3 r4 r5 h0' h1 h2 h3 h4 h5 g2 gs
  go_wp2_with fail
  go_ret
  obtain ⟨D6, P6⟩ := KF.out.gp
  refine ⟨by rw [HD.out]; rfl, ρ3, D6, ?_⟩
  have e : (ybv (G.pa a p) (G.pa b p)).1 = ⟨false, (G.pa a p).text, (G.pa a p).birth, (G.pa a p).made, yaa (G.pa a p).heard (G.pa b p).heard⟩ := by
   unfold ybv
   rw [HD.out, ft, ff]
   rfl
  rw [e]
  exact P6.drew
end
end Go.Proofs.YtaelaldmibgibaaGreat

namespace Go.Proofs.YtaelaldmibgibaaGreat
open Go.RowKit
open Classical
section
variable {z : Nat} {w : World} {gb n : Nat} {ρ : Nat → Nat} {G : Gst} {D : GD}
theorem yps (h : Gh z w gb n ρ G D (fun _ => G.ps)) (hzw : z ≤ w.heap.size) {a b : Nat} (ha : a < n) (hb : b < n) (p : ByteArray) (h0 : p ∉ G.ps → ∀ r, G.pa r p = yct) (hl : G.ps.length ≤ 100000000) (hnd : G.ps.Nodup) (hle : (G.pa a p).heard.length + (G.pa b p).heard.length ≤ 100000000) :
  Calls Tryz.prog 34 #[.pointer (some ⟨gb, 0, none⟩), .int .i64 a, .int .i64 b, .string p] w fun e w' => e = .returned (.int .i64 (yap (G.pa a p) (G.pa b p))) ∧ ∃ ρ' D', Gp z w w' gb n ρ ⟨G.c, yan p G.ps, ybn G.pa a p (ybv (G.pa a p) (G.pa b p)).1⟩ D' (fun _ => yan p G.ps) ρ' := by
 cases ft : (G.pa a p).there
 ·cases ff : (G.pa b p).there
  ·have hd : yap (G.pa a p) (G.pa b p) = 0 := by unfold yap; rw [ft, ff]; rfl
   exact gPull_FF0 h hzw ha hb p h0 hl hnd hle ft ff hd
  ·have hd : yap (G.pa a p) (G.pa b p) = 0 ∨ yap (G.pa a p) (G.pa b p) = 1 ∨ yap (G.pa a p) (G.pa b p) = 3 := by
    unfold yap
    rw [ft, ff]
    simp only [Bool.false_and, Bool.and_true, Bool.not_true, Bool.and_false, Bool.false_eq_true, if_false, Bool.true_and]
    (repeat' split) <;> simp
   rcases hd with hd | hd | hd
   ·exact gPull_FT0 h hzw ha hb p h0 hl hnd hle ft ff hd
   ·exact gPull_FT1 h hzw ha hb p h0 hl hnd hle ft ff hd
   ·exact gPull_FT3 h hzw ha hb p h0 hl hnd hle ft ff hd
 ·cases ff : (G.pa b p).there
  ·have hd : yap (G.pa a p) (G.pa b p) = 0 ∨ yap (G.pa a p) (G.pa b p) = 2 ∨ yap (G.pa a p) (G.pa b p) = 3 := by
    unfold yap
    rw [ft, ff]
    simp only [Bool.false_and, Bool.and_true, Bool.not_true, Bool.and_false, Bool.false_eq_true, if_false, Bool.true_and]
    (repeat' split) <;> simp
   rcases hd with hd | hd | hd
   ·exact gPull_TF0 h hzw ha hb p h0 hl hnd hle ft ff hd
   ·exact gPull_TF2 h hzw ha hb p h0 hl hnd hle ft ff hd
   ·exact gPull_TF3 h hzw ha hb p h0 hl hnd hle ft ff hd
  ·have hd : yap (G.pa a p) (G.pa b p) = 0 ∨ yap (G.pa a p) (G.pa b p) = 1 ∨ yap (G.pa a p) (G.pa b p) = 3 := by
    unfold yap
    rw [ft, ff]
    simp only [Bool.and_self, if_true]
    (repeat' split) <;> simp
   rcases hd with hd | hd | hd
   ·exact gPull_TT0 h hzw ha hb p h0 hl hnd hle ft ff hd
   ·exact gPull_TT1 h hzw ha hb p h0 hl hnd hle ft ff hd
   ·exact gPull_TT3 h hzw ha hb p h0 hl hnd hle ft ff hd
end
end Go.Proofs.YtaelaldmibgibaaGreat
