/- Two records of one path: is one a stranger, what does a pull do. -/
import Derived.Test.YtaelaldmibgibaaGreatH25
import Derived.Deep.RegionLaw

set_option linter.unusedVariables false
set_option linter.unusedSimpArgs false
set_option linter.unusedSectionVars false
set_option maxHeartbeats 8000000
set_option maxRecDepth 100000

namespace Go.Proofs.YtaelaldmibgibaaGreat
open Go.RowKit
structure R2 (w V : World) (a b : Rec) : Prop where
 ra : yas V w.heap.size a
 rb : yas V (w.heap.size + 1) b
 bel : Below w.heap.size w V
theorem R2.made (w : World) (a b : Rec) : R2 w ((w.alloc (.cells #[.string a.text, .int .i64 a.br, .int .i64 a.bn, .int .i64 (a.ch 0), .int .i64 (a.ch 1), .int .i64 (a.ch 2), .int .i64 (a.ch 3), .int .i64 (a.ch 4), .int .i64 (a.ch 5), .int .i64 (a.kn 0), .int .i64 (a.kn 1), .int .i64 (a.kn 2), .int .i64 (a.kn 3), .int .i64 (a.kn 4), .int .i64 (a.kn 5)] 120)).alloc (.cells #[.string b.text, .int .i64 b.br, .int .i64 b.bn, .int .i64 (b.ch 0), .int .i64 (b.ch 1), .int .i64 (b.ch 2), .int .i64 (b.ch 3), .int .i64 (b.ch 4), .int .i64 (b.ch 5), .int .i64 (b.kn 0), .int .i64 (b.kn 1), .int .i64 (b.kn 2), .int .i64 (b.kn 3), .int .i64 (b.kn 4), .int .i64 (b.kn 5)] 120)) a b :=
 ⟨yas.keep ⟨heap_alloc_new _ _⟩ (Below.heap_alloc _ _ _ (by simp)), ⟨by have := heap_alloc_new (w.alloc (.cells #[.string a.text, .int .i64 a.br, .int .i64 a.bn, .int .i64 (a.ch 0), .int .i64 (a.ch 1), .int .i64 (a.ch 2), .int .i64 (a.ch 3), .int .i64 (a.ch 4), .int .i64 (a.ch 5), .int .i64 (a.kn 0), .int .i64 (a.kn 1), .int .i64 (a.kn 2), .int .i64 (a.kn 3), .int .i64 (a.kn 4), .int .i64 (a.kn 5)] 120)) (.cells #[.string b.text, .int .i64 b.br, .int .i64 b.bn, .int .i64 (b.ch 0), .int .i64 (b.ch 1), .int .i64 (b.ch 2), .int .i64 (b.ch 3), .int .i64 (b.ch 4), .int .i64 (b.ch 5), .int .i64 (b.kn 0), .int .i64 (b.kn 1), .int .i64 (b.kn 2), .int .i64 (b.kn 3), .int .i64 (b.kn 4), .int .i64 (b.kn 5)] 120); simpa using this⟩, ((Below.refl _ _).alloc (Nat.le_refl _) _).alloc (by simp) _⟩
theorem R2.more {w V V' : World} {a b : Rec} (h : R2 w V a b) (hb : Below V.heap.size V V') : R2 w V' a b :=
 ⟨h.ra.more hb, h.rb.more hb, h.bel.trans (hb.mono h.bel.size)⟩
theorem R2.drewN {w V : World} {a b : Rec} (h : R2 w V a b) (n : Nat) : R2 w (V.drewN n) a b := h.more ⟨rfl, rfl, rfl, Nat.le_refl _, fun _ _ => rfl⟩
def yhd (f t : Rec) : Bool := (decide (0 < t.bn) && !decide (0 < f.bn)) && !hasB t f.kn
theorem ycu (f t : Rec) (ht : yfb t) (w : World) :
  Calls Tryz.prog 78 #[yag f, yag t] w fun e w' => e = .returned (.bool (yhd f t)) ∧ Below w.heap.size w w' := by
 have HB := yab (fun V => yhf t f.kn ht V)
 unfold ybw at HB
 have S0 := yab (R2.made w f t)
 unfold yag yhd
 generalize hasB t f.kn = z at *
 clear ht
 cases hd1 : decide (0 < t.bn) <;> cases hd2 : decide (0 < f.bn)
 all_goals
  go_enter Tryz.func78, Tryz.ntmps78
  go_wp2_with (first
   |(go_at_call 60; refine (yaz _ _ _ _ _ _ _ _ _ _).mono ?_; (try clear k0 k1 k2 k3 k4 k5 k6 k7 k8 k9 k10 k11 k12 k13 k14 j0 j1 j2 j3 j4 j5 j6 j7 j8 j9 j10 j11 j12 j13 j14); rintro e wn ⟨rfl, hbr⟩; have S0 := yab (S0.out.more hbr); obtain ⟨k0, k1, k2, k3, k4, k5, k6, k7, k8, k9, k10, k11, k12, k13, k14⟩ := S0.out.ra.cells; obtain ⟨j0, j1, j2, j3, j4, j5, j6, j7, j8, j9, j10, j11, j12, j13, j14⟩ := S0.out.rb.cells; clear hbr)
   |(go_at_call 98; refine (HB.out _).mono ?_; (try clear k0 k1 k2 k3 k4 k5 k6 k7 k8 k9 k10 k11 k12 k13 k14 j0 j1 j2 j3 j4 j5 j6 j7 j8 j9 j10 j11 j12 j13 j14); rintro e wn ⟨rfl, hbr⟩; have S0 := yab (S0.out.more hbr); obtain ⟨k0, k1, k2, k3, k4, k5, k6, k7, k8, k9, k10, k11, k12, k13, k14⟩ := S0.out.ra.cells; obtain ⟨j0, j1, j2, j3, j4, j5, j6, j7, j8, j9, j10, j11, j12, j13, j14⟩ := S0.out.rb.cells; clear hbr))
  go_ret
  exact ⟨rfl, S0.out.bel⟩
def inB (t f : Rec) : Int := if ysg t f = true then 0 else if leB f.ch t.kn = leB t.ch f.kn then 3 else if leB t.ch f.kn = true then 1 else 0
theorem inBoth_any (t f : Rec) (w : World) :
  Calls Tryz.prog 99 #[yag t, yag f] w fun e w' => e = .returned (.int .i64 (inB t f)) ∧ Below w.heap.size w w' := by
 have IV := yab (fun V => yof t f V)
 have H1 := yab (fun V => ycx f t.kn V)
 have H2 := yab (fun V => ycx t f.kn V)
 unfold ybw at IV H1 H2
 have S0 := yab (R2.made w t f)
 unfold yag inB
 generalize ysg t f = z0 at *
 generalize leB f.ch t.kn = z1 at *
 generalize leB t.ch f.kn = z2 at *
 cases z0
 ·go_enter Tryz.func99, Tryz.ntmps99
  go_wp2_with (first
   |(go_at_call 125; refine (IV.out _).mono ?_; (try clear k0 k1 k2 k3 k4 k5 k6 k7 k8 k9 k10 k11 k12 k13 k14 j0 j1 j2 j3 j4 j5 j6 j7 j8 j9 j10 j11 j12 j13 j14); rintro e wn ⟨rfl, hbr⟩; have S0 := yab (S0.out.more hbr); obtain ⟨k0, k1, k2, k3, k4, k5, k6, k7, k8, k9, k10, k11, k12, k13, k14⟩ := S0.out.ra.cells; obtain ⟨j0, j1, j2, j3, j4, j5, j6, j7, j8, j9, j10, j11, j12, j13, j14⟩ := S0.out.rb.cells; clear hbr))
  have S0 := yab (S0.out.drewN 1)
  go_region_law (first
   |(go_simp; go_at_call_of 126 (Value.agg #[.int .i64 (t.kn 0), .int .i64 (t.kn 1), .int .i64 (t.kn 2), .int .i64 (t.kn 3), .int .i64 (t.kn 4), .int .i64 (t.kn 5)]); refine (H1.out _).mono ?_; (try clear k0 k1 k2 k3 k4 k5 k6 k7 k8 k9 k10 k11 k12 k13 k14 j0 j1 j2 j3 j4 j5 j6 j7 j8 j9 j10 j11 j12 j13 j14); rintro e wn ⟨rfl, hbr⟩; have S0 := yab (S0.out.more hbr); obtain ⟨k0, k1, k2, k3, k4, k5, k6, k7, k8, k9, k10, k11, k12, k13, k14⟩ := S0.out.ra.cells; obtain ⟨j0, j1, j2, j3, j4, j5, j6, j7, j8, j9, j10, j11, j12, j13, j14⟩ := S0.out.rb.cells; clear hbr; dsimp only)
   |(go_simp; go_at_call_of 126 (Value.agg #[.int .i64 (f.kn 0), .int .i64 (f.kn 1), .int .i64 (f.kn 2), .int .i64 (f.kn 3), .int .i64 (f.kn 4), .int .i64 (f.kn 5)]); refine (H2.out _).mono ?_; (try clear k0 k1 k2 k3 k4 k5 k6 k7 k8 k9 k10 k11 k12 k13 k14 j0 j1 j2 j3 j4 j5 j6 j7 j8 j9 j10 j11 j12 j13 j14); rintro e wn ⟨rfl, hbr⟩; have S0 := yab (S0.out.more hbr); obtain ⟨k0, k1, k2, k3, k4, k5, k6, k7, k8, k9, k10, k11, k12, k13, k14⟩ := S0.out.ra.cells; obtain ⟨j0, j1, j2, j3, j4, j5, j6, j7, j8, j9, j10, j11, j12, j13, j14⟩ := S0.out.rb.cells; clear hbr; dsimp only))
  all_goals
   cases z1 <;> cases z2
   all_goals
    go_wp2
    go_ret
    exact ⟨rfl, S0.out.bel⟩
 ·go_enter Tryz.func99, Tryz.ntmps99
  go_wp2_with (first
   |(go_at_call 125; refine (IV.out _).mono ?_; (try clear k0 k1 k2 k3 k4 k5 k6 k7 k8 k9 k10 k11 k12 k13 k14 j0 j1 j2 j3 j4 j5 j6 j7 j8 j9 j10 j11 j12 j13 j14); rintro e wn ⟨rfl, hbr⟩; have S0 := yab (S0.out.more hbr); obtain ⟨k0, k1, k2, k3, k4, k5, k6, k7, k8, k9, k10, k11, k12, k13, k14⟩ := S0.out.ra.cells; obtain ⟨j0, j1, j2, j3, j4, j5, j6, j7, j8, j9, j10, j11, j12, j13, j14⟩ := S0.out.rb.cells; clear hbr))
  go_ret
  exact ⟨rfl, S0.out.bel⟩
def inF (t f : Rec) : Int := if leB f.ch t.kn = true then 0 else if hasB f t.kn = true then 3 else 1
theorem ylb (t f : Rec) (hf : yfb f) (w : World) :
  Calls Tryz.prog 100 #[yag t, yag f] w fun e w' => e = .returned (.int .i64 (inF t f)) ∧ Below w.heap.size w w' := by
 have H1 := yab (fun V => ycx f t.kn V)
 have H2 := yab (fun V => yhf f t.kn hf V)
 unfold ybw at H1 H2
 have S0 := yab (R2.made w t f)
 unfold yag inF
 generalize leB f.ch t.kn = z1 at *
 generalize hasB f t.kn = z2 at *
 clear hf
 cases z1 <;> cases z2
 all_goals
  go_enter Tryz.func100, Tryz.ntmps100
  go_wp2_with (first
   |(go_at_call 126; refine (H1.out _).mono ?_; (try clear k0 k1 k2 k3 k4 k5 k6 k7 k8 k9 k10 k11 k12 k13 k14 j0 j1 j2 j3 j4 j5 j6 j7 j8 j9 j10 j11 j12 j13 j14); rintro e wn ⟨rfl, hbr⟩; have S0 := yab (S0.out.more hbr); obtain ⟨k0, k1, k2, k3, k4, k5, k6, k7, k8, k9, k10, k11, k12, k13, k14⟩ := S0.out.ra.cells; obtain ⟨j0, j1, j2, j3, j4, j5, j6, j7, j8, j9, j10, j11, j12, j13, j14⟩ := S0.out.rb.cells; clear hbr)
   |(go_at_call 98; refine (H2.out _).mono ?_; (try clear k0 k1 k2 k3 k4 k5 k6 k7 k8 k9 k10 k11 k12 k13 k14 j0 j1 j2 j3 j4 j5 j6 j7 j8 j9 j10 j11 j12 j13 j14); rintro e wn ⟨rfl, hbr⟩; have S0 := yab (S0.out.more hbr); obtain ⟨k0, k1, k2, k3, k4, k5, k6, k7, k8, k9, k10, k11, k12, k13, k14⟩ := S0.out.ra.cells; obtain ⟨j0, j1, j2, j3, j4, j5, j6, j7, j8, j9, j10, j11, j12, j13, j14⟩ := S0.out.rb.cells; clear hbr))
  go_ret
  exact ⟨rfl, S0.out.bel⟩
def inT (t f : Rec) : Int := if leB t.ch f.kn = true then 2 else 3
theorem yod (t f : Rec) (w : World) :
  Calls Tryz.prog 101 #[yag t, yag f] w fun e w' => e = .returned (.int .i64 (inT t f)) ∧ Below w.heap.size w w' := by
 have H1 := yab (fun V => ycx t f.kn V)
 unfold ybw at H1
 have S0 := yab (R2.made w t f)
 unfold yag inT
 generalize leB t.ch f.kn = z1 at *
 cases z1
 all_goals
  go_enter Tryz.func101, Tryz.ntmps101
  go_wp2_with (first
   |(go_at_call 126; refine (H1.out _).mono ?_; (try clear k0 k1 k2 k3 k4 k5 k6 k7 k8 k9 k10 k11 k12 k13 k14 j0 j1 j2 j3 j4 j5 j6 j7 j8 j9 j10 j11 j12 j13 j14); rintro e wn ⟨rfl, hbr⟩; have S0 := yab (S0.out.more hbr); obtain ⟨k0, k1, k2, k3, k4, k5, k6, k7, k8, k9, k10, k11, k12, k13, k14⟩ := S0.out.ra.cells; obtain ⟨j0, j1, j2, j3, j4, j5, j6, j7, j8, j9, j10, j11, j12, j13, j14⟩ := S0.out.rb.cells; clear hbr))
  go_ret
  exact ⟨rfl, S0.out.bel⟩
def ydm (t f : Rec) : Int := if (decide (0 < t.bn) && decide (0 < f.bn)) = true then inB t f else if decide (0 < f.bn) = true then inF t f else if decide (0 < t.bn) = true then inT t f else 0
theorem ycl (t f : Rec) (hf : yfb f) (w : World) :
  Calls Tryz.prog 79 #[yag t, yag f] w fun e w' => e = .returned (.int .i64 (ydm t f)) ∧ Below w.heap.size w w' := by
 have H1 := yab (fun V => inBoth_any t f V)
 have H2 := yab (fun V => ylb t f hf V)
 have H3 := yab (fun V => yod t f V)
 unfold yag at H1 H2 H3
 have S0 := yab (R2.made w t f)
 unfold yag ydm
 generalize inB t f = z1 at *
 generalize inF t f = z2 at *
 generalize inT t f = z3 at *
 clear hf
 cases hd1 : decide (0 < t.bn) <;> cases hd2 : decide (0 < f.bn)
 all_goals
  simp only [Bool.and_self, Bool.and_false, Bool.false_and, Bool.and_true, Bool.true_and, Bool.false_eq_true, if_true, if_false]
  go_enter Tryz.func79, Tryz.ntmps79
  go_wp2_with (first
   |(go_at_call 60; refine (yaz _ _ _ _ _ _ _ _ _ _).mono ?_; (try clear k0 k1 k2 k3 k4 k5 k6 k7 k8 k9 k10 k11 k12 k13 k14 j0 j1 j2 j3 j4 j5 j6 j7 j8 j9 j10 j11 j12 j13 j14); rintro e wn ⟨rfl, hbr⟩; have S0 := yab (S0.out.more hbr); obtain ⟨k0, k1, k2, k3, k4, k5, k6, k7, k8, k9, k10, k11, k12, k13, k14⟩ := S0.out.ra.cells; obtain ⟨j0, j1, j2, j3, j4, j5, j6, j7, j8, j9, j10, j11, j12, j13, j14⟩ := S0.out.rb.cells; clear hbr)
   |(go_at_call 99; refine (H1.out _).mono ?_; (try clear k0 k1 k2 k3 k4 k5 k6 k7 k8 k9 k10 k11 k12 k13 k14 j0 j1 j2 j3 j4 j5 j6 j7 j8 j9 j10 j11 j12 j13 j14); rintro e wn ⟨rfl, hbr⟩; have S0 := yab (S0.out.more hbr); obtain ⟨k0, k1, k2, k3, k4, k5, k6, k7, k8, k9, k10, k11, k12, k13, k14⟩ := S0.out.ra.cells; obtain ⟨j0, j1, j2, j3, j4, j5, j6, j7, j8, j9, j10, j11, j12, j13, j14⟩ := S0.out.rb.cells; clear hbr)
   |(go_at_call 100; refine (H2.out _).mono ?_; (try clear k0 k1 k2 k3 k4 k5 k6 k7 k8 k9 k10 k11 k12 k13 k14 j0 j1 j2 j3 j4 j5 j6 j7 j8 j9 j10 j11 j12 j13 j14); rintro e wn ⟨rfl, hbr⟩; have S0 := yab (S0.out.more hbr); obtain ⟨k0, k1, k2, k3, k4, k5, k6, k7, k8, k9, k10, k11, k12, k13, k14⟩ := S0.out.ra.cells; obtain ⟨j0, j1, j2, j3, j4, j5, j6, j7, j8, j9, j10, j11, j12, j13, j14⟩ := S0.out.rb.cells; clear hbr)
   |(go_at_call 101; refine (H3.out _).mono ?_; (try clear k0 k1 k2 k3 k4 k5 k6 k7 k8 k9 k10 k11 k12 k13 k14 j0 j1 j2 j3 j4 j5 j6 j7 j8 j9 j10 j11 j12 j13 j14); rintro e wn ⟨rfl, hbr⟩; have S0 := yab (S0.out.more hbr); obtain ⟨k0, k1, k2, k3, k4, k5, k6, k7, k8, k9, k10, k11, k12, k13, k14⟩ := S0.out.ra.cells; obtain ⟨j0, j1, j2, j3, j4, j5, j6, j7, j8, j9, j10, j11, j12, j13, j14⟩ := S0.out.rb.cells; clear hbr))
  go_ret
  exact ⟨rfl, S0.out.bel⟩
end Go.Proofs.YtaelaldmibgibaaGreat
