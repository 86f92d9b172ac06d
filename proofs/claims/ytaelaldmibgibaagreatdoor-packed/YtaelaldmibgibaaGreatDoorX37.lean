/- Two records of one path: is one a stranger, what does a pull. -/
import Derived.Test.YtaelaldmibgibaaGreatDoorX36

set_option linter.all false
set_option maxHeartbeats 8000000
set_option maxRecDepth 100000

namespace Go.Proofs.K
open Go.RowKit
variable {V w : World} {a b : Rec}
structure R2 (w V : World) (a b : Rec) : Prop where
 ra : yap V w.heap.size a
 rb : yap V (w.heap.size + 1) b
 bel : Below w.heap.size w V
theorem R2.made (w : World) (a b : Rec) : R2 w ((w.alloc (.cells #[.string a.text, .int .i64 a.br, .int .i64 a.bn, .int .i64 (a.ch 0), .int .i64 (a.ch 1), .int .i64 (a.ch 2), .int .i64 (a.ch 3), .int .i64 (a.ch 4), .int .i64 (a.ch 5), .int .i64 (a.kn 0), .int .i64 (a.kn 1), .int .i64 (a.kn 2), .int .i64 (a.kn 3), .int .i64 (a.kn 4), .int .i64 (a.kn 5)] 197)).alloc (.cells #[.string b.text, .int .i64 b.br, .int .i64 b.bn, .int .i64 (b.ch 0), .int .i64 (b.ch 1), .int .i64 (b.ch 2), .int .i64 (b.ch 3), .int .i64 (b.ch 4), .int .i64 (b.ch 5), .int .i64 (b.kn 0), .int .i64 (b.kn 1), .int .i64 (b.kn 2), .int .i64 (b.kn 3), .int .i64 (b.kn 4), .int .i64 (b.kn 5)] 197)) a b :=
 ⟨yap.keep ⟨heap_alloc_new _ _⟩ (Below.heap_alloc _ _ _ (by simp)), ⟨by have := heap_alloc_new (w.alloc (.cells #[.string a.text, .int .i64 a.br, .int .i64 a.bn, .int .i64 (a.ch 0), .int .i64 (a.ch 1), .int .i64 (a.ch 2), .int .i64 (a.ch 3), .int .i64 (a.ch 4), .int .i64 (a.ch 5), .int .i64 (a.kn 0), .int .i64 (a.kn 1), .int .i64 (a.kn 2), .int .i64 (a.kn 3), .int .i64 (a.kn 4), .int .i64 (a.kn 5)] 197)) (.cells #[.string b.text, .int .i64 b.br, .int .i64 b.bn, .int .i64 (b.ch 0), .int .i64 (b.ch 1), .int .i64 (b.ch 2), .int .i64 (b.ch 3), .int .i64 (b.ch 4), .int .i64 (b.ch 5), .int .i64 (b.kn 0), .int .i64 (b.kn 1), .int .i64 (b.kn 2), .int .i64 (b.kn 3), .int .i64 (b.kn 4), .int .i64 (b.kn 5)] 197); simpa using this⟩, ((Below.refl _ _).alloc (Nat.le_refl _) _).alloc (by simp) _⟩
theorem R2.more {V' : World} (h : R2 w V a b) (hb : Below V.heap.size V V') : R2 w V' a b :=
 ⟨h.ra.more hb, h.rb.more hb, h.bel.trans (hb.mono h.bel.size)⟩
theorem R2.drewN (h : R2 w V a b) (n : Nat) : R2 w (V.drewN n) a b := h.more ⟨rfl, rfl, rfl, Nat.le_refl _, fun _ _ => rfl⟩
def yuf (f t : Rec) : Bool := (decide (0 < t.bn) && !decide (0 < f.bn)) && !hasB t f.kn
theorem yde (f t : Rec) (ht : ykr t) (w : World) :
  Calls Tryz.prog 171 #[yad f, yad t] w fun e w' => e = .returned (.bool (yuf f t)) ∧ Below w.heap.size w w' := by
 have HB := yab (fun V => ykj t f.kn ht V)
 unfold ybb at HB
 have S0 := yab (R2.made w f t)
 unfold yad yuf
 generalize hasB t f.kn = z at *
 clear ht
 cases hd1 : decide (0 < t.bn) <;> cases hd2 : decide (0 < f.bn)
 all_goals
  go_enter Tryz.func171, Tryz.ntmps171
  go_wp2_with (first
   |(go_at_call 113; refine (yaw _ _ _ _ _ _ _ _ _ _).mono ?_; (try clear k0 k1 k2 k3 k4 k5 k6 k7 k8 k9 k10 k11 k12 k13 k14 j0 j1 j2 j3 j4 j5 j6 j7 j8 j9 j10 j11 j12 j13 j14); rintro e wn ⟨rfl, hbr⟩; have S0 := yab (S0.out.more hbr); obtain ⟨k0, k1, k2, k3, k4, k5, k6, k7, k8, k9, k10, k11, k12, k13, k14⟩ := S0.out.ra.cells; obtain ⟨j0, j1, j2, j3, j4, j5, j6, j7, j8, j9, j10, j11, j12, j13, j14⟩ := S0.out.rb.cells; clear hbr)
   |(go_at_call 200; refine (HB.out _).mono ?_; (try clear k0 k1 k2 k3 k4 k5 k6 k7 k8 k9 k10 k11 k12 k13 k14 j0 j1 j2 j3 j4 j5 j6 j7 j8 j9 j10 j11 j12 j13 j14); rintro e wn ⟨rfl, hbr⟩; have S0 := yab (S0.out.more hbr); obtain ⟨k0, k1, k2, k3, k4, k5, k6, k7, k8, k9, k10, k11, k12, k13, k14⟩ := S0.out.ra.cells; obtain ⟨j0, j1, j2, j3, j4, j5, j6, j7, j8, j9, j10, j11, j12, j13, j14⟩ := S0.out.rb.cells; clear hbr))
  go_ret
  exact ⟨rfl, S0.out.bel⟩
def inBo (t f : Rec) : Int := if isVer t f = true then 0 else if leB f.ch t.kn = leB t.ch f.kn then 3 else if leB t.ch f.kn = true then 1 else 0
theorem inBoth_any (t f : Rec) (w : World) :
  Calls Tryz.prog 201 #[yad t, yad f] w fun e w' => e = .returned (.int .i64 (inBo t f)) ∧ Below w.heap.size w w' := by
 have IV := yab (fun V => yug t f V)
 have H1 := yab (fun V => ycr f t.kn V)
 have H2 := yab (fun V => ycr t f.kn V)
 unfold ybb at IV H1 H2
 have S0 := yab (R2.made w t f)
 unfold yad inBo
 generalize isVer t f = z0 at *
 generalize leB f.ch t.kn = z1 at *
 generalize leB t.ch f.kn = z2 at *
 cases z0
 ·go_enter Tryz.func201, Tryz.ntmps201
  go_wp2_with (first
   |(go_at_call 225; refine (IV.out _).mono ?_; (try clear k0 k1 k2 k3 k4 k5 k6 k7 k8 k9 k10 k11 k12 k13 k14 j0 j1 j2 j3 j4 j5 j6 j7 j8 j9 j10 j11 j12 j13 j14); rintro e wn ⟨rfl, hbr⟩; have S0 := yab (S0.out.more hbr); obtain ⟨k0, k1, k2, k3, k4, k5, k6, k7, k8, k9, k10, k11, k12, k13, k14⟩ := S0.out.ra.cells; obtain ⟨j0, j1, j2, j3, j4, j5, j6, j7, j8, j9, j10, j11, j12, j13, j14⟩ := S0.out.rb.cells; clear hbr))
  have S0 := yab (S0.out.drewN 1)
  go_region_law (first
   |(go_simp; go_at_call_of 223 (Value.agg #[.int .i64 (t.kn 0), .int .i64 (t.kn 1), .int .i64 (t.kn 2), .int .i64 (t.kn 3), .int .i64 (t.kn 4), .int .i64 (t.kn 5)]); refine (H1.out _).mono ?_; (try clear k0 k1 k2 k3 k4 k5 k6 k7 k8 k9 k10 k11 k12 k13 k14 j0 j1 j2 j3 j4 j5 j6 j7 j8 j9 j10 j11 j12 j13 j14); rintro e wn ⟨rfl, hbr⟩; have S0 := yab (S0.out.more hbr); obtain ⟨k0, k1, k2, k3, k4, k5, k6, k7, k8, k9, k10, k11, k12, k13, k14⟩ := S0.out.ra.cells; obtain ⟨j0, j1, j2, j3, j4, j5, j6, j7, j8, j9, j10, j11, j12, j13, j14⟩ := S0.out.rb.cells; clear hbr; dsimp only)
   |(go_simp; go_at_call_of 223 (Value.agg #[.int .i64 (f.kn 0), .int .i64 (f.kn 1), .int .i64 (f.kn 2), .int .i64 (f.kn 3), .int .i64 (f.kn 4), .int .i64 (f.kn 5)]); refine (H2.out _).mono ?_; (try clear k0 k1 k2 k3 k4 k5 k6 k7 k8 k9 k10 k11 k12 k13 k14 j0 j1 j2 j3 j4 j5 j6 j7 j8 j9 j10 j11 j12 j13 j14); rintro e wn ⟨rfl, hbr⟩; have S0 := yab (S0.out.more hbr); obtain ⟨k0, k1, k2, k3, k4, k5, k6, k7, k8, k9, k10, k11, k12, k13, k14⟩ := S0.out.ra.cells; obtain ⟨j0, j1, j2, j3, j4, j5, j6, j7, j8, j9, j10, j11, j12, j13, j14⟩ := S0.out.rb.cells; clear hbr; dsimp only))
  all_goals
   cases z1 <;> cases z2
   all_goals
    go_wp2
    go_ret
    exact ⟨rfl, S0.out.bel⟩
 ·go_enter Tryz.func201, Tryz.ntmps201
  go_wp2_with (first
   |(go_at_call 225; refine (IV.out _).mono ?_; (try clear k0 k1 k2 k3 k4 k5 k6 k7 k8 k9 k10 k11 k12 k13 k14 j0 j1 j2 j3 j4 j5 j6 j7 j8 j9 j10 j11 j12 j13 j14); rintro e wn ⟨rfl, hbr⟩; have S0 := yab (S0.out.more hbr); obtain ⟨k0, k1, k2, k3, k4, k5, k6, k7, k8, k9, k10, k11, k12, k13, k14⟩ := S0.out.ra.cells; obtain ⟨j0, j1, j2, j3, j4, j5, j6, j7, j8, j9, j10, j11, j12, j13, j14⟩ := S0.out.rb.cells; clear hbr))
  go_ret
  exact ⟨rfl, S0.out.bel⟩
def inF (t f : Rec) : Int := if leB f.ch t.kn = true then 0 else if hasB f t.kn = true then 3 else 1
theorem ype (t f : Rec) (hf : ykr f) (w : World) :
  Calls Tryz.prog 202 #[yad t, yad f] w fun e w' => e = .returned (.int .i64 (inF t f)) ∧ Below w.heap.size w w' := by
 have H1 := yab (fun V => ycr f t.kn V)
 have H2 := yab (fun V => ykj f t.kn hf V)
 unfold ybb at H1 H2
 have S0 := yab (R2.made w t f)
 unfold yad inF
 generalize leB f.ch t.kn = z1 at *
 generalize hasB f t.kn = z2 at *
 clear hf
 cases z1 <;> cases z2
 all_goals
  go_enter Tryz.func202, Tryz.ntmps202
  go_wp2_with (first
   |(go_at_call 223; refine (H1.out _).mono ?_; (try clear k0 k1 k2 k3 k4 k5 k6 k7 k8 k9 k10 k11 k12 k13 k14 j0 j1 j2 j3 j4 j5 j6 j7 j8 j9 j10 j11 j12 j13 j14); rintro e wn ⟨rfl, hbr⟩; have S0 := yab (S0.out.more hbr); obtain ⟨k0, k1, k2, k3, k4, k5, k6, k7, k8, k9, k10, k11, k12, k13, k14⟩ := S0.out.ra.cells; obtain ⟨j0, j1, j2, j3, j4, j5, j6, j7, j8, j9, j10, j11, j12, j13, j14⟩ := S0.out.rb.cells; clear hbr)
   |(go_at_call 200; refine (H2.out _).mono ?_; (try clear k0 k1 k2 k3 k4 k5 k6 k7 k8 k9 k10 k11 k12 k13 k14 j0 j1 j2 j3 j4 j5 j6 j7 j8 j9 j10 j11 j12 j13 j14); rintro e wn ⟨rfl, hbr⟩; have S0 := yab (S0.out.more hbr); obtain ⟨k0, k1, k2, k3, k4, k5, k6, k7, k8, k9, k10, k11, k12, k13, k14⟩ := S0.out.ra.cells; obtain ⟨j0, j1, j2, j3, j4, j5, j6, j7, j8, j9, j10, j11, j12, j13, j14⟩ := S0.out.rb.cells; clear hbr))
  go_ret
  exact ⟨rfl, S0.out.bel⟩
def inT (t f : Rec) : Int := if leB t.ch f.kn = true then 2 else 3
theorem yue (t f : Rec) (w : World) :
  Calls Tryz.prog 203 #[yad t, yad f] w fun e w' => e = .returned (.int .i64 (inT t f)) ∧ Below w.heap.size w w' := by
 have H1 := yab (fun V => ycr t f.kn V)
 unfold ybb at H1
 have S0 := yab (R2.made w t f)
 unfold yad inT
 generalize leB t.ch f.kn = z1 at *
 cases z1
 all_goals
  go_enter Tryz.func203, Tryz.ntmps203
  go_wp2_with (first
   |(go_at_call 223; refine (H1.out _).mono ?_; (try clear k0 k1 k2 k3 k4 k5 k6 k7 k8 k9 k10 k11 k12 k13 k14 j0 j1 j2 j3 j4 j5 j6 j7 j8 j9 j10 j11 j12 j13 j14); rintro e wn ⟨rfl, hbr⟩; have S0 := yab (S0.out.more hbr); obtain ⟨k0, k1, k2, k3, k4, k5, k6, k7, k8, k9, k10, k11, k12, k13, k14⟩ := S0.out.ra.cells; obtain ⟨j0, j1, j2, j3, j4, j5, j6, j7, j8, j9, j10, j11, j12, j13, j14⟩ := S0.out.rb.cells; clear hbr))
  go_ret
  exact ⟨rfl, S0.out.bel⟩
def ymh (t f : Rec) : Int := if (decide (0 < t.bn) && decide (0 < f.bn)) = true then inBo t f else if decide (0 < f.bn) = true then inF t f else if decide (0 < t.bn) = true then inT t f else 0
theorem ycu (t f : Rec) (hf : ykr f) (w : World) :
  Calls Tryz.prog 172 #[yad t, yad f] w fun e w' => e = .returned (.int .i64 (ymh t f)) ∧ Below w.heap.size w w' := by
 have H1 := yab (fun V => inBoth_any t f V)
 have H2 := yab (fun V => ype t f hf V)
 have H3 := yab (fun V => yue t f V)
 unfold yad at H1 H2 H3
 have S0 := yab (R2.made w t f)
 unfold yad ymh
 generalize inBo t f = z1 at *
 generalize inF t f = z2 at *
 generalize inT t f = z3 at *
 clear hf
 cases hd1 : decide (0 < t.bn) <;> cases hd2 : decide (0 < f.bn)
 all_goals
  simp only [Bool.and_self, Bool.and_false, Bool.false_and, Bool.and_true, Bool.true_and, Bool.false_eq_true, if_true, if_false]
  go_enter Tryz.func172, Tryz.ntmps172
  go_wp2_with (first
   |(go_at_call 113; refine (yaw _ _ _ _ _ _ _ _ _ _).mono ?_; (try clear k0 k1 k2 k3 k4 k5 k6 k7 k8 k9 k10 k11 k12 k13 k14 j0 j1 j2 j3 j4 j5 j6 j7 j8 j9 j10 j11 j12 j13 j14); rintro e wn ⟨rfl, hbr⟩; have S0 := yab (S0.out.more hbr); obtain ⟨k0, k1, k2, k3, k4, k5, k6, k7, k8, k9, k10, k11, k12, k13, k14⟩ := S0.out.ra.cells; obtain ⟨j0, j1, j2, j3, j4, j5, j6, j7, j8, j9, j10, j11, j12, j13, j14⟩ := S0.out.rb.cells; clear hbr)
   |(go_at_call 201; refine (H1.out _).mono ?_; (try clear k0 k1 k2 k3 k4 k5 k6 k7 k8 k9 k10 k11 k12 k13 k14 j0 j1 j2 j3 j4 j5 j6 j7 j8 j9 j10 j11 j12 j13 j14); rintro e wn ⟨rfl, hbr⟩; have S0 := yab (S0.out.more hbr); obtain ⟨k0, k1, k2, k3, k4, k5, k6, k7, k8, k9, k10, k11, k12, k13, k14⟩ := S0.out.ra.cells; obtain ⟨j0, j1, j2, j3, j4, j5, j6, j7, j8, j9, j10, j11, j12, j13, j14⟩ := S0.out.rb.cells; clear hbr)
   |(go_at_call 202; refine (H2.out _).mono ?_; (try clear k0 k1 k2 k3 k4 k5 k6 k7 k8 k9 k10 k11 k12 k13 k14 j0 j1 j2 j3 j4 j5 j6 j7 j8 j9 j10 j11 j12 j13 j14); rintro e wn ⟨rfl, hbr⟩; have S0 := yab (S0.out.more hbr); obtain ⟨k0, k1, k2, k3, k4, k5, k6, k7, k8, k9, k10, k11, k12, k13, k14⟩ := S0.out.ra.cells; obtain ⟨j0, j1, j2, j3, j4, j5, j6, j7, j8, j9, j10, j11, j12, j13, j14⟩ := S0.out.rb.cells; clear hbr)
   |(go_at_call 203; refine (H3.out _).mono ?_; (try clear k0 k1 k2 k3 k4 k5 k6 k7 k8 k9 k10 k11 k12 k13 k14 j0 j1 j2 j3 j4 j5 j6 j7 j8 j9 j10 j11 j12 j13 j14); rintro e wn ⟨rfl, hbr⟩; have S0 := yab (S0.out.more hbr); obtain ⟨k0, k1, k2, k3, k4, k5, k6, k7, k8, k9, k10, k11, k12, k13, k14⟩ := S0.out.ra.cells; obtain ⟨j0, j1, j2, j3, j4, j5, j6, j7, j8, j9, j10, j11, j12, j13, j14⟩ := S0.out.rb.cells; clear hbr))
  go_ret
  exact ⟨rfl, S0.out.bel⟩
end Go.Proofs.K
