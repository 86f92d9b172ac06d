/- A replica of the program's: PullPath. -/
import Derived.Test.YtaelaldmibgibaaGreatDoorT36
import Derived.Deep.DeepCutAuto
import Derived.Outline

set_option linter.unusedVariables false
set_option linter.unusedSimpArgs false
set_option linter.unusedSectionVars false
set_option maxHeartbeats 4000000
set_option maxRecDepth 100000

namespace Go.Proofs.YtaelaldmibgibaaGreatDoor
open Go.RowKit Go.Maps
attribute [local go_sem ↓] yrl
attribute [local go_sem] yho
theorem rpull_full (rb s : Nat) (cm : Nat → Int) (mb : Nat) (E : yat) (rb' s' : Nat) (cm' : Nat → Int) (mb' : Nat) (E' : yat) (w : World) (h : Rg w rb s cm mb E) (h' : Rg w rb' s' cm' mb' E') (hl : E.length < 999999) (p : ByteArray) (hp : p.size ≤ 1000000000000) (R1 R2 R3 : Rec) (z : Int) (e1 : yay s cm (yas p E) = R1) (e2 : yay s' cm' (yas p E') = R2) (e3 : yam R1 R2 = (R3, z)) (hz : z = 1) (hr : noRoom R1 E = true) :
  Calls Tryz.prog 66 #[.pointer (some ⟨rb, 0, none⟩), .pointer (some ⟨rb', 0, none⟩), .string p] w fun e w' => e = .returned (.tuple #[.int .i64 0, .int .i64 5]) ∧ Rg w' rb s cm mb E ∧ Fr (fun k => k = rb ∨ k = mb) w w' := by
 have C1 := yac (yai rb s cm mb E w h.rep h.own p (by unfold maxLen; omega))
 have C2 : Hid (∀ V, Below w.heap.size w V → Calls Tryz.prog 104 #[.pointer (some ⟨rb', 0, none⟩), .string p] V fun e w' => e = .returned (yae R2) ∧ Below V.heap.size V w') := fun V hb => by
  have q := h'.below hb
  rw [← e2]
  exact yai rb' s' cm' mb' E' V q.rep q.own p (by unfold maxLen; omega)
 have o1 := ybf h p
 have o2 := ybf h' p
 rw [e1] at C1 o1
 rw [e2] at o2
 have C3 : Hid (∀ V, Calls Tryz.prog 115 #[yae R1, yae R2] V fun e w' => e = .returned (.tuple #[yae R3, .int .i64 z]) ∧ Below V.heap.size V w') := fun V => by
  have := yct R1 R2 o1.2 o2.2 V
  rw [e3] at this
  exact this
 have o3 := ylu R1 R2 o1.1 o1.2 o2.1 o2.2
 rw [e3] at o3
 have RM : Hid (∀ V, Below w.heap.size w V → Calls Tryz.prog 106 #[.pointer (some ⟨rb, 0, none⟩), yae R1] V fun e w' => e = .returned (.bool (noRoom R1 E)) ∧ Below V.heap.size V w') := fun V hb => room_any rb s cm mb E V (h.below hb) R1
 rw [hr] at RM
 have fin : Hid (∀ V, Below w.heap.size w V → Rg V rb s cm mb E ∧ Fr (fun k => k = rb ∨ k = mb) w V) := fun V hb => ⟨h.below hb, Fr.of_below hb⟩
 subst hz
 unfold yae at RM
 clear hr
 unfold yae at C1 C2 C3
 clear h h' e1 e2 e3 o1 o2 o3 hl
 have TH := yty
 go_enter Tryz.func66, Tryz.ntmps66
 go_wp2_with (go_at_call 104; refine C1.out.mono ?_; rintro e w1 ⟨rfl, hb1⟩; have S0 := yac ((Pp.zero hb1).set R1); clear hb1)
 generalize (w1.alloc (.cells #[.string ⟨#[]⟩, .int .i64 0, .int .i64 0, .int .i64 0, .int .i64 0, .int .i64 0, .int .i64 0, .int .i64 0, .int .i64 0, .int .i64 0, .int .i64 0, .int .i64 0, .int .i64 0, .int .i64 0, .int .i64 0] 197)).setCells w1.heap.size 0 [.string R1.text, .int .i64 R1.br, .int .i64 R1.bn, .int .i64 (R1.ch 0), .int .i64 (R1.ch 1), .int .i64 (R1.ch 2), .int .i64 (R1.ch 3), .int .i64 (R1.ch 4), .int .i64 (R1.ch 5), .int .i64 (R1.kn 0), .int .i64 (R1.kn 1), .int .i64 (R1.kn 2), .int .i64 (R1.kn 3), .int .i64 (R1.kn 4), .int .i64 (R1.kn 5)] = V1 at S0 ⊢
 go_cut [9, 10] (fun s9 s10 wx => ∃ b9, s9 = .pointer (some ⟨b9, 0, none⟩) ∧ s10 = .int .i64 1 ∧ Hid (Pp w wx b9 R3) ∧ Hid (Pp w wx w1.heap.size R1))
 case first =>
  have S1 := yac S0.out.drew
  have A1 := yac (S0.out.more ((Below.refl _ _).alloc (Nat.le_refl _) (.cells #[.string ⟨#[]⟩, .int .i64 0, .int .i64 0, .int .i64 0, .int .i64 0, .int .i64 0, .int .i64 0, .int .i64 0, .int .i64 0, .int .i64 0, .int .i64 0, .int .i64 0, .int .i64 0, .int .i64 0, .int .i64 0] 197))).drew
  have Z1 := yac (Pp.zero S0.out.bel).drew
  have hne : w1.heap.size ≠ V1.heap.size := by have := S0.out.rc.lt; omega
  obtain ⟨k0, k1, k2, k3, k4, k5, k6, k7, k8, k9, k10, k11, k12, k13, k14⟩ := S0.out.rc.cells
  obtain ⟨j0, j1, j2, j3, j4, j5, j6, j7, j8, j9, j10, j11, j12, j13, j14⟩ := (S0.out.more ((Below.refl _ _).alloc (Nat.le_refl _) (.cells #[.string ⟨#[]⟩, .int .i64 0, .int .i64 0, .int .i64 0, .int .i64 0, .int .i64 0, .int .i64 0, .int .i64 0, .int .i64 0, .int .i64 0, .int .i64 0, .int .i64 0, .int .i64 0, .int .i64 0, .int .i64 0] 197))).rc.cells
  go_region_law (first
   |(go_simp; go_at_call 104; first
     |(with_reducible refine (C2.out _ S1.out.bel).mono ?_; (try clear k0 k1 k2 k3 k4 k5 k6 k7 k8 k9 k10 k11 k12 k13 k14 j0 j1 j2 j3 j4 j5 j6 j7 j8 j9 j10 j11 j12 j13 j14); rintro e w2 ⟨rfl, hb2⟩; have S2 := yac (S1.out.more hb2); have hne2 := Nat.ne_of_lt S2.out.rc.lt; have A2 := yac (S2.out.more ((Below.refl _ _).alloc (Nat.le_refl _) (.cells #[.string ⟨#[]⟩, .int .i64 0, .int .i64 0, .int .i64 0, .int .i64 0, .int .i64 0, .int .i64 0, .int .i64 0, .int .i64 0, .int .i64 0, .int .i64 0, .int .i64 0, .int .i64 0, .int .i64 0, .int .i64 0] 197))); have Z2 := yac (Pp.zero S2.out.bel); obtain ⟨k0, k1, k2, k3, k4, k5, k6, k7, k8, k9, k10, k11, k12, k13, k14⟩ := S2.out.rc.cells; obtain ⟨j0, j1, j2, j3, j4, j5, j6, j7, j8, j9, j10, j11, j12, j13, j14⟩ := A2.out.rc.cells; clear hb2; dsimp only)
     |(with_reducible refine (C2.out _ A1.out.bel).mono ?_; (try clear k0 k1 k2 k3 k4 k5 k6 k7 k8 k9 k10 k11 k12 k13 k14 j0 j1 j2 j3 j4 j5 j6 j7 j8 j9 j10 j11 j12 j13 j14); rintro e w2 ⟨rfl, hb2⟩; have A2 := yac (A1.out.more hb2); have Z2 := yac (Z1.out.more hb2); obtain ⟨k0, k1, k2, k3, k4, k5, k6, k7, k8, k9, k10, k11, k12, k13, k14⟩ := A2.out.rc.cells; have th2 := Z2.out.rc.there; clear hb2; dsimp only))
   |(go_simp; go_at_call 115; refine (C3.out _).mono ?_; (try clear k0 k1 k2 k3 k4 k5 k6 k7 k8 k9 k10 k11 k12 k13 k14 j0 j1 j2 j3 j4 j5 j6 j7 j8 j9 j10 j11 j12 j13 j14); rintro e w3 ⟨rfl, hb3⟩; first
     |(with_reducible have A3 := yac (A2.out.more hb3); have Z3 := yac (Z2.out.more hb3); have th3 := Z3.out.rc.there; have S4 := yac (Z3.out.set R3); have B4 := yac (A3.out.other Z3.out.ge (by first | exact hne | (have := S2.out.rc.lt; omega)) _ : Pp w (w3.setCells _ 0 [.string R3.text, .int .i64 R3.br, .int .i64 R3.bn, .int .i64 (R3.ch 0), .int .i64 (R3.ch 1), .int .i64 (R3.ch 2), .int .i64 (R3.ch 3), .int .i64 (R3.ch 4), .int .i64 (R3.ch 5), .int .i64 (R3.kn 0), .int .i64 (R3.kn 1), .int .i64 (R3.kn 2), .int .i64 (R3.kn 3), .int .i64 (R3.kn 4), .int .i64 (R3.kn 5)]) _ R1); obtain ⟨k0, k1, k2, k3, k4, k5, k6, k7, k8, k9, k10, k11, k12, k13, k14⟩ := B4.out.rc.cells; obtain ⟨j0, j1, j2, j3, j4, j5, j6, j7, j8, j9, j10, j11, j12, j13, j14⟩ := S4.out.rc.cells; clear hb3; dsimp only)
     |(with_reducible have S3 := yac (S2.out.more hb3); have Z3 := yac (Pp.zero S3.out.bel); have S4 := yac (Z3.out.set R3); have B4 := yac ((S3.out.more ((Below.refl _ _).alloc (Nat.le_refl _) (.cells #[.string ⟨#[]⟩, .int .i64 0, .int .i64 0, .int .i64 0, .int .i64 0, .int .i64 0, .int .i64 0, .int .i64 0, .int .i64 0, .int .i64 0, .int .i64 0, .int .i64 0, .int .i64 0, .int .i64 0, .int .i64 0] 197))).other Z3.out.ge (by have := S3.out.rc.lt; omega) _ : Pp w ((w3.alloc (.cells #[.string ⟨#[]⟩, .int .i64 0, .int .i64 0, .int .i64 0, .int .i64 0, .int .i64 0, .int .i64 0, .int .i64 0, .int .i64 0, .int .i64 0, .int .i64 0, .int .i64 0, .int .i64 0, .int .i64 0, .int .i64 0] 197)).setCells _ 0 [.string R3.text, .int .i64 R3.br, .int .i64 R3.bn, .int .i64 (R3.ch 0), .int .i64 (R3.ch 1), .int .i64 (R3.ch 2), .int .i64 (R3.ch 3), .int .i64 (R3.ch 4), .int .i64 (R3.ch 5), .int .i64 (R3.kn 0), .int .i64 (R3.kn 1), .int .i64 (R3.kn 2), .int .i64 (R3.kn 3), .int .i64 (R3.kn 4), .int .i64 (R3.kn 5)]) _ R1); obtain ⟨k0, k1, k2, k3, k4, k5, k6, k7, k8, k9, k10, k11, k12, k13, k14⟩ := B4.out.rc.cells; obtain ⟨j0, j1, j2, j3, j4, j5, j6, j7, j8, j9, j10, j11, j12, j13, j14⟩ := S4.out.rc.cells; clear hb3; dsimp only)))
  all_goals
   go_wp2_with fail
   go_meet
   exact ⟨_, rfl, rfl, S4, B4⟩
 case rest =>
  obtain ⟨b9, rfl, rfl, S4, B4⟩ := hcut
  obtain ⟨k0, k1, k2, k3, k4, k5, k6, k7, k8, k9, k10, k11, k12, k13, k14⟩ := B4.out.rc.cells
  obtain ⟨j0, j1, j2, j3, j4, j5, j6, j7, j8, j9, j10, j11, j12, j13, j14⟩ := S4.out.rc.cells
  go_wp2_with (first
   |(go_at_call 106; with_reducible refine (RM.out _ S4.out.bel).mono ?_; (try clear k0 k1 k2 k3 k4 k5 k6 k7 k8 k9 k10 k11 k12 k13 k14 j0 j1 j2 j3 j4 j5 j6 j7 j8 j9 j10 j11 j12 j13 j14); rintro e w5 ⟨rfl, hb5⟩; have S5 := yac (S4.out.more hb5); obtain ⟨j0, j1, j2, j3, j4, j5, j6, j7, j8, j9, j10, j11, j12, j13, j14⟩ := S5.out.rc.cells; clear hb5))
  go_ret2
  exact ⟨rfl, fin.out _ S5.out.bel⟩
theorem yth (rb s : Nat) (cm : Nat → Int) (mb : Nat) (E : yat) (rb' s' : Nat) (cm' : Nat → Int) (mb' : Nat) (E' : yat) (w : World) (h : Rg w rb s cm mb E) (h' : Rg w rb' s' cm' mb' E') (hl : E.length < 999999) (p : ByteArray) (hp : p.size ≤ 1000000000000) (R1 R2 R3 : Rec) (z : Int) (e1 : yay s cm (yas p E) = R1) (e2 : yay s' cm' (yas p E') = R2) (e3 : yam R1 R2 = (R3, z)) (hz : z = 1) (hr : noRoom R1 E = false) :
  Calls Tryz.prog 66 #[.pointer (some ⟨rb, 0, none⟩), .pointer (some ⟨rb', 0, none⟩), .string p] w fun e w' => e = .returned (.tuple #[.int .i64 1, .int .i64 0]) ∧ Rg w' rb s cm mb (ybn cm p R3 E) ∧ Fr (fun k => k = rb ∨ k = mb) w w' := by
 have C1 := yac (yai rb s cm mb E w h.rep h.own p (by unfold maxLen; omega))
 have C2 : Hid (∀ V, Below w.heap.size w V → Calls Tryz.prog 104 #[.pointer (some ⟨rb', 0, none⟩), .string p] V fun e w' => e = .returned (yae R2) ∧ Below V.heap.size V w') := fun V hb => by
  have q := h'.below hb
  rw [← e2]
  exact yai rb' s' cm' mb' E' V q.rep q.own p (by unfold maxLen; omega)
 have o1 := ybf h p
 have o2 := ybf h' p
 rw [e1] at C1 o1
 rw [e2] at o2
 have C3 : Hid (∀ V, Calls Tryz.prog 115 #[yae R1, yae R2] V fun e w' => e = .returned (.tuple #[yae R3, .int .i64 z]) ∧ Below V.heap.size V w') := fun V => by
  have := yct R1 R2 o1.2 o2.2 V
  rw [e3] at this
  exact this
 have o3 := ylu R1 R2 o1.1 o1.2 o2.1 o2.2
 rw [e3] at o3
 have RM : Hid (∀ V, Below w.heap.size w V → Calls Tryz.prog 106 #[.pointer (some ⟨rb, 0, none⟩), yae R1] V fun e w' => e = .returned (.bool (noRoom R1 E)) ∧ Below V.heap.size V w') := fun V hb => room_any rb s cm mb E V (h.below hb) R1
 rw [hr] at RM
 have KE : Hid (∀ V, Below w.heap.size w V → Calls Tryz.prog 112 #[.pointer (some ⟨rb, 0, none⟩), .string p, yae R3] V fun e w' => e = .returned (.tuple #[]) ∧ Rg w' rb s cm mb (ybn cm p R3 E) ∧ Fr (fun k => k = rb ∨ k = mb) w w') := fun V hb => by
  have q := h.below hb
  refine (yjn rb s cm mb E V q.rep q.own q.ris (by have := q.len; unfold maxLen; omega) p hp R3 o3.1).mono ?_
  rintro e w' ⟨rfl, hr, ho, hf⟩
  refine ⟨rfl, ⟨hr, ho, ybu cm p R3 E h.ris, fun x hx => ?_, by have := yhg cm p R3 E; omega, h.c0⟩, (Fr.of_below hb).trans (hf.mono (fun k _ e => .inr e))⟩
  rcases yfy hx with rfl | hx
  ·exact o3
  ·exact h.bn x hx
 subst hz
 unfold yae at RM KE
 clear hr
 unfold yae at C1 C2 C3
 clear h h' e1 e2 e3 o1 o2 o3 hl
 have TH := yty
 go_enter Tryz.func66, Tryz.ntmps66
 go_wp2_with (go_at_call 104; refine C1.out.mono ?_; rintro e w1 ⟨rfl, hb1⟩; have S0 := yac ((Pp.zero hb1).set R1); clear hb1)
 generalize (w1.alloc (.cells #[.string ⟨#[]⟩, .int .i64 0, .int .i64 0, .int .i64 0, .int .i64 0, .int .i64 0, .int .i64 0, .int .i64 0, .int .i64 0, .int .i64 0, .int .i64 0, .int .i64 0, .int .i64 0, .int .i64 0, .int .i64 0] 197)).setCells w1.heap.size 0 [.string R1.text, .int .i64 R1.br, .int .i64 R1.bn, .int .i64 (R1.ch 0), .int .i64 (R1.ch 1), .int .i64 (R1.ch 2), .int .i64 (R1.ch 3), .int .i64 (R1.ch 4), .int .i64 (R1.ch 5), .int .i64 (R1.kn 0), .int .i64 (R1.kn 1), .int .i64 (R1.kn 2), .int .i64 (R1.kn 3), .int .i64 (R1.kn 4), .int .i64 (R1.kn 5)] = V1 at S0 ⊢
 go_cut [9, 10] (fun s9 s10 wx => ∃ b9, s9 = .pointer (some ⟨b9, 0, none⟩) ∧ s10 = .int .i64 1 ∧ Hid (Pp w wx b9 R3) ∧ Hid (Pp w wx w1.heap.size R1))
 case first =>
  have S1 := yac S0.out.drew
  have A1 := yac (S0.out.more ((Below.refl _ _).alloc (Nat.le_refl _) (.cells #[.string ⟨#[]⟩, .int .i64 0, .int .i64 0, .int .i64 0, .int .i64 0, .int .i64 0, .int .i64 0, .int .i64 0, .int .i64 0, .int .i64 0, .int .i64 0, .int .i64 0, .int .i64 0, .int .i64 0, .int .i64 0] 197))).drew
  have Z1 := yac (Pp.zero S0.out.bel).drew
  have hne : w1.heap.size ≠ V1.heap.size := by have := S0.out.rc.lt; omega
  obtain ⟨k0, k1, k2, k3, k4, k5, k6, k7, k8, k9, k10, k11, k12, k13, k14⟩ := S0.out.rc.cells
  obtain ⟨j0, j1, j2, j3, j4, j5, j6, j7, j8, j9, j10, j11, j12, j13, j14⟩ := (S0.out.more ((Below.refl _ _).alloc (Nat.le_refl _) (.cells #[.string ⟨#[]⟩, .int .i64 0, .int .i64 0, .int .i64 0, .int .i64 0, .int .i64 0, .int .i64 0, .int .i64 0, .int .i64 0, .int .i64 0, .int .i64 0, .int .i64 0, .int .i64 0, .int .i64 0, .int .i64 0] 197))).rc.cells
  go_region_law (first
   |(go_simp; go_at_call 104; first
     |(with_reducible refine (C2.out _ S1.out.bel).mono ?_; (try clear k0 k1 k2 k3 k4 k5 k6 k7 k8 k9 k10 k11 k12 k13 k14 j0 j1 j2 j3 j4 j5 j6 j7 j8 j9 j10 j11 j12 j13 j14); rintro e w2 ⟨rfl, hb2⟩; have S2 := yac (S1.out.more hb2); have hne2 := Nat.ne_of_lt S2.out.rc.lt; have A2 := yac (S2.out.more ((Below.refl _ _).alloc (Nat.le_refl _) (.cells #[.string ⟨#[]⟩, .int .i64 0, .int .i64 0, .int .i64 0, .int .i64 0, .int .i64 0, .int .i64 0, .int .i64 0, .int .i64 0, .int .i64 0, .int .i64 0, .int .i64 0, .int .i64 0, .int .i64 0, .int .i64 0] 197))); have Z2 := yac (Pp.zero S2.out.bel); obtain ⟨k0, k1, k2, k3, k4, k5, k6, k7, k8, k9, k10, k11, k12, k13, k14⟩ := S2.out.rc.cells; obtain ⟨j0, j1, j2, j3, j4, j5, j6, j7, j8, j9, j10, j11, j12, j13, j14⟩ := A2.out.rc.cells; clear hb2; dsimp only)
     |(with_reducible refine (C2.out _ A1.out.bel).mono ?_; (try clear k0 k1 k2 k3 k4 k5 k6 k7 k8 k9 k10 k11 k12 k13 k14 j0 j1 j2 j3 j4 j5 j6 j7 j8 j9 j10 j11 j12 j13 j14); rintro e w2 ⟨rfl, hb2⟩; have A2 := yac (A1.out.more hb2); have Z2 := yac (Z1.out.more hb2); obtain ⟨k0, k1, k2, k3, k4, k5, k6, k7, k8, k9, k10, k11, k12, k13, k14⟩ := A2.out.rc.cells; have th2 := Z2.out.rc.there; clear hb2; dsimp only))
   |(go_simp; go_at_call 115; refine (C3.out _).mono ?_; (try clear k0 k1 k2 k3 k4 k5 k6 k7 k8 k9 k10 k11 k12 k13 k14 j0 j1 j2 j3 j4 j5 j6 j7 j8 j9 j10 j11 j12 j13 j14); rintro e w3 ⟨rfl, hb3⟩; first
     |(with_reducible have A3 := yac (A2.out.more hb3); have Z3 := yac (Z2.out.more hb3); have th3 := Z3.out.rc.there; have S4 := yac (Z3.out.set R3); have B4 := yac (A3.out.other Z3.out.ge (by first | exact hne | (have := S2.out.rc.lt; omega)) _ : Pp w (w3.setCells _ 0 [.string R3.text, .int .i64 R3.br, .int .i64 R3.bn, .int .i64 (R3.ch 0), .int .i64 (R3.ch 1), .int .i64 (R3.ch 2), .int .i64 (R3.ch 3), .int .i64 (R3.ch 4), .int .i64 (R3.ch 5), .int .i64 (R3.kn 0), .int .i64 (R3.kn 1), .int .i64 (R3.kn 2), .int .i64 (R3.kn 3), .int .i64 (R3.kn 4), .int .i64 (R3.kn 5)]) _ R1); obtain ⟨k0, k1, k2, k3, k4, k5, k6, k7, k8, k9, k10, k11, k12, k13, k14⟩ := B4.out.rc.cells; obtain ⟨j0, j1, j2, j3, j4, j5, j6, j7, j8, j9, j10, j11, j12, j13, j14⟩ := S4.out.rc.cells; clear hb3; dsimp only)
     |(with_reducible have S3 := yac (S2.out.more hb3); have Z3 := yac (Pp.zero S3.out.bel); have S4 := yac (Z3.out.set R3); have B4 := yac ((S3.out.more ((Below.refl _ _).alloc (Nat.le_refl _) (.cells #[.string ⟨#[]⟩, .int .i64 0, .int .i64 0, .int .i64 0, .int .i64 0, .int .i64 0, .int .i64 0, .int .i64 0, .int .i64 0, .int .i64 0, .int .i64 0, .int .i64 0, .int .i64 0, .int .i64 0, .int .i64 0] 197))).other Z3.out.ge (by have := S3.out.rc.lt; omega) _ : Pp w ((w3.alloc (.cells #[.string ⟨#[]⟩, .int .i64 0, .int .i64 0, .int .i64 0, .int .i64 0, .int .i64 0, .int .i64 0, .int .i64 0, .int .i64 0, .int .i64 0, .int .i64 0, .int .i64 0, .int .i64 0, .int .i64 0, .int .i64 0] 197)).setCells _ 0 [.string R3.text, .int .i64 R3.br, .int .i64 R3.bn, .int .i64 (R3.ch 0), .int .i64 (R3.ch 1), .int .i64 (R3.ch 2), .int .i64 (R3.ch 3), .int .i64 (R3.ch 4), .int .i64 (R3.ch 5), .int .i64 (R3.kn 0), .int .i64 (R3.kn 1), .int .i64 (R3.kn 2), .int .i64 (R3.kn 3), .int .i64 (R3.kn 4), .int .i64 (R3.kn 5)]) _ R1); obtain ⟨k0, k1, k2, k3, k4, k5, k6, k7, k8, k9, k10, k11, k12, k13, k14⟩ := B4.out.rc.cells; obtain ⟨j0, j1, j2, j3, j4, j5, j6, j7, j8, j9, j10, j11, j12, j13, j14⟩ := S4.out.rc.cells; clear hb3; dsimp only)))
  all_goals
   go_wp2_with fail
   go_meet
   exact ⟨_, rfl, rfl, S4, B4⟩
 case rest =>
  obtain ⟨b9, rfl, rfl, S4, B4⟩ := hcut
  obtain ⟨k0, k1, k2, k3, k4, k5, k6, k7, k8, k9, k10, k11, k12, k13, k14⟩ := B4.out.rc.cells
  obtain ⟨j0, j1, j2, j3, j4, j5, j6, j7, j8, j9, j10, j11, j12, j13, j14⟩ := S4.out.rc.cells
  go_wp2_with (first
   |(go_at_call 106; with_reducible refine (RM.out _ S4.out.bel).mono ?_; (try clear k0 k1 k2 k3 k4 k5 k6 k7 k8 k9 k10 k11 k12 k13 k14 j0 j1 j2 j3 j4 j5 j6 j7 j8 j9 j10 j11 j12 j13 j14); rintro e w5 ⟨rfl, hb5⟩; have S5 := yac (S4.out.more hb5); obtain ⟨j0, j1, j2, j3, j4, j5, j6, j7, j8, j9, j10, j11, j12, j13, j14⟩ := S5.out.rc.cells; clear hb5)
   |(go_at_call 112; with_reducible refine (KE.out _ S5.out.bel).mono ?_; rintro e w6 ⟨rfl, hPr, hFr⟩; have HP := yac hPr; have HF := yac hFr; clear hPr hFr))
  go_ret2
  exact ⟨rfl, HP.out, HF.out⟩
theorem ywe (rb s : Nat) (cm : Nat → Int) (mb : Nat) (E : yat) (rb' s' : Nat) (cm' : Nat → Int) (mb' : Nat) (E' : yat) (w : World) (h : Rg w rb s cm mb E) (h' : Rg w rb' s' cm' mb' E') (hl : E.length < 999999) (p : ByteArray) (hp : p.size ≤ 1000000000000) (R1 R2 R3 : Rec) (z : Int) (e1 : yay s cm (yas p E) = R1) (e2 : yay s' cm' (yas p E') = R2) (e3 : yam R1 R2 = (R3, z)) (hz : z ≠ 1) :
  Calls Tryz.prog 66 #[.pointer (some ⟨rb, 0, none⟩), .pointer (some ⟨rb', 0, none⟩), .string p] w fun e w' => e = .returned (.tuple #[.int .i64 z, .int .i64 0]) ∧ Rg w' rb s cm mb (ybn cm p R3 E) ∧ Fr (fun k => k = rb ∨ k = mb) w w' := by
 have C1 := yac (yai rb s cm mb E w h.rep h.own p (by unfold maxLen; omega))
 have C2 : Hid (∀ V, Below w.heap.size w V → Calls Tryz.prog 104 #[.pointer (some ⟨rb', 0, none⟩), .string p] V fun e w' => e = .returned (yae R2) ∧ Below V.heap.size V w') := fun V hb => by
  have q := h'.below hb
  rw [← e2]
  exact yai rb' s' cm' mb' E' V q.rep q.own p (by unfold maxLen; omega)
 have o1 := ybf h p
 have o2 := ybf h' p
 rw [e1] at C1 o1
 rw [e2] at o2
 have C3 : Hid (∀ V, Calls Tryz.prog 115 #[yae R1, yae R2] V fun e w' => e = .returned (.tuple #[yae R3, .int .i64 z]) ∧ Below V.heap.size V w') := fun V => by
  have := yct R1 R2 o1.2 o2.2 V
  rw [e3] at this
  exact this
 have o3 := ylu R1 R2 o1.1 o1.2 o2.1 o2.2
 rw [e3] at o3
 have KE : Hid (∀ V, Below w.heap.size w V → Calls Tryz.prog 112 #[.pointer (some ⟨rb, 0, none⟩), .string p, yae R3] V fun e w' => e = .returned (.tuple #[]) ∧ Rg w' rb s cm mb (ybn cm p R3 E) ∧ Fr (fun k => k = rb ∨ k = mb) w w') := fun V hb => by
  have q := h.below hb
  refine (yjn rb s cm mb E V q.rep q.own q.ris (by have := q.len; unfold maxLen; omega) p hp R3 o3.1).mono ?_
  rintro e w' ⟨rfl, hr, ho, hf⟩
  refine ⟨rfl, ⟨hr, ho, ybu cm p R3 E h.ris, fun x hx => ?_, by have := yhg cm p R3 E; omega, h.c0⟩, (Fr.of_below hb).trans (hf.mono (fun k _ e => .inr e))⟩
  rcases yfy hx with rfl | hx
  ·exact o3
  ·exact h.bn x hx
 have hz1 : (z == 1) = false := by simpa using hz
 unfold yae at KE
 unfold yae at C1 C2 C3
 clear h h' e1 e2 e3 o1 o2 o3 hl
 have TH := yty
 go_enter Tryz.func66, Tryz.ntmps66
 go_wp2_with (go_at_call 104; refine C1.out.mono ?_; rintro e w1 ⟨rfl, hb1⟩; have S0 := yac ((Pp.zero hb1).set R1); clear hb1)
 generalize (w1.alloc (.cells #[.string ⟨#[]⟩, .int .i64 0, .int .i64 0, .int .i64 0, .int .i64 0, .int .i64 0, .int .i64 0, .int .i64 0, .int .i64 0, .int .i64 0, .int .i64 0, .int .i64 0, .int .i64 0, .int .i64 0, .int .i64 0] 197)).setCells w1.heap.size 0 [.string R1.text, .int .i64 R1.br, .int .i64 R1.bn, .int .i64 (R1.ch 0), .int .i64 (R1.ch 1), .int .i64 (R1.ch 2), .int .i64 (R1.ch 3), .int .i64 (R1.ch 4), .int .i64 (R1.ch 5), .int .i64 (R1.kn 0), .int .i64 (R1.kn 1), .int .i64 (R1.kn 2), .int .i64 (R1.kn 3), .int .i64 (R1.kn 4), .int .i64 (R1.kn 5)] = V1 at S0 ⊢
 go_cut [9, 10] (fun s9 s10 wx => ∃ b9, s9 = .pointer (some ⟨b9, 0, none⟩) ∧ s10 = .int .i64 z ∧ Hid (Pp w wx b9 R3) ∧ Hid (Pp w wx w1.heap.size R1))
 case first =>
  have S1 := yac S0.out.drew
  have A1 := yac (S0.out.more ((Below.refl _ _).alloc (Nat.le_refl _) (.cells #[.string ⟨#[]⟩, .int .i64 0, .int .i64 0, .int .i64 0, .int .i64 0, .int .i64 0, .int .i64 0, .int .i64 0, .int .i64 0, .int .i64 0, .int .i64 0, .int .i64 0, .int .i64 0, .int .i64 0, .int .i64 0] 197))).drew
  have Z1 := yac (Pp.zero S0.out.bel).drew
  have hne : w1.heap.size ≠ V1.heap.size := by have := S0.out.rc.lt; omega
  obtain ⟨k0, k1, k2, k3, k4, k5, k6, k7, k8, k9, k10, k11, k12, k13, k14⟩ := S0.out.rc.cells
  obtain ⟨j0, j1, j2, j3, j4, j5, j6, j7, j8, j9, j10, j11, j12, j13, j14⟩ := (S0.out.more ((Below.refl _ _).alloc (Nat.le_refl _) (.cells #[.string ⟨#[]⟩, .int .i64 0, .int .i64 0, .int .i64 0, .int .i64 0, .int .i64 0, .int .i64 0, .int .i64 0, .int .i64 0, .int .i64 0, .int .i64 0, .int .i64 0, .int .i64 0, .int .i64 0, .int .i64 0] 197))).rc.cells
  go_region_law (first
   |(go_simp; go_at_call 104; first
     |(with_reducible refine (C2.out _ S1.out.bel).mono ?_; (try clear k0 k1 k2 k3 k4 k5 k6 k7 k8 k9 k10 k11 k12 k13 k14 j0 j1 j2 j3 j4 j5 j6 j7 j8 j9 j10 j11 j12 j13 j14); rintro e w2 ⟨rfl, hb2⟩; have S2 := yac (S1.out.more hb2); have hne2 := Nat.ne_of_lt S2.out.rc.lt; have A2 := yac (S2.out.more ((Below.refl _ _).alloc (Nat.le_refl _) (.cells #[.string ⟨#[]⟩, .int .i64 0, .int .i64 0, .int .i64 0, .int .i64 0, .int .i64 0, .int .i64 0, .int .i64 0, .int .i64 0, .int .i64 0, .int .i64 0, .int .i64 0, .int .i64 0, .int .i64 0, .int .i64 0] 197))); have Z2 := yac (Pp.zero S2.out.bel); obtain ⟨k0, k1, k2, k3, k4, k5, k6, k7, k8, k9, k10, k11, k12, k13, k14⟩ := S2.out.rc.cells; obtain ⟨j0, j1, j2, j3, j4, j5, j6, j7, j8, j9, j10, j11, j12, j13, j14⟩ := A2.out.rc.cells; clear hb2; dsimp only)
     |(with_reducible refine (C2.out _ A1.out.bel).mono ?_; (try clear k0 k1 k2 k3 k4 k5 k6 k7 k8 k9 k10 k11 k12 k13 k14 j0 j1 j2 j3 j4 j5 j6 j7 j8 j9 j10 j11 j12 j13 j14); rintro e w2 ⟨rfl, hb2⟩; have A2 := yac (A1.out.more hb2); have Z2 := yac (Z1.out.more hb2); obtain ⟨k0, k1, k2, k3, k4, k5, k6, k7, k8, k9, k10, k11, k12, k13, k14⟩ := A2.out.rc.cells; have th2 := Z2.out.rc.there; clear hb2; dsimp only))
   |(go_simp; go_at_call 115; refine (C3.out _).mono ?_; (try clear k0 k1 k2 k3 k4 k5 k6 k7 k8 k9 k10 k11 k12 k13 k14 j0 j1 j2 j3 j4 j5 j6 j7 j8 j9 j10 j11 j12 j13 j14); rintro e w3 ⟨rfl, hb3⟩; first
     |(with_reducible have A3 := yac (A2.out.more hb3); have Z3 := yac (Z2.out.more hb3); have th3 := Z3.out.rc.there; have S4 := yac (Z3.out.set R3); have B4 := yac (A3.out.other Z3.out.ge (by first | exact hne | (have := S2.out.rc.lt; omega)) _ : Pp w (w3.setCells _ 0 [.string R3.text, .int .i64 R3.br, .int .i64 R3.bn, .int .i64 (R3.ch 0), .int .i64 (R3.ch 1), .int .i64 (R3.ch 2), .int .i64 (R3.ch 3), .int .i64 (R3.ch 4), .int .i64 (R3.ch 5), .int .i64 (R3.kn 0), .int .i64 (R3.kn 1), .int .i64 (R3.kn 2), .int .i64 (R3.kn 3), .int .i64 (R3.kn 4), .int .i64 (R3.kn 5)]) _ R1); obtain ⟨k0, k1, k2, k3, k4, k5, k6, k7, k8, k9, k10, k11, k12, k13, k14⟩ := B4.out.rc.cells; obtain ⟨j0, j1, j2, j3, j4, j5, j6, j7, j8, j9, j10, j11, j12, j13, j14⟩ := S4.out.rc.cells; clear hb3; dsimp only)
     |(with_reducible have S3 := yac (S2.out.more hb3); have Z3 := yac (Pp.zero S3.out.bel); have S4 := yac (Z3.out.set R3); have B4 := yac ((S3.out.more ((Below.refl _ _).alloc (Nat.le_refl _) (.cells #[.string ⟨#[]⟩, .int .i64 0, .int .i64 0, .int .i64 0, .int .i64 0, .int .i64 0, .int .i64 0, .int .i64 0, .int .i64 0, .int .i64 0, .int .i64 0, .int .i64 0, .int .i64 0, .int .i64 0, .int .i64 0] 197))).other Z3.out.ge (by have := S3.out.rc.lt; omega) _ : Pp w ((w3.alloc (.cells #[.string ⟨#[]⟩, .int .i64 0, .int .i64 0, .int .i64 0, .int .i64 0, .int .i64 0, .int .i64 0, .int .i64 0, .int .i64 0, .int .i64 0, .int .i64 0, .int .i64 0, .int .i64 0, .int .i64 0, .int .i64 0] 197)).setCells _ 0 [.string R3.text, .int .i64 R3.br, .int .i64 R3.bn, .int .i64 (R3.ch 0), .int .i64 (R3.ch 1), .int .i64 (R3.ch 2), .int .i64 (R3.ch 3), .int .i64 (R3.ch 4), .int .i64 (R3.ch 5), .int .i64 (R3.kn 0), .int .i64 (R3.kn 1), .int .i64 (R3.kn 2), .int .i64 (R3.kn 3), .int .i64 (R3.kn 4), .int .i64 (R3.kn 5)]) _ R1); obtain ⟨k0, k1, k2, k3, k4, k5, k6, k7, k8, k9, k10, k11, k12, k13, k14⟩ := B4.out.rc.cells; obtain ⟨j0, j1, j2, j3, j4, j5, j6, j7, j8, j9, j10, j11, j12, j13, j14⟩ := S4.out.rc.cells; clear hb3; dsimp only)))
  all_goals
   go_wp2_with fail
   go_meet
   exact ⟨_, rfl, rfl, S4, B4⟩
 case rest =>
  obtain ⟨b9, rfl, rfl, S4, B4⟩ := hcut
  obtain ⟨k0, k1, k2, k3, k4, k5, k6, k7, k8, k9, k10, k11, k12, k13, k14⟩ := B4.out.rc.cells
  obtain ⟨j0, j1, j2, j3, j4, j5, j6, j7, j8, j9, j10, j11, j12, j13, j14⟩ := S4.out.rc.cells
  go_wp2_with (first
   |(go_at_call 112; with_reducible refine (KE.out _ S4.out.bel).mono ?_; rintro e w6 ⟨rfl, hPr, hFr⟩; have HP := yac hPr; have HF := yac hFr; clear hPr hFr))
  go_ret2
  exact ⟨rfl, HP.out, HF.out⟩
end Go.Proofs.YtaelaldmibgibaaGreatDoor
