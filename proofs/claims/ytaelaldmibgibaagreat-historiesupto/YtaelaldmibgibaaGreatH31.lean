/- A replica of the program's: PullPath. The program's net: PullPath of replicas that there are. A replica of the program's: Resolve. Resolve in a replica, as a function of states. A replica of the program's: Resolve (theirs, there). A replica of the program's: Resolve (theirs, gone). A replica of the program's: Resolve (theirs, refused). A replica of the program's: Resolve (own, there). A replica of the program's: Resolve (own, gone). -/
import Derived.Test.YtaelaldmibgibaaGreatH30
import Derived.Deep.DeepCutAuto
import Derived.Outline
import Derived.Test.YtaelaldmibgibaaGreatH25

set_option linter.unusedVariables false
set_option linter.unusedSimpArgs false
set_option linter.unusedSectionVars false

namespace Go.Proofs.YtaelaldmibgibaaGreat
open Go.RowKit Go.Maps
attribute [local go_sem ↓] stRecord
attribute [local go_sem] run_stRecord
set_option maxRecDepth 100000 in
set_option maxHeartbeats 4000000 in
theorem rpull_full (rb s : Nat) (cm : Nat → Int) (mb : Nat) (E : yav) (rb' s' : Nat) (cm' : Nat → Int) (mb' : Nat) (E' : yav) (w : World) (h : Rg w rb s cm mb E) (h' : Rg w rb' s' cm' mb' E') (hl : E.length < 999999) (p : ByteArray) (hp : p.size ≤ 1000000000000) (R1 R2 R3 : Rec) (z : Int) (e1 : ybp s cm (ybb p E) = R1) (e2 : ybp s' cm' (ybb p E') = R2) (e3 : yaz R1 R2 = (R3, z)) (hz : z = 1) (hr : noRoom R1 E = true) :
  Calls Tryz.prog 44 #[.pointer (some ⟨rb, 0, none⟩), .pointer (some ⟨rb', 0, none⟩), .string p] w fun e w' => e = .returned (.tuple #[.int .i64 0, .int .i64 5]) ∧ Rg w' rb s cm mb E ∧ Fr (fun k => k = rb ∨ k = mb) w w' := by
 have C1 := yab (yak rb s cm mb E w h.rep h.own p (by unfold maxLen; omega))
 have C2 : Hid (∀ V, Below w.heap.size w V → Calls Tryz.prog 48 #[.pointer (some ⟨rb', 0, none⟩), .string p] V fun e w' => e = .returned (yag R2) ∧ Below V.heap.size V w') := fun V hb => by
  have q := h'.below hb
  rw [← e2]
  exact yak rb' s' cm' mb' E' V q.rep q.own p (by unfold maxLen; omega)
 have o1 := ybg h p
 have o2 := ybg h' p
 rw [e1] at C1 o1
 rw [e2] at o2
 have C3 : Hid (∀ V, Calls Tryz.prog 65 #[yag R1, yag R2] V fun e w' => e = .returned (.tuple #[yag R3, .int .i64 z]) ∧ Below V.heap.size V w') := fun V => by
  have := ycq R1 R2 o1.2 o2.2 V
  rw [e3] at this
  exact this
 have o3 := pullR_ok R1 R2 o1.1 o1.2 o2.1 o2.2
 rw [e3] at o3
 have RM : Hid (∀ V, Below w.heap.size w V → Calls Tryz.prog 50 #[.pointer (some ⟨rb, 0, none⟩), yag R1] V fun e w' => e = .returned (.bool (noRoom R1 E)) ∧ Below V.heap.size V w') := fun V hb => room_any rb s cm mb E V (h.below hb) R1
 rw [hr] at RM
 have fin : Hid (∀ V, Below w.heap.size w V → Rg V rb s cm mb E ∧ Fr (fun k => k = rb ∨ k = mb) w V) := fun V hb => ⟨h.below hb, Fr.of_below hb⟩
 subst hz
 unfold yag at RM
 clear hr
 unfold yag at C1 C2 C3
 clear h h' e1 e2 e3 o1 o2 o3 hl
 have TH := there0
 go_enter Tryz.func44, Tryz.ntmps44
 go_wp2_with (go_at_call 48; refine C1.out.mono ?_; rintro e w1 ⟨rfl, hb1⟩; have S0 := yab ((Pp.zero hb1).set R1); clear hb1)
 generalize (w1.alloc (.cells #[.string ⟨#[]⟩, .int .i64 0, .int .i64 0, .int .i64 0, .int .i64 0, .int .i64 0, .int .i64 0, .int .i64 0, .int .i64 0, .int .i64 0, .int .i64 0, .int .i64 0, .int .i64 0, .int .i64 0, .int .i64 0] 120)).setCells w1.heap.size 0 [.string R1.text, .int .i64 R1.br, .int .i64 R1.bn, .int .i64 (R1.ch 0), .int .i64 (R1.ch 1), .int .i64 (R1.ch 2), .int .i64 (R1.ch 3), .int .i64 (R1.ch 4), .int .i64 (R1.ch 5), .int .i64 (R1.kn 0), .int .i64 (R1.kn 1), .int .i64 (R1.kn 2), .int .i64 (R1.kn 3), .int .i64 (R1.kn 4), .int .i64 (R1.kn 5)] = V1 at S0 ⊢
 go_cut [9, 10] (fun s9 s10 wx => ∃ b9, s9 = .pointer (some ⟨b9, 0, none⟩) ∧ s10 = .int .i64 1 ∧ Hid (Pp w wx b9 R3) ∧ Hid (Pp w wx w1.heap.size R1))
 case first =>
  have S1 := yab S0.out.drew
  have A1 := yab (S0.out.more ((Below.refl _ _).alloc (Nat.le_refl _) (.cells #[.string ⟨#[]⟩, .int .i64 0, .int .i64 0, .int .i64 0, .int .i64 0, .int .i64 0, .int .i64 0, .int .i64 0, .int .i64 0, .int .i64 0, .int .i64 0, .int .i64 0, .int .i64 0, .int .i64 0, .int .i64 0] 120))).drew
  have Z1 := yab (Pp.zero S0.out.bel).drew
  have hne : w1.heap.size ≠ V1.heap.size := by have := S0.out.rc.lt; omega
  obtain ⟨k0, k1, k2, k3, k4, k5, k6, k7, k8, k9, k10, k11, k12, k13, k14⟩ := S0.out.rc.cells
  obtain ⟨j0, j1, j2, j3, j4, j5, j6, j7, j8, j9, j10, j11, j12, j13, j14⟩ := (S0.out.more ((Below.refl _ _).alloc (Nat.le_refl _) (.cells #[.string ⟨#[]⟩, .int .i64 0, .int .i64 0, .int .i64 0, .int .i64 0, .int .i64 0, .int .i64 0, .int .i64 0, .int .i64 0, .int .i64 0, .int .i64 0, .int .i64 0, .int .i64 0, .int .i64 0, .int .i64 0] 120))).rc.cells
  go_region_law (first
   |(go_simp; go_at_call 48; first
     |(with_reducible refine (C2.out _ S1.out.bel).mono ?_; (try clear k0 k1 k2 k3 k4 k5 k6 k7 k8 k9 k10 k11 k12 k13 k14 j0 j1 j2 j3 j4 j5 j6 j7 j8 j9 j10 j11 j12 j13 j14); rintro e w2 ⟨rfl, hb2⟩; have S2 := yab (S1.out.more hb2); have hne2 := Nat.ne_of_lt S2.out.rc.lt; have A2 := yab (S2.out.more ((Below.refl _ _).alloc (Nat.le_refl _) (.cells #[.string ⟨#[]⟩, .int .i64 0, .int .i64 0, .int .i64 0, .int .i64 0, .int .i64 0, .int .i64 0, .int .i64 0, .int .i64 0, .int .i64 0, .int .i64 0, .int .i64 0, .int .i64 0, .int .i64 0, .int .i64 0] 120))); have Z2 := yab (Pp.zero S2.out.bel); obtain ⟨k0, k1, k2, k3, k4, k5, k6, k7, k8, k9, k10, k11, k12, k13, k14⟩ := S2.out.rc.cells; obtain ⟨j0, j1, j2, j3, j4, j5, j6, j7, j8, j9, j10, j11, j12, j13, j14⟩ := A2.out.rc.cells; clear hb2; dsimp only)
     |(with_reducible refine (C2.out _ A1.out.bel).mono ?_; (try clear k0 k1 k2 k3 k4 k5 k6 k7 k8 k9 k10 k11 k12 k13 k14 j0 j1 j2 j3 j4 j5 j6 j7 j8 j9 j10 j11 j12 j13 j14); rintro e w2 ⟨rfl, hb2⟩; have A2 := yab (A1.out.more hb2); have Z2 := yab (Z1.out.more hb2); obtain ⟨k0, k1, k2, k3, k4, k5, k6, k7, k8, k9, k10, k11, k12, k13, k14⟩ := A2.out.rc.cells; have th2 := Z2.out.rc.there; clear hb2; dsimp only))
   |(go_simp; go_at_call 65; refine (C3.out _).mono ?_; (try clear k0 k1 k2 k3 k4 k5 k6 k7 k8 k9 k10 k11 k12 k13 k14 j0 j1 j2 j3 j4 j5 j6 j7 j8 j9 j10 j11 j12 j13 j14); rintro e w3 ⟨rfl, hb3⟩; first
     |(with_reducible have A3 := yab (A2.out.more hb3); have Z3 := yab (Z2.out.more hb3); have th3 := Z3.out.rc.there; have S4 := yab (Z3.out.set R3); have B4 := yab (A3.out.other Z3.out.ge (by first | exact hne | (have := S2.out.rc.lt; omega)) _ : Pp w (w3.setCells _ 0 [.string R3.text, .int .i64 R3.br, .int .i64 R3.bn, .int .i64 (R3.ch 0), .int .i64 (R3.ch 1), .int .i64 (R3.ch 2), .int .i64 (R3.ch 3), .int .i64 (R3.ch 4), .int .i64 (R3.ch 5), .int .i64 (R3.kn 0), .int .i64 (R3.kn 1), .int .i64 (R3.kn 2), .int .i64 (R3.kn 3), .int .i64 (R3.kn 4), .int .i64 (R3.kn 5)]) _ R1); obtain ⟨k0, k1, k2, k3, k4, k5, k6, k7, k8, k9, k10, k11, k12, k13, k14⟩ := B4.out.rc.cells; obtain ⟨j0, j1, j2, j3, j4, j5, j6, j7, j8, j9, j10, j11, j12, j13, j14⟩ := S4.out.rc.cells; clear hb3; dsimp only)
     |(with_reducible have S3 := yab (S2.out.more hb3); have Z3 := yab (Pp.zero S3.out.bel); have S4 := yab (Z3.out.set R3); have B4 := yab ((S3.out.more ((Below.refl _ _).alloc (Nat.le_refl _) (.cells #[.string ⟨#[]⟩, .int .i64 0, .int .i64 0, .int .i64 0, .int .i64 0, .int .i64 0, .int .i64 0, .int .i64 0, .int .i64 0, .int .i64 0, .int .i64 0, .int .i64 0, .int .i64 0, .int .i64 0, .int .i64 0] 120))).other Z3.out.ge (by have := S3.out.rc.lt; omega) _ : Pp w ((w3.alloc (.cells #[.string ⟨#[]⟩, .int .i64 0, .int .i64 0, .int .i64 0, .int .i64 0, .int .i64 0, .int .i64 0, .int .i64 0, .int .i64 0, .int .i64 0, .int .i64 0, .int .i64 0, .int .i64 0, .int .i64 0, .int .i64 0] 120)).setCells _ 0 [.string R3.text, .int .i64 R3.br, .int .i64 R3.bn, .int .i64 (R3.ch 0), .int .i64 (R3.ch 1), .int .i64 (R3.ch 2), .int .i64 (R3.ch 3), .int .i64 (R3.ch 4), .int .i64 (R3.ch 5), .int .i64 (R3.kn 0), .int .i64 (R3.kn 1), .int .i64 (R3.kn 2), .int .i64 (R3.kn 3), .int .i64 (R3.kn 4), .int .i64 (R3.kn 5)]) _ R1); obtain ⟨k0, k1, k2, k3, k4, k5, k6, k7, k8, k9, k10, k11, k12, k13, k14⟩ := B4.out.rc.cells; obtain ⟨j0, j1, j2, j3, j4, j5, j6, j7, j8, j9, j10, j11, j12, j13, j14⟩ := S4.out.rc.cells; clear hb3; dsimp only)))
  all_goals
   go_wp2_with fail
   go_meet
   exact ⟨_, rfl, rfl, S4, B4⟩
 case rest =>
  obtain ⟨b9, rfl, rfl, S4, B4⟩ := hcut
  obtain ⟨k0, k1, k2, k3, k4, k5, k6, k7, k8, k9, k10, k11, k12, k13, k14⟩ := B4.out.rc.cells
  obtain ⟨j0, j1, j2, j3, j4, j5, j6, j7, j8, j9, j10, j11, j12, j13, j14⟩ := S4.out.rc.cells
  go_wp2_with (first
   |(go_at_call 50; with_reducible refine (RM.out _ S4.out.bel).mono ?_; (try clear k0 k1 k2 k3 k4 k5 k6 k7 k8 k9 k10 k11 k12 k13 k14 j0 j1 j2 j3 j4 j5 j6 j7 j8 j9 j10 j11 j12 j13 j14); rintro e w5 ⟨rfl, hb5⟩; have S5 := yab (S4.out.more hb5); obtain ⟨j0, j1, j2, j3, j4, j5, j6, j7, j8, j9, j10, j11, j12, j13, j14⟩ := S5.out.rc.cells; clear hb5))
  go_ret2
  exact ⟨rfl, fin.out _ S5.out.bel⟩
set_option maxRecDepth 100000 in
set_option maxHeartbeats 4000000 in
theorem rpull_copied (rb s : Nat) (cm : Nat → Int) (mb : Nat) (E : yav) (rb' s' : Nat) (cm' : Nat → Int) (mb' : Nat) (E' : yav) (w : World) (h : Rg w rb s cm mb E) (h' : Rg w rb' s' cm' mb' E') (hl : E.length < 999999) (p : ByteArray) (hp : p.size ≤ 1000000000000) (R1 R2 R3 : Rec) (z : Int) (e1 : ybp s cm (ybb p E) = R1) (e2 : ybp s' cm' (ybb p E') = R2) (e3 : yaz R1 R2 = (R3, z)) (hz : z = 1) (hr : noRoom R1 E = false) :
  Calls Tryz.prog 44 #[.pointer (some ⟨rb, 0, none⟩), .pointer (some ⟨rb', 0, none⟩), .string p] w fun e w' => e = .returned (.tuple #[.int .i64 1, .int .i64 0]) ∧ Rg w' rb s cm mb (ybm cm p R3 E) ∧ Fr (fun k => k = rb ∨ k = mb) w w' := by
 have C1 := yab (yak rb s cm mb E w h.rep h.own p (by unfold maxLen; omega))
 have C2 : Hid (∀ V, Below w.heap.size w V → Calls Tryz.prog 48 #[.pointer (some ⟨rb', 0, none⟩), .string p] V fun e w' => e = .returned (yag R2) ∧ Below V.heap.size V w') := fun V hb => by
  have q := h'.below hb
  rw [← e2]
  exact yak rb' s' cm' mb' E' V q.rep q.own p (by unfold maxLen; omega)
 have o1 := ybg h p
 have o2 := ybg h' p
 rw [e1] at C1 o1
 rw [e2] at o2
 have C3 : Hid (∀ V, Calls Tryz.prog 65 #[yag R1, yag R2] V fun e w' => e = .returned (.tuple #[yag R3, .int .i64 z]) ∧ Below V.heap.size V w') := fun V => by
  have := ycq R1 R2 o1.2 o2.2 V
  rw [e3] at this
  exact this
 have o3 := pullR_ok R1 R2 o1.1 o1.2 o2.1 o2.2
 rw [e3] at o3
 have RM : Hid (∀ V, Below w.heap.size w V → Calls Tryz.prog 50 #[.pointer (some ⟨rb, 0, none⟩), yag R1] V fun e w' => e = .returned (.bool (noRoom R1 E)) ∧ Below V.heap.size V w') := fun V hb => room_any rb s cm mb E V (h.below hb) R1
 rw [hr] at RM
 have KE : Hid (∀ V, Below w.heap.size w V → Calls Tryz.prog 56 #[.pointer (some ⟨rb, 0, none⟩), .string p, yag R3] V fun e w' => e = .returned (.tuple #[]) ∧ Rg w' rb s cm mb (ybm cm p R3 E) ∧ Fr (fun k => k = rb ∨ k = mb) w w') := fun V hb => by
  have q := h.below hb
  refine (keepG_any rb s cm mb E V q.rep q.own q.ris (by have := q.len; unfold maxLen; omega) p hp R3 o3.1).mono ?_
  rintro e w' ⟨rfl, hr, ho, hf⟩
  refine ⟨rfl, ⟨hr, ho, yby cm p R3 E h.ris, fun x hx => ?_, by have := keepE_len cm p R3 E; omega, h.c0⟩, (Fr.of_below hb).trans (hf.mono (fun k _ e => .inr e))⟩
  rcases keepE_mem hx with rfl | hx
  ·exact o3
  ·exact h.bn x hx
 subst hz
 unfold yag at RM KE
 clear hr
 unfold yag at C1 C2 C3
 clear h h' e1 e2 e3 o1 o2 o3 hl
 have TH := there0
 go_enter Tryz.func44, Tryz.ntmps44
 go_wp2_with (go_at_call 48; refine C1.out.mono ?_; rintro e w1 ⟨rfl, hb1⟩; have S0 := yab ((Pp.zero hb1).set R1); clear hb1)
 generalize (w1.alloc (.cells #[.string ⟨#[]⟩, .int .i64 0, .int .i64 0, .int .i64 0, .int .i64 0, .int .i64 0, .int .i64 0, .int .i64 0, .int .i64 0, .int .i64 0, .int .i64 0, .int .i64 0, .int .i64 0, .int .i64 0, .int .i64 0] 120)).setCells w1.heap.size 0 [.string R1.text, .int .i64 R1.br, .int .i64 R1.bn, .int .i64 (R1.ch 0), .int .i64 (R1.ch 1), .int .i64 (R1.ch 2), .int .i64 (R1.ch 3), .int .i64 (R1.ch 4), .int .i64 (R1.ch 5), .int .i64 (R1.kn 0), .int .i64 (R1.kn 1), .int .i64 (R1.kn 2), .int .i64 (R1.kn 3), .int .i64 (R1.kn 4), .int .i64 (R1.kn 5)] = V1 at S0 ⊢
 go_cut [9, 10] (fun s9 s10 wx => ∃ b9, s9 = .pointer (some ⟨b9, 0, none⟩) ∧ s10 = .int .i64 1 ∧ Hid (Pp w wx b9 R3) ∧ Hid (Pp w wx w1.heap.size R1))
 case first =>
  have S1 := yab S0.out.drew
  have A1 := yab (S0.out.more ((Below.refl _ _).alloc (Nat.le_refl _) (.cells #[.string ⟨#[]⟩, .int .i64 0, .int .i64 0, .int .i64 0, .int .i64 0, .int .i64 0, .int .i64 0, .int .i64 0, .int .i64 0, .int .i64 0, .int .i64 0, .int .i64 0, .int .i64 0, .int .i64 0, .int .i64 0] 120))).drew
  have Z1 := yab (Pp.zero S0.out.bel).drew
  have hne : w1.heap.size ≠ V1.heap.size := by have := S0.out.rc.lt; omega
  obtain ⟨k0, k1, k2, k3, k4, k5, k6, k7, k8, k9, k10, k11, k12, k13, k14⟩ := S0.out.rc.cells
  obtain ⟨j0, j1, j2, j3, j4, j5, j6, j7, j8, j9, j10, j11, j12, j13, j14⟩ := (S0.out.more ((Below.refl _ _).alloc (Nat.le_refl _) (.cells #[.string ⟨#[]⟩, .int .i64 0, .int .i64 0, .int .i64 0, .int .i64 0, .int .i64 0, .int .i64 0, .int .i64 0, .int .i64 0, .int .i64 0, .int .i64 0, .int .i64 0, .int .i64 0, .int .i64 0, .int .i64 0] 120))).rc.cells
  go_region_law (first
   |(go_simp; go_at_call 48; first
     |(with_reducible refine (C2.out _ S1.out.bel).mono ?_; (try clear k0 k1 k2 k3 k4 k5 k6 k7 k8 k9 k10 k11 k12 k13 k14 j0 j1 j2 j3 j4 j5 j6 j7 j8 j9 j10 j11 j12 j13 j14); rintro e w2 ⟨rfl, hb2⟩; have S2 := yab (S1.out.more hb2); have hne2 := Nat.ne_of_lt S2.out.rc.lt; have A2 := yab (S2.out.more ((Below.refl _ _).alloc (Nat.le_refl _) (.cells #[.string ⟨#[]⟩, .int .i64 0, .int .i64 0, .int .i64 0, .int .i64 0, .int .i64 0, .int .i64 0, .int .i64 0, .int .i64 0, .int .i64 0, .int .i64 0, .int .i64 0, .int .i64 0, .int .i64 0, .int .i64 0] 120))); have Z2 := yab (Pp.zero S2.out.bel); obtain ⟨k0, k1, k2, k3, k4, k5, k6, k7, k8, k9, k10, k11, k12, k13, k14⟩ := S2.out.rc.cells; obtain ⟨j0, j1, j2, j3, j4, j5, j6, j7, j8, j9, j10, j11, j12, j13, j14⟩ := A2.out.rc.cells; clear hb2; dsimp only)
     |(with_reducible refine (C2.out _ A1.out.bel).mono ?_; (try clear k0 k1 k2 k3 k4 k5 k6 k7 k8 k9 k10 k11 k12 k13 k14 j0 j1 j2 j3 j4 j5 j6 j7 j8 j9 j10 j11 j12 j13 j14); rintro e w2 ⟨rfl, hb2⟩; have A2 := yab (A1.out.more hb2); have Z2 := yab (Z1.out.more hb2); obtain ⟨k0, k1, k2, k3, k4, k5, k6, k7, k8, k9, k10, k11, k12, k13, k14⟩ := A2.out.rc.cells; have th2 := Z2.out.rc.there; clear hb2; dsimp only))
   |(go_simp; go_at_call 65; refine (C3.out _).mono ?_; (try clear k0 k1 k2 k3 k4 k5 k6 k7 k8 k9 k10 k11 k12 k13 k14 j0 j1 j2 j3 j4 j5 j6 j7 j8 j9 j10 j11 j12 j13 j14); rintro e w3 ⟨rfl, hb3⟩; first
     |(with_reducible have A3 := yab (A2.out.more hb3); have Z3 := yab (Z2.out.more hb3); have th3 := Z3.out.rc.there; have S4 := yab (Z3.out.set R3); have B4 := yab (A3.out.other Z3.out.ge (by first | exact hne | (have := S2.out.rc.lt; omega)) _ : Pp w (w3.setCells _ 0 [.string R3.text, .int .i64 R3.br, .int .i64 R3.bn, .int .i64 (R3.ch 0), .int .i64 (R3.ch 1), .int .i64 (R3.ch 2), .int .i64 (R3.ch 3), .int .i64 (R3.ch 4), .int .i64 (R3.ch 5), .int .i64 (R3.kn 0), .int .i64 (R3.kn 1), .int .i64 (R3.kn 2), .int .i64 (R3.kn 3), .int .i64 (R3.kn 4), .int .i64 (R3.kn 5)]) _ R1); obtain ⟨k0, k1, k2, k3, k4, k5, k6, k7, k8, k9, k10, k11, k12, k13, k14⟩ := B4.out.rc.cells; obtain ⟨j0, j1, j2, j3, j4, j5, j6, j7, j8, j9, j10, j11, j12, j13, j14⟩ := S4.out.rc.cells; clear hb3; dsimp only)
     |(with_reducible have S3 := yab (S2.out.more hb3); have Z3 := yab (Pp.zero S3.out.bel); have S4 := yab (Z3.out.set R3); have B4 := yab ((S3.out.more ((Below.refl _ _).alloc (Nat.le_refl _) (.cells #[.string ⟨#[]⟩, .int .i64 0, .int .i64 0, .int .i64 0, .int .i64 0, .int .i64 0, .int .i64 0, .int .i64 0, .int .i64 0, .int .i64 0, .int .i64 0, .int .i64 0, .int .i64 0, .int .i64 0, .int .i64 0] 120))).other Z3.out.ge (by have := S3.out.rc.lt; omega) _ : Pp w ((w3.alloc (.cells #[.string ⟨#[]⟩, .int .i64 0, .int .i64 0, .int .i64 0, .int .i64 0, .int .i64 0, .int .i64 0, .int .i64 0, .int .i64 0, .int .i64 0, .int .i64 0, .int .i64 0, .int .i64 0, .int .i64 0, .int .i64 0] 120)).setCells _ 0 [.string R3.text, .int .i64 R3.br, .int .i64 R3.bn, .int .i64 (R3.ch 0), .int .i64 (R3.ch 1), .int .i64 (R3.ch 2), .int .i64 (R3.ch 3), .int .i64 (R3.ch 4), .int .i64 (R3.ch 5), .int .i64 (R3.kn 0), .int .i64 (R3.kn 1), .int .i64 (R3.kn 2), .int .i64 (R3.kn 3), .int .i64 (R3.kn 4), .int .i64 (R3.kn 5)]) _ R1); obtain ⟨k0, k1, k2, k3, k4, k5, k6, k7, k8, k9, k10, k11, k12, k13, k14⟩ := B4.out.rc.cells; obtain ⟨j0, j1, j2, j3, j4, j5, j6, j7, j8, j9, j10, j11, j12, j13, j14⟩ := S4.out.rc.cells; clear hb3; dsimp only)))
  all_goals
   go_wp2_with fail
   go_meet
   exact ⟨_, rfl, rfl, S4, B4⟩
 case rest =>
  obtain ⟨b9, rfl, rfl, S4, B4⟩ := hcut
  obtain ⟨k0, k1, k2, k3, k4, k5, k6, k7, k8, k9, k10, k11, k12, k13, k14⟩ := B4.out.rc.cells
  obtain ⟨j0, j1, j2, j3, j4, j5, j6, j7, j8, j9, j10, j11, j12, j13, j14⟩ := S4.out.rc.cells
  go_wp2_with (first
   |(go_at_call 50; with_reducible refine (RM.out _ S4.out.bel).mono ?_; (try clear k0 k1 k2 k3 k4 k5 k6 k7 k8 k9 k10 k11 k12 k13 k14 j0 j1 j2 j3 j4 j5 j6 j7 j8 j9 j10 j11 j12 j13 j14); rintro e w5 ⟨rfl, hb5⟩; have S5 := yab (S4.out.more hb5); obtain ⟨j0, j1, j2, j3, j4, j5, j6, j7, j8, j9, j10, j11, j12, j13, j14⟩ := S5.out.rc.cells; clear hb5)
   |(go_at_call 56; with_reducible refine (KE.out _ S5.out.bel).mono ?_; rintro e w6 ⟨rfl, hPr, hFr⟩; have HP := yab hPr; have HF := yab hFr; clear hPr hFr))
  go_ret2
  exact ⟨rfl, HP.out, HF.out⟩
set_option maxRecDepth 100000 in
set_option maxHeartbeats 4000000 in
theorem rpull_other (rb s : Nat) (cm : Nat → Int) (mb : Nat) (E : yav) (rb' s' : Nat) (cm' : Nat → Int) (mb' : Nat) (E' : yav) (w : World) (h : Rg w rb s cm mb E) (h' : Rg w rb' s' cm' mb' E') (hl : E.length < 999999) (p : ByteArray) (hp : p.size ≤ 1000000000000) (R1 R2 R3 : Rec) (z : Int) (e1 : ybp s cm (ybb p E) = R1) (e2 : ybp s' cm' (ybb p E') = R2) (e3 : yaz R1 R2 = (R3, z)) (hz : z ≠ 1) :
  Calls Tryz.prog 44 #[.pointer (some ⟨rb, 0, none⟩), .pointer (some ⟨rb', 0, none⟩), .string p] w fun e w' => e = .returned (.tuple #[.int .i64 z, .int .i64 0]) ∧ Rg w' rb s cm mb (ybm cm p R3 E) ∧ Fr (fun k => k = rb ∨ k = mb) w w' := by
 have C1 := yab (yak rb s cm mb E w h.rep h.own p (by unfold maxLen; omega))
 have C2 : Hid (∀ V, Below w.heap.size w V → Calls Tryz.prog 48 #[.pointer (some ⟨rb', 0, none⟩), .string p] V fun e w' => e = .returned (yag R2) ∧ Below V.heap.size V w') := fun V hb => by
  have q := h'.below hb
  rw [← e2]
  exact yak rb' s' cm' mb' E' V q.rep q.own p (by unfold maxLen; omega)
 have o1 := ybg h p
 have o2 := ybg h' p
 rw [e1] at C1 o1
 rw [e2] at o2
 have C3 : Hid (∀ V, Calls Tryz.prog 65 #[yag R1, yag R2] V fun e w' => e = .returned (.tuple #[yag R3, .int .i64 z]) ∧ Below V.heap.size V w') := fun V => by
  have := ycq R1 R2 o1.2 o2.2 V
  rw [e3] at this
  exact this
 have o3 := pullR_ok R1 R2 o1.1 o1.2 o2.1 o2.2
 rw [e3] at o3
 have KE : Hid (∀ V, Below w.heap.size w V → Calls Tryz.prog 56 #[.pointer (some ⟨rb, 0, none⟩), .string p, yag R3] V fun e w' => e = .returned (.tuple #[]) ∧ Rg w' rb s cm mb (ybm cm p R3 E) ∧ Fr (fun k => k = rb ∨ k = mb) w w') := fun V hb => by
  have q := h.below hb
  refine (keepG_any rb s cm mb E V q.rep q.own q.ris (by have := q.len; unfold maxLen; omega) p hp R3 o3.1).mono ?_
  rintro e w' ⟨rfl, hr, ho, hf⟩
  refine ⟨rfl, ⟨hr, ho, yby cm p R3 E h.ris, fun x hx => ?_, by have := keepE_len cm p R3 E; omega, h.c0⟩, (Fr.of_below hb).trans (hf.mono (fun k _ e => .inr e))⟩
  rcases keepE_mem hx with rfl | hx
  ·exact o3
  ·exact h.bn x hx
 have hz1 : (z == 1) = false := by simpa using hz
 unfold yag at KE
 unfold yag at C1 C2 C3
 clear h h' e1 e2 e3 o1 o2 o3 hl
 have TH := there0
 go_enter Tryz.func44, Tryz.ntmps44
 go_wp2_with (go_at_call 48; refine C1.out.mono ?_; rintro e w1 ⟨rfl, hb1⟩; have S0 := yab ((Pp.zero hb1).set R1); clear hb1)
 generalize (w1.alloc (.cells #[.string ⟨#[]⟩, .int .i64 0, .int .i64 0, .int .i64 0, .int .i64 0, .int .i64 0, .int .i64 0, .int .i64 0, .int .i64 0, .int .i64 0, .int .i64 0, .int .i64 0, .int .i64 0, .int .i64 0, .int .i64 0] 120)).setCells w1.heap.size 0 [.string R1.text, .int .i64 R1.br, .int .i64 R1.bn, .int .i64 (R1.ch 0), .int .i64 (R1.ch 1), .int .i64 (R1.ch 2), .int .i64 (R1.ch 3), .int .i64 (R1.ch 4), .int .i64 (R1.ch 5), .int .i64 (R1.kn 0), .int .i64 (R1.kn 1), .int .i64 (R1.kn 2), .int .i64 (R1.kn 3), .int .i64 (R1.kn 4), .int .i64 (R1.kn 5)] = V1 at S0 ⊢
 go_cut [9, 10] (fun s9 s10 wx => ∃ b9, s9 = .pointer (some ⟨b9, 0, none⟩) ∧ s10 = .int .i64 z ∧ Hid (Pp w wx b9 R3) ∧ Hid (Pp w wx w1.heap.size R1))
 case first =>
  have S1 := yab S0.out.drew
  have A1 := yab (S0.out.more ((Below.refl _ _).alloc (Nat.le_refl _) (.cells #[.string ⟨#[]⟩, .int .i64 0, .int .i64 0, .int .i64 0, .int .i64 0, .int .i64 0, .int .i64 0, .int .i64 0, .int .i64 0, .int .i64 0, .int .i64 0, .int .i64 0, .int .i64 0, .int .i64 0, .int .i64 0] 120))).drew
  have Z1 := yab (Pp.zero S0.out.bel).drew
  have hne : w1.heap.size ≠ V1.heap.size := by have := S0.out.rc.lt; omega
  obtain ⟨k0, k1, k2, k3, k4, k5, k6, k7, k8, k9, k10, k11, k12, k13, k14⟩ := S0.out.rc.cells
  obtain ⟨j0, j1, j2, j3, j4, j5, j6, j7, j8, j9, j10, j11, j12, j13, j14⟩ := (S0.out.more ((Below.refl _ _).alloc (Nat.le_refl _) (.cells #[.string ⟨#[]⟩, .int .i64 0, .int .i64 0, .int .i64 0, .int .i64 0, .int .i64 0, .int .i64 0, .int .i64 0, .int .i64 0, .int .i64 0, .int .i64 0, .int .i64 0, .int .i64 0, .int .i64 0, .int .i64 0] 120))).rc.cells
  go_region_law (first
   |(go_simp; go_at_call 48; first
     |(with_reducible refine (C2.out _ S1.out.bel).mono ?_; (try clear k0 k1 k2 k3 k4 k5 k6 k7 k8 k9 k10 k11 k12 k13 k14 j0 j1 j2 j3 j4 j5 j6 j7 j8 j9 j10 j11 j12 j13 j14); rintro e w2 ⟨rfl, hb2⟩; have S2 := yab (S1.out.more hb2); have hne2 := Nat.ne_of_lt S2.out.rc.lt; have A2 := yab (S2.out.more ((Below.refl _ _).alloc (Nat.le_refl _) (.cells #[.string ⟨#[]⟩, .int .i64 0, .int .i64 0, .int .i64 0, .int .i64 0, .int .i64 0, .int .i64 0, .int .i64 0, .int .i64 0, .int .i64 0, .int .i64 0, .int .i64 0, .int .i64 0, .int .i64 0, .int .i64 0] 120))); have Z2 := yab (Pp.zero S2.out.bel); obtain ⟨k0, k1, k2, k3, k4, k5, k6, k7, k8, k9, k10, k11, k12, k13, k14⟩ := S2.out.rc.cells; obtain ⟨j0, j1, j2, j3, j4, j5, j6, j7, j8, j9, j10, j11, j12, j13, j14⟩ := A2.out.rc.cells; clear hb2; dsimp only)
     |(with_reducible refine (C2.out _ A1.out.bel).mono ?_; (try clear k0 k1 k2 k3 k4 k5 k6 k7 k8 k9 k10 k11 k12 k13 k14 j0 j1 j2 j3 j4 j5 j6 j7 j8 j9 j10 j11 j12 j13 j14); rintro e w2 ⟨rfl, hb2⟩; have A2 := yab (A1.out.more hb2); have Z2 := yab (Z1.out.more hb2); obtain ⟨k0, k1, k2, k3, k4, k5, k6, k7, k8, k9, k10, k11, k12, k13, k14⟩ := A2.out.rc.cells; have th2 := Z2.out.rc.there; clear hb2; dsimp only))
   |(go_simp; go_at_call 65; refine (C3.out _).mono ?_; (try clear k0 k1 k2 k3 k4 k5 k6 k7 k8 k9 k10 k11 k12 k13 k14 j0 j1 j2 j3 j4 j5 j6 j7 j8 j9 j10 j11 j12 j13 j14); rintro e w3 ⟨rfl, hb3⟩; first
     |(with_reducible have A3 := yab (A2.out.more hb3); have Z3 := yab (Z2.out.more hb3); have th3 := Z3.out.rc.there; have S4 := yab (Z3.out.set R3); have B4 := yab (A3.out.other Z3.out.ge (by first | exact hne | (have := S2.out.rc.lt; omega)) _ : Pp w (w3.setCells _ 0 [.string R3.text, .int .i64 R3.br, .int .i64 R3.bn, .int .i64 (R3.ch 0), .int .i64 (R3.ch 1), .int .i64 (R3.ch 2), .int .i64 (R3.ch 3), .int .i64 (R3.ch 4), .int .i64 (R3.ch 5), .int .i64 (R3.kn 0), .int .i64 (R3.kn 1), .int .i64 (R3.kn 2), .int .i64 (R3.kn 3), .int .i64 (R3.kn 4), .int .i64 (R3.kn 5)]) _ R1); obtain ⟨k0, k1, k2, k3, k4, k5, k6, k7, k8, k9, k10, k11, k12, k13, k14⟩ := B4.out.rc.cells; obtain ⟨j0, j1, j2, j3, j4, j5, j6, j7, j8, j9, j10, j11, j12, j13, j14⟩ := S4.out.rc.cells; clear hb3; dsimp only)
     |(with_reducible have S3 := yab (S2.out.more hb3); have Z3 := yab (Pp.zero S3.out.bel); have S4 := yab (Z3.out.set R3); have B4 := yab ((S3.out.more ((Below.refl _ _).alloc (Nat.le_refl _) (.cells #[.string ⟨#[]⟩, .int .i64 0, .int .i64 0, .int .i64 0, .int .i64 0, .int .i64 0, .int .i64 0, .int .i64 0, .int .i64 0, .int .i64 0, .int .i64 0, .int .i64 0, .int .i64 0, .int .i64 0, .int .i64 0] 120))).other Z3.out.ge (by have := S3.out.rc.lt; omega) _ : Pp w ((w3.alloc (.cells #[.string ⟨#[]⟩, .int .i64 0, .int .i64 0, .int .i64 0, .int .i64 0, .int .i64 0, .int .i64 0, .int .i64 0, .int .i64 0, .int .i64 0, .int .i64 0, .int .i64 0, .int .i64 0, .int .i64 0, .int .i64 0] 120)).setCells _ 0 [.string R3.text, .int .i64 R3.br, .int .i64 R3.bn, .int .i64 (R3.ch 0), .int .i64 (R3.ch 1), .int .i64 (R3.ch 2), .int .i64 (R3.ch 3), .int .i64 (R3.ch 4), .int .i64 (R3.ch 5), .int .i64 (R3.kn 0), .int .i64 (R3.kn 1), .int .i64 (R3.kn 2), .int .i64 (R3.kn 3), .int .i64 (R3.kn 4), .int .i64 (R3.kn 5)]) _ R1); obtain ⟨k0, k1, k2, k3, k4, k5, k6, k7, k8, k9, k10, k11, k12, k13, k14⟩ := B4.out.rc.cells; obtain ⟨j0, j1, j2, j3, j4, j5, j6, j7, j8, j9, j10, j11, j12, j13, j14⟩ := S4.out.rc.cells; clear hb3; dsimp only)))
  all_goals
   go_wp2_with fail
   go_meet
   exact ⟨_, rfl, rfl, S4, B4⟩
 case rest =>
  obtain ⟨b9, rfl, rfl, S4, B4⟩ := hcut
  obtain ⟨k0, k1, k2, k3, k4, k5, k6, k7, k8, k9, k10, k11, k12, k13, k14⟩ := B4.out.rc.cells
  obtain ⟨j0, j1, j2, j3, j4, j5, j6, j7, j8, j9, j10, j11, j12, j13, j14⟩ := S4.out.rc.cells
  go_wp2_with (first
   |(go_at_call 56; with_reducible refine (KE.out _ S4.out.bel).mono ?_; rintro e w6 ⟨rfl, hPr, hFr⟩; have HP := yab hPr; have HF := yab hFr; clear hPr hFr))
  go_ret2
  exact ⟨rfl, HP.out, HF.out⟩
end Go.Proofs.YtaelaldmibgibaaGreat

namespace Go.Proofs.YtaelaldmibgibaaGreat
open Go.RowKit
def ppR (s : Nat) (x : RS) (s' : Nat) (y : RS) (p : ByteArray) : Int × Int × RS :=
 if ((yaz (ybp s x.cm (ybb p x.E)) (ybp s' y.cm (ybb p y.E))).2 == 1 && noRoom (ybp s x.cm (ybb p x.E)) x.E) = true then (0, 5, x)
 else ((yaz (ybp s x.cm (ybb p x.E)) (ybp s' y.cm (ybb p y.E))).2, 0, ⟨x.cm, ybm x.cm p (yaz (ybp s x.cm (ybb p x.E)) (ybp s' y.cm (ybb p y.E))).1 x.E⟩)
theorem rpull_any (rb s mb : Nat) (x : RS) (rb' s' mb' : Nat) (y : RS) (w : World) (h : Rg w rb s x.cm mb x.E) (h' : Rg w rb' s' y.cm mb' y.E) (hl : x.E.length < 999999) (p : ByteArray) (hp : p.size ≤ 1000000000000) :
  Calls Tryz.prog 44 #[.pointer (some ⟨rb, 0, none⟩), .pointer (some ⟨rb', 0, none⟩), .string p] w fun e w' => e = .returned (.tuple #[.int .i64 (ppR s x s' y p).1, .int .i64 (ppR s x s' y p).2.1]) ∧ Rg w' rb s (ppR s x s' y p).2.2.cm mb (ppR s x s' y p).2.2.E ∧ Fr (fun k => k = rb ∨ k = mb) w w' := by
 unfold ppR
 split
 ·next hc =>
  rw [Bool.and_eq_true, beq_iff_eq] at hc
  exact rpull_full rb s x.cm mb x.E rb' s' y.cm mb' y.E w h h' hl p hp _ _ _ _ rfl rfl rfl hc.1 hc.2
 ·next hc =>
  rw [Bool.and_eq_true, beq_iff_eq, not_and] at hc
  by_cases hz : (yaz (ybp s x.cm (ybb p x.E)) (ybp s' y.cm (ybb p y.E))).2 = 1
  ·have := rpull_copied rb s x.cm mb x.E rb' s' y.cm mb' y.E w h h' hl p hp _ _ _ _ rfl rfl rfl hz (by simpa using hc hz)
   rw [hz]
   exact this
  ·exact rpull_other rb s x.cm mb x.E rb' s' y.cm mb' y.E w h h' hl p hp _ _ _ _ rfl rfl rfl hz
set_option maxHeartbeats 600000 in
theorem npull_any {nb pb : Nat} {L : List (Nat × Nat)} {S : List RS} {w : World} (h : Nt w nb pb L S) (a b : Nat) (hab : a ≠ b) {u v : Nat × Nat} {x y : RS} (hu : L[a]? = some u) (hv : L[b]? = some v) (hx : S[a]? = some x) (hy : S[b]? = some y) (hl : x.E.length < 999999) (p : ByteArray) (hp : yat p = true) (hpm : p.size ≤ 1000000) :
  Calls Tryz.prog 26 #[.pointer (some ⟨nb, 0, none⟩), .int .i64 a, .int .i64 b, .string p] w fun e w' => e = .returned (.tuple #[.int .i64 (ppR a x b y p).1, .int .i64 (ppR a x b y p).2.1]) ∧ Nt w' nb pb L (S.set a (ppR a x b y p).2.2) ∧ Fr (fun k => k = u.1 ∨ k = u.2) w w' := by
 have C := yab (placesOf_ok nb S.length pb (L.map (·.1)) a b u.1 v.1 p w h.net h.nlt h.plt (by rw [List.getElem?_map, hu]; rfl) (by rw [List.getElem?_map, hv]; rfl) hab hp (by unfold maxLen; omega))
 have W1 : Hid (∀ V, Below w.heap.size w V → Calls Tryz.prog 44 #[.pointer (some ⟨u.1, 0, none⟩), .pointer (some ⟨v.1, 0, none⟩), .string p] V fun e w' => e = .returned (.tuple #[.int .i64 (ppR a x b y p).1, .int .i64 (ppR a x b y p).2.1]) ∧ Rg w' u.1 a (ppR a x b y p).2.2.cm u.2 (ppR a x b y p).2.2.E ∧ Fr (fun k => k = u.1 ∨ k = u.2) w w') := fun V hb => by
  refine (rpull_any u.1 a u.2 x v.1 b v.2 y V ((h.rep a u x hu hx).below hb) ((h.rep b v y hv hy).below hb) hl p (by omega)).mono ?_
  rintro e w' ⟨rfl, h1, h2⟩
  exact ⟨rfl, h1, (Fr.of_below hb).trans h2⟩
 have FN : Hid (∀ w', Rg w' u.1 a (ppR a x b y p).2.2.cm u.2 (ppR a x b y p).2.2.E → Fr (fun k => k = u.1 ∨ k = u.2) w w' → Nt w' nb pb L (S.set a (ppR a x b y p).2.2)) := fun w' h1 h2 => h.turn hu h2 h1
 clear h hu hv hx hy hp hpm hl
 go_enter Tryz.func26, Tryz.ntmps26
 go_wp2_with (first
  |(go_at_call 43; refine C.out.mono ?_; rintro e w1 ⟨rfl, hb1⟩; have B1 := yab hb1; clear hb1)
  |(go_at_call 44; refine (W1.out _ B1.out).mono ?_; rintro e w2 ⟨rfl, hRr, hFr⟩; have HR := yab hRr; have HF := yab hFr; clear hRr hFr))
 go_ret2
 exact ⟨rfl, FN.out _ HR.out HF.out, HF.out⟩
open Go.RowKit Go.Maps
def ybj (s : Nat) (x : Int) (Ra Ro Rm : Rec) : Rec := ⟨(yah s x Ra Ro Rm).text, (yah s x Ra Ro Rm).br, (yah s x Ra Ro Rm).bn, (yah s x Ra Ro Rm).ch, yad (yah s x Ra Ro Rm).kn (yad Ro.kn (tf s x))⟩
theorem Rv.chosen {w w2 w3 : World} {rb s mb : Nat} {cm : Nat → Int} {E : yav} (h : Rg w rb s cm mb E) {Ra Ro : Rec} (hb : Below w.heap.size w w2) (S3 : R2 w2 w3 Ra Ro) (o : Obj) (Rm : Rec) :
  Rv w ((w3.alloc o).alloc (.cells #[.string Rm.text, .int .i64 Rm.br, .int .i64 Rm.bn, .int .i64 (Rm.ch 0), .int .i64 (Rm.ch 1), .int .i64 (Rm.ch 2), .int .i64 (Rm.ch 3), .int .i64 (Rm.ch 4), .int .i64 (Rm.ch 5), .int .i64 (Rm.kn 0), .int .i64 (Rm.kn 1), .int .i64 (Rm.kn 2), .int .i64 (Rm.kn 3), .int .i64 (Rm.kn 4), .int .i64 (Rm.kn 5)] 120)) rb s mb (w3.heap.size + 1) cm E Rm 0 none w2.heap.size Ra (w2.heap.size + 1) Ro := by
 have b3 := hb.trans (S3.bel.mono hb.size)
 have b4 := b3.alloc b3.size o
 have := Sg.start h b4 Rm
 have e : (w3.alloc o).heap.size = w3.heap.size + 1 := by simp
 rw [e] at this
 have S4 := S3.more ((Below.refl _ _).alloc (Nat.le_refl _) o)
 have S5 := S4.more ((Below.refl _ _).alloc (Nat.le_refl _) (.cells #[.string Rm.text, .int .i64 Rm.br, .int .i64 Rm.bn, .int .i64 (Rm.ch 0), .int .i64 (Rm.ch 1), .int .i64 (Rm.ch 2), .int .i64 (Rm.ch 3), .int .i64 (Rm.ch 4), .int .i64 (Rm.ch 5), .int .i64 (Rm.kn 0), .int .i64 (Rm.kn 1), .int .i64 (Rm.kn 2), .int .i64 (Rm.kn 3), .int .i64 (Rm.kn 4), .int .i64 (Rm.kn 5)] 120))
 have l1 := S3.ra.lt
 have l2 := S3.rb.lt
 exact ⟨this, S5.ra, S5.rb, hb.size, by have := hb.size; omega, by omega, by omega⟩
def ydw (th : Bool) (Ra Ro : Rec) : Rec := match th with | true => ⟨Ro.text, Ro.br, Ro.bn, Ro.ch, Ra.kn⟩ | false => Ra
def rsRec (s : Nat) (x : RS) (Ra Ro : Rec) (p : ByteArray) (th : Bool) : Int × RS :=
 if ((yaz Ra Ro).2 == 3) = false then (4, x)
 else if (decide (1000000000 ≤ x.cm s) || (decide (0 < (ydw th Ra Ro).bn) && noRoom Ra x.E)) = true then (5, x)
 else (0, ⟨nxG s x.cm, ybm (nxG s x.cm) p (ybj s (x.cm s + 1) Ra Ro (ydw th Ra Ro)) x.E⟩)
def rsR (s : Nat) (x : RS) (s' : Nat) (y : RS) (p : ByteArray) (th : Bool) : Int × RS := rsRec s x (ybp s x.cm (ybb p x.E)) (ybp s' y.cm (ybb p y.E)) p th
set_option maxRecDepth 100000 in
set_option maxHeartbeats 4000000 in
theorem rresolve_there_t (rb s : Nat) (cm : Nat → Int) (mb : Nat) (E : yav) (rb' s' : Nat) (cm' : Nat → Int) (mb' : Nat) (E' : yav) (w : World) (h : Rg w rb s cm mb E) (h' : Rg w rb' s' cm' mb' E') (hl : E.length < 999999) (p : ByteArray) (hp : p.size ≤ 1000000000000) (Ra Ro Rt Rm : Rec) (e1 : ybp s cm (ybb p E) = Ra) (e2 : ybp s' cm' (ybb p E') = Ro) (e3 : yaz Ra Ro = (Rt, 3)) (hm : Rm = ⟨Ro.text, Ro.br, Ro.bn, Ro.ch, Ra.kn⟩) (hc : cm s < 1000000000) (ht : 0 < Rm.bn) (hr : noRoom Ra E = false) :
  Calls Tryz.prog 45 #[.pointer (some ⟨rb, 0, none⟩), .pointer (some ⟨rb', 0, none⟩), .string p, .bool true] w fun e w' => e = .returned (.int .i64 0) ∧ Rg w' rb s (nxG s cm) mb (ybm (nxG s cm) p (ybj s (cm s + 1) Ra Ro Rm) E) ∧ Fr (fun k => k = rb ∨ k = mb) w w' := by
 have C1 := yab (yak rb s cm mb E w h.rep h.own p (by unfold maxLen; omega))
 have C2 : Hid (∀ V, Below w.heap.size w V → Calls Tryz.prog 48 #[.pointer (some ⟨rb', 0, none⟩), .string p] V fun e w' => e = .returned (yag Ro) ∧ Below w.heap.size w w') := fun V hb => by
  have q := h'.below hb
  rw [← e2]
  refine (yak rb' s' cm' mb' E' V q.rep q.own p (by unfold maxLen; omega)).mono ?_
  rintro e w' ⟨rfl, hb'⟩
  exact ⟨rfl, hb.trans (hb'.mono hb.size)⟩
 have o1 := ybg h p
 have o2 := ybg h' p
 rw [e1] at C1 o1
 rw [e2] at o2
 have C3 : Hid (∀ V, Calls Tryz.prog 65 #[yag Ra, yag Ro] V fun e w' => e = .returned (.tuple #[yag Rt, .int .i64 3]) ∧ Below V.heap.size V w') := fun V => by
  have := ycq Ra Ro o1.2 o2.2 V
  rw [e3] at this
  exact this
 have om : 0 ≤ Rm.bn ∧ yfk Rm := by rw [hm]; exact o2
 have hc0 := h.c0
 have hs := h.rep.hs
 have hns := ydn s hs cm hc0
 have HR := yab h
 have RV : Hid (∀ w2 w3 o, Below w.heap.size w w2 → R2 w2 w3 Ra Ro → Rv w ((w3.alloc o).alloc (.cells #[.string Ro.text, .int .i64 Ro.br, .int .i64 Ro.bn, .int .i64 (Ro.ch 0), .int .i64 (Ro.ch 1), .int .i64 (Ro.ch 2), .int .i64 (Ro.ch 3), .int .i64 (Ro.ch 4), .int .i64 (Ro.ch 5), .int .i64 (Ra.kn 0), .int .i64 (Ra.kn 1), .int .i64 (Ra.kn 2), .int .i64 (Ra.kn 3), .int .i64 (Ra.kn 4), .int .i64 (Ra.kn 5)] 120)) rb s mb (w3.heap.size + 1) cm E Rm 0 none w2.heap.size Ra (w2.heap.size + 1) Ro) := fun w2 w3 o hb S3 => by
  have := Rv.chosen h hb S3 o Rm
  rw [hm] at this ⊢
  exact this
 have HM := yab hm
 unfold yag at C1 C2 C3
 have KI : Hid (∀ V b eb eo, Sg w V rb s mb b (nxG s cm) E (ybj s (cm s + 1) Ra Ro Rm) eb eo → Calls Tryz.prog 56 #[.pointer (some ⟨rb, 0, none⟩), .string p, .agg #[.string (yah s (cm s + 1) Ra Ro Rm).text, .int .i64 (yah s (cm s + 1) Ra Ro Rm).br, .int .i64 (yah s (cm s + 1) Ra Ro Rm).bn, .int .i64 ((yah s (cm s + 1) Ra Ro Rm).ch 0), .int .i64 ((yah s (cm s + 1) Ra Ro Rm).ch 1), .int .i64 ((yah s (cm s + 1) Ra Ro Rm).ch 2), .int .i64 ((yah s (cm s + 1) Ra Ro Rm).ch 3), .int .i64 ((yah s (cm s + 1) Ra Ro Rm).ch 4), .int .i64 ((yah s (cm s + 1) Ra Ro Rm).ch 5), .int .i64 (yad (yah s (cm s + 1) Ra Ro Rm).kn (yad Ro.kn (tf s (cm s + 1))) 0), .int .i64 (yad (yah s (cm s + 1) Ra Ro Rm).kn (yad Ro.kn (tf s (cm s + 1))) 1), .int .i64 (yad (yah s (cm s + 1) Ra Ro Rm).kn (yad Ro.kn (tf s (cm s + 1))) 2), .int .i64 (yad (yah s (cm s + 1) Ra Ro Rm).kn (yad Ro.kn (tf s (cm s + 1))) 3), .int .i64 (yad (yah s (cm s + 1) Ra Ro Rm).kn (yad Ro.kn (tf s (cm s + 1))) 4), .int .i64 (yad (yah s (cm s + 1) Ra Ro Rm).kn (yad Ro.kn (tf s (cm s + 1))) 5)]] V fun e w' => e = .returned (.tuple #[]) ∧ Rg w' rb s (nxG s cm) mb (ybm (nxG s cm) p (ybj s (cm s + 1) Ra Ro Rm) E) ∧ Fr (fun k => k = rb ∨ k = mb) w w') := fun V b eb eo S => by
  have hw : 0 ≤ (ybj s (cm s + 1) Ra Ro Rm).bn ∧ yfk (ybj s (cm s + 1) Ra Ro Rm) := by
   show 0 ≤ (yah s (cm s + 1) Ra Ro Rm).bn ∧ ∃ r : Nat, r < 6 ∧ (yah s (cm s + 1) Ra Ro Rm).br = r
   unfold yah
   split
   ·exact ⟨by show 0 ≤ cm s + 1; omega, s, hs, rfl⟩
   ·exact ⟨om.1, om.2⟩
  exact S.keepAll h (by show 0 ≤ nxG s cm s; rw [hns]; omega) p hp hw.1 hw.2 hl
 unfold ybj at KI
 have hd : decide (1000000000 ≤ cm s) = false := by simp; omega
 have hd2 : decide (0 < Rm.bn) = true := by simp; omega
 clear h h' e1 e2 e3 o1 o2 om hm hns hl
 clear ht
 go_enter Tryz.func45, Tryz.ntmps45
 go_wp2_with (first
  |(go_at_call_of 48 (Value.pointer (some ⟨rb, 0, none⟩)); refine C1.out.mono ?_; rintro e w1 ⟨rfl, hb1⟩; have B1 := yab hb1; clear hb1)
  |(go_at_call 48; refine (C2.out _ B1.out).mono ?_; rintro e w2 ⟨rfl, hb2⟩; have B2 := yab hb2; have S2 := yab (R2.made w2 Ra Ro); clear hb2)
  |(go_at_call 65; refine (C3.out _).mono ?_; rintro e w3 ⟨rfl, hb3⟩; have S3 := yab (S2.out.more hb3); have S4 := yab (S3.out.more ((Below.refl _ _).alloc (Nat.le_refl _) (.cells #[.string Rt.text, .int .i64 Rt.br, .int .i64 Rt.bn, .int .i64 (Rt.ch 0), .int .i64 (Rt.ch 1), .int .i64 (Rt.ch 2), .int .i64 (Rt.ch 3), .int .i64 (Rt.ch 4), .int .i64 (Rt.ch 5), .int .i64 (Rt.kn 0), .int .i64 (Rt.kn 1), .int .i64 (Rt.kn 2), .int .i64 (Rt.kn 3), .int .i64 (Rt.kn 4), .int .i64 (Rt.kn 5)] 120))); have S5 := yab (S4.out.more ((Below.refl _ _).alloc (Nat.le_refl _) (.cells #[.string Ra.text, .int .i64 Ra.br, .int .i64 Ra.bn, .int .i64 (Ra.ch 0), .int .i64 (Ra.ch 1), .int .i64 (Ra.ch 2), .int .i64 (Ra.ch 3), .int .i64 (Ra.ch 4), .int .i64 (Ra.ch 5), .int .i64 (Ra.kn 0), .int .i64 (Ra.kn 1), .int .i64 (Ra.kn 2), .int .i64 (Ra.kn 3), .int .i64 (Ra.kn 4), .int .i64 (Ra.kn 5)] 120))); obtain ⟨k0, k1, k2, k3, k4, k5, k6, k7, k8, k9, k10, k11, k12, k13, k14⟩ := S4.out.ra.cells; obtain ⟨j0, j1, j2, j3, j4, j5, j6, j7, j8, j9, j10, j11, j12, j13, j14⟩ := S5.out.rb.cells; clear hb3)
  |(go_at_call 49; refine (RV.out w2 w3 _ B2.out S3.out).full.mono ?_; (try clear k0 k1 k2 k3 k4 k5 k6 k7 k8 k9 k10 k11 k12 k13 k14); (try clear j0 j1 j2 j3 j4 j5 j6 j7 j8 j9 j10 j11 j12 j13 j14); rintro e w8 ⟨rfl, hq⟩; have R8 := yab hq; obtain ⟨k0, k1, k2, k3, k4, k5, k6, k7, k8, k9, k10, k11, k12, k13, k14⟩ := R8.out.sg.rc.cells; obtain ⟨j0, j1, j2, j3, j4, j5, j6, j7, j8, j9, j10, j11, j12, j13, j14⟩ := R8.out.r1.cells; clear hq)
  |(go_at_call 60; refine (R8.out.there Rm).mono ?_; (try clear k0 k1 k2 k3 k4 k5 k6 k7 k8 k9 k10 k11 k12 k13 k14); (try clear j0 j1 j2 j3 j4 j5 j6 j7 j8 j9 j10 j11 j12 j13 j14); rintro e w9 ⟨rfl, hq⟩; have R9 := yab hq; obtain ⟨j0, j1, j2, j3, j4, j5, j6, j7, j8, j9, j10, j11, j12, j13, j14⟩ := R9.out.r1.cells; clear hq)
  |(go_at_call 50; refine (R9.out.room HR.out Ra).mono ?_; (try clear k0 k1 k2 k3 k4 k5 k6 k7 k8 k9 k10 k11 k12 k13 k14); (try clear j0 j1 j2 j3 j4 j5 j6 j7 j8 j9 j10 j11 j12 j13 j14); rintro e w10 ⟨rfl, hq⟩; have R10 := yab hq; clear hq)
  |(go_at_call 51; refine (R10.out.next hc0 hc).mono ?_; (try clear k0 k1 k2 k3 k4 k5 k6 k7 k8 k9 k10 k11 k12 k13 k14); (try clear j0 j1 j2 j3 j4 j5 j6 j7 j8 j9 j10 j11 j12 j13 j14); rintro e w11 ⟨rfl, hq⟩; have R11 := yab (hq.alloc_ev (.cells #[.int .i64 s, .int .i64 (cm s + 1)] 114)); obtain ⟨k0, k1, k2, k3, k4, k5, k6, k7, k8, k9, k10, k11, k12, k13, k14⟩ := R11.out.r1.cells; obtain ⟨j0, j1, j2, j3, j4, j5, j6, j7, j8, j9, j10, j11, j12, j13, j14⟩ := R11.out.r2.cells; obtain ⟨v0, v1⟩ := R11.out.evCells; clear hq)
  |(go_at_call 66; refine (R11.out.settle (cm s + 1)).mono ?_; (try clear k0 k1 k2 k3 k4 k5 k6 k7 k8 k9 k10 k11 k12 k13 k14); (try clear j0 j1 j2 j3 j4 j5 j6 j7 j8 j9 j10 j11 j12 j13 j14); (try clear v0 v1); rintro e w12 ⟨rfl, hq⟩; have R12 := yab hq; clear hq))
 generalize hR5 : yah s (cm s + 1) Ra Ro Rm = R5 at *
 go_cut [] (fun wx => Hid (Rv w wx rb s mb (w3.heap.size + 1) (nxG s cm) E ⟨R5.text, R5.br, R5.bn, R5.ch, yad R5.kn (yad Ro.kn (tf s (cm s + 1)))⟩ w11.heap.size (some (.cells #[.int .i64 s, .int .i64 (cm s + 1)] 114)) w2.heap.size Ra (w2.heap.size + 1) Ro))
 case first =>
  have T0 := yab R12.out.drew
  obtain ⟨v0, v1⟩ := R12.out.evCells
  obtain ⟨j0, j1, j2, j3, j4, j5, j6, j7, j8, j9, j10, j11, j12, j13, j14⟩ := R12.out.r2.cells
  go_region_law (first
   |(go_simp; go_at_call 55; with_reducible refine (T0.out.alone (cm s + 1)).mono ?_; (try clear j0 j1 j2 j3 j4 j5 j6 j7 j8 j9 j10 j11 j12 j13 j14); (try clear v0 v1); rintro e w13 ⟨rfl, hq⟩; have T1 := yab hq; obtain ⟨j0, j1, j2, j3, j4, j5, j6, j7, j8, j9, j10, j11, j12, j13, j14⟩ := T1.out.r2.cells; clear hq; dsimp only)
   |(go_simp; go_at_call 54; refine (T1.out.hear2 Ro.kn (tf s (cm s + 1)) 108).mono ?_; (try clear j0 j1 j2 j3 j4 j5 j6 j7 j8 j9 j10 j11 j12 j13 j14); rintro e w14 ⟨rfl, hq⟩; have T2 := yab hq; clear hq; dsimp only))
  all_goals
   go_wp2_with fail
   go_meet
   exact T2
 case rest =>
  obtain ⟨k0, k1, k2, k3, k4, k5, k6, k7, k8, k9, k10, k11, k12, k13, k14⟩ := hcut.out.sg.rc.cells
  go_wp2_with (go_at_call 56; refine (KI.out _ _ _ _ hcut.out.sg).mono ?_; (try clear k0 k1 k2 k3 k4 k5 k6 k7 k8 k9 k10 k11 k12 k13 k14); rintro e w15 ⟨rfl, hq⟩; have Q15 := yab hq; clear hq)
  go_ret
  exact ⟨rfl, by unfold ybj; rw [hR5]; exact Q15.out⟩
set_option maxRecDepth 100000 in
set_option maxHeartbeats 4000000 in
theorem rresolve_gone_t (rb s : Nat) (cm : Nat → Int) (mb : Nat) (E : yav) (rb' s' : Nat) (cm' : Nat → Int) (mb' : Nat) (E' : yav) (w : World) (h : Rg w rb s cm mb E) (h' : Rg w rb' s' cm' mb' E') (hl : E.length < 999999) (p : ByteArray) (hp : p.size ≤ 1000000000000) (Ra Ro Rt Rm : Rec) (e1 : ybp s cm (ybb p E) = Ra) (e2 : ybp s' cm' (ybb p E') = Ro) (e3 : yaz Ra Ro = (Rt, 3)) (hm : Rm = ⟨Ro.text, Ro.br, Ro.bn, Ro.ch, Ra.kn⟩) (hc : cm s < 1000000000) (ht : ¬ 0 < Rm.bn) :
  Calls Tryz.prog 45 #[.pointer (some ⟨rb, 0, none⟩), .pointer (some ⟨rb', 0, none⟩), .string p, .bool true] w fun e w' => e = .returned (.int .i64 0) ∧ Rg w' rb s (nxG s cm) mb (ybm (nxG s cm) p (ybj s (cm s + 1) Ra Ro Rm) E) ∧ Fr (fun k => k = rb ∨ k = mb) w w' := by
 have C1 := yab (yak rb s cm mb E w h.rep h.own p (by unfold maxLen; omega))
 have C2 : Hid (∀ V, Below w.heap.size w V → Calls Tryz.prog 48 #[.pointer (some ⟨rb', 0, none⟩), .string p] V fun e w' => e = .returned (yag Ro) ∧ Below w.heap.size w w') := fun V hb => by
  have q := h'.below hb
  rw [← e2]
  refine (yak rb' s' cm' mb' E' V q.rep q.own p (by unfold maxLen; omega)).mono ?_
  rintro e w' ⟨rfl, hb'⟩
  exact ⟨rfl, hb.trans (hb'.mono hb.size)⟩
 have o1 := ybg h p
 have o2 := ybg h' p
 rw [e1] at C1 o1
 rw [e2] at o2
 have C3 : Hid (∀ V, Calls Tryz.prog 65 #[yag Ra, yag Ro] V fun e w' => e = .returned (.tuple #[yag Rt, .int .i64 3]) ∧ Below V.heap.size V w') := fun V => by
  have := ycq Ra Ro o1.2 o2.2 V
  rw [e3] at this
  exact this
 have om : 0 ≤ Rm.bn ∧ yfk Rm := by rw [hm]; exact o2
 have hc0 := h.c0
 have hs := h.rep.hs
 have hns := ydn s hs cm hc0
 have HR := yab h
 have RV : Hid (∀ w2 w3 o, Below w.heap.size w w2 → R2 w2 w3 Ra Ro → Rv w ((w3.alloc o).alloc (.cells #[.string Ro.text, .int .i64 Ro.br, .int .i64 Ro.bn, .int .i64 (Ro.ch 0), .int .i64 (Ro.ch 1), .int .i64 (Ro.ch 2), .int .i64 (Ro.ch 3), .int .i64 (Ro.ch 4), .int .i64 (Ro.ch 5), .int .i64 (Ra.kn 0), .int .i64 (Ra.kn 1), .int .i64 (Ra.kn 2), .int .i64 (Ra.kn 3), .int .i64 (Ra.kn 4), .int .i64 (Ra.kn 5)] 120)) rb s mb (w3.heap.size + 1) cm E Rm 0 none w2.heap.size Ra (w2.heap.size + 1) Ro) := fun w2 w3 o hb S3 => by
  have := Rv.chosen h hb S3 o Rm
  rw [hm] at this ⊢
  exact this
 have HM := yab hm
 unfold yag at C1 C2 C3
 have KI : Hid (∀ V b eb eo, Sg w V rb s mb b (nxG s cm) E (ybj s (cm s + 1) Ra Ro Rm) eb eo → Calls Tryz.prog 56 #[.pointer (some ⟨rb, 0, none⟩), .string p, .agg #[.string (yah s (cm s + 1) Ra Ro Rm).text, .int .i64 (yah s (cm s + 1) Ra Ro Rm).br, .int .i64 (yah s (cm s + 1) Ra Ro Rm).bn, .int .i64 ((yah s (cm s + 1) Ra Ro Rm).ch 0), .int .i64 ((yah s (cm s + 1) Ra Ro Rm).ch 1), .int .i64 ((yah s (cm s + 1) Ra Ro Rm).ch 2), .int .i64 ((yah s (cm s + 1) Ra Ro Rm).ch 3), .int .i64 ((yah s (cm s + 1) Ra Ro Rm).ch 4), .int .i64 ((yah s (cm s + 1) Ra Ro Rm).ch 5), .int .i64 (yad (yah s (cm s + 1) Ra Ro Rm).kn (yad Ro.kn (tf s (cm s + 1))) 0), .int .i64 (yad (yah s (cm s + 1) Ra Ro Rm).kn (yad Ro.kn (tf s (cm s + 1))) 1), .int .i64 (yad (yah s (cm s + 1) Ra Ro Rm).kn (yad Ro.kn (tf s (cm s + 1))) 2), .int .i64 (yad (yah s (cm s + 1) Ra Ro Rm).kn (yad Ro.kn (tf s (cm s + 1))) 3), .int .i64 (yad (yah s (cm s + 1) Ra Ro Rm).kn (yad Ro.kn (tf s (cm s + 1))) 4), .int .i64 (yad (yah s (cm s + 1) Ra Ro Rm).kn (yad Ro.kn (tf s (cm s + 1))) 5)]] V fun e w' => e = .returned (.tuple #[]) ∧ Rg w' rb s (nxG s cm) mb (ybm (nxG s cm) p (ybj s (cm s + 1) Ra Ro Rm) E) ∧ Fr (fun k => k = rb ∨ k = mb) w w') := fun V b eb eo S => by
  have hw : 0 ≤ (ybj s (cm s + 1) Ra Ro Rm).bn ∧ yfk (ybj s (cm s + 1) Ra Ro Rm) := by
   show 0 ≤ (yah s (cm s + 1) Ra Ro Rm).bn ∧ ∃ r : Nat, r < 6 ∧ (yah s (cm s + 1) Ra Ro Rm).br = r
   unfold yah
   split
   ·exact ⟨by show 0 ≤ cm s + 1; omega, s, hs, rfl⟩
   ·exact ⟨om.1, om.2⟩
  exact S.keepAll h (by show 0 ≤ nxG s cm s; rw [hns]; omega) p hp hw.1 hw.2 hl
 unfold ybj at KI
 have hd : decide (1000000000 ≤ cm s) = false := by simp; omega
 have hd2 : decide (0 < Rm.bn) = false := by simp; omega
 clear h h' e1 e2 e3 o1 o2 om hm hns hl
 clear ht
 go_enter Tryz.func45, Tryz.ntmps45
 go_wp2_with (first
  |(go_at_call_of 48 (Value.pointer (some ⟨rb, 0, none⟩)); refine C1.out.mono ?_; rintro e w1 ⟨rfl, hb1⟩; have B1 := yab hb1; clear hb1)
  |(go_at_call 48; refine (C2.out _ B1.out).mono ?_; rintro e w2 ⟨rfl, hb2⟩; have B2 := yab hb2; have S2 := yab (R2.made w2 Ra Ro); clear hb2)
  |(go_at_call 65; refine (C3.out _).mono ?_; rintro e w3 ⟨rfl, hb3⟩; have S3 := yab (S2.out.more hb3); have S4 := yab (S3.out.more ((Below.refl _ _).alloc (Nat.le_refl _) (.cells #[.string Rt.text, .int .i64 Rt.br, .int .i64 Rt.bn, .int .i64 (Rt.ch 0), .int .i64 (Rt.ch 1), .int .i64 (Rt.ch 2), .int .i64 (Rt.ch 3), .int .i64 (Rt.ch 4), .int .i64 (Rt.ch 5), .int .i64 (Rt.kn 0), .int .i64 (Rt.kn 1), .int .i64 (Rt.kn 2), .int .i64 (Rt.kn 3), .int .i64 (Rt.kn 4), .int .i64 (Rt.kn 5)] 120))); have S5 := yab (S4.out.more ((Below.refl _ _).alloc (Nat.le_refl _) (.cells #[.string Ra.text, .int .i64 Ra.br, .int .i64 Ra.bn, .int .i64 (Ra.ch 0), .int .i64 (Ra.ch 1), .int .i64 (Ra.ch 2), .int .i64 (Ra.ch 3), .int .i64 (Ra.ch 4), .int .i64 (Ra.ch 5), .int .i64 (Ra.kn 0), .int .i64 (Ra.kn 1), .int .i64 (Ra.kn 2), .int .i64 (Ra.kn 3), .int .i64 (Ra.kn 4), .int .i64 (Ra.kn 5)] 120))); obtain ⟨k0, k1, k2, k3, k4, k5, k6, k7, k8, k9, k10, k11, k12, k13, k14⟩ := S4.out.ra.cells; obtain ⟨j0, j1, j2, j3, j4, j5, j6, j7, j8, j9, j10, j11, j12, j13, j14⟩ := S5.out.rb.cells; clear hb3)
  |(go_at_call 49; refine (RV.out w2 w3 _ B2.out S3.out).full.mono ?_; (try clear k0 k1 k2 k3 k4 k5 k6 k7 k8 k9 k10 k11 k12 k13 k14); (try clear j0 j1 j2 j3 j4 j5 j6 j7 j8 j9 j10 j11 j12 j13 j14); rintro e w8 ⟨rfl, hq⟩; have R8 := yab hq; obtain ⟨k0, k1, k2, k3, k4, k5, k6, k7, k8, k9, k10, k11, k12, k13, k14⟩ := R8.out.sg.rc.cells; obtain ⟨j0, j1, j2, j3, j4, j5, j6, j7, j8, j9, j10, j11, j12, j13, j14⟩ := R8.out.r1.cells; clear hq)
  |(go_at_call 60; refine (R8.out.there Rm).mono ?_; (try clear k0 k1 k2 k3 k4 k5 k6 k7 k8 k9 k10 k11 k12 k13 k14); (try clear j0 j1 j2 j3 j4 j5 j6 j7 j8 j9 j10 j11 j12 j13 j14); rintro e w9 ⟨rfl, hq⟩; have R9 := yab hq; obtain ⟨j0, j1, j2, j3, j4, j5, j6, j7, j8, j9, j10, j11, j12, j13, j14⟩ := R9.out.r1.cells; clear hq)
  |(go_at_call 50; refine (R9.out.room HR.out Ra).mono ?_; (try clear k0 k1 k2 k3 k4 k5 k6 k7 k8 k9 k10 k11 k12 k13 k14); (try clear j0 j1 j2 j3 j4 j5 j6 j7 j8 j9 j10 j11 j12 j13 j14); rintro e w10 ⟨rfl, hq⟩; have R10 := yab hq; clear hq)
  |(go_at_call 51; refine (R9.out.next hc0 hc).mono ?_; (try clear k0 k1 k2 k3 k4 k5 k6 k7 k8 k9 k10 k11 k12 k13 k14); (try clear j0 j1 j2 j3 j4 j5 j6 j7 j8 j9 j10 j11 j12 j13 j14); rintro e w11 ⟨rfl, hq⟩; have R11 := yab (hq.alloc_ev (.cells #[.int .i64 s, .int .i64 (cm s + 1)] 114)); obtain ⟨k0, k1, k2, k3, k4, k5, k6, k7, k8, k9, k10, k11, k12, k13, k14⟩ := R11.out.r1.cells; obtain ⟨j0, j1, j2, j3, j4, j5, j6, j7, j8, j9, j10, j11, j12, j13, j14⟩ := R11.out.r2.cells; obtain ⟨v0, v1⟩ := R11.out.evCells; clear hq)
  |(go_at_call 66; refine (R11.out.settle (cm s + 1)).mono ?_; (try clear k0 k1 k2 k3 k4 k5 k6 k7 k8 k9 k10 k11 k12 k13 k14); (try clear j0 j1 j2 j3 j4 j5 j6 j7 j8 j9 j10 j11 j12 j13 j14); (try clear v0 v1); rintro e w12 ⟨rfl, hq⟩; have R12 := yab hq; clear hq))
 generalize hR5 : yah s (cm s + 1) Ra Ro Rm = R5 at *
 go_cut [] (fun wx => Hid (Rv w wx rb s mb (w3.heap.size + 1) (nxG s cm) E ⟨R5.text, R5.br, R5.bn, R5.ch, yad R5.kn (yad Ro.kn (tf s (cm s + 1)))⟩ w11.heap.size (some (.cells #[.int .i64 s, .int .i64 (cm s + 1)] 114)) w2.heap.size Ra (w2.heap.size + 1) Ro))
 case first =>
  have T0 := yab R12.out.drew
  obtain ⟨v0, v1⟩ := R12.out.evCells
  obtain ⟨j0, j1, j2, j3, j4, j5, j6, j7, j8, j9, j10, j11, j12, j13, j14⟩ := R12.out.r2.cells
  go_region_law (first
   |(go_simp; go_at_call 55; with_reducible refine (T0.out.alone (cm s + 1)).mono ?_; (try clear j0 j1 j2 j3 j4 j5 j6 j7 j8 j9 j10 j11 j12 j13 j14); (try clear v0 v1); rintro e w13 ⟨rfl, hq⟩; have T1 := yab hq; obtain ⟨j0, j1, j2, j3, j4, j5, j6, j7, j8, j9, j10, j11, j12, j13, j14⟩ := T1.out.r2.cells; clear hq; dsimp only)
   |(go_simp; go_at_call 54; refine (T1.out.hear2 Ro.kn (tf s (cm s + 1)) 108).mono ?_; (try clear j0 j1 j2 j3 j4 j5 j6 j7 j8 j9 j10 j11 j12 j13 j14); rintro e w14 ⟨rfl, hq⟩; have T2 := yab hq; clear hq; dsimp only))
  all_goals
   go_wp2_with fail
   go_meet
   exact T2
 case rest =>
  obtain ⟨k0, k1, k2, k3, k4, k5, k6, k7, k8, k9, k10, k11, k12, k13, k14⟩ := hcut.out.sg.rc.cells
  go_wp2_with (go_at_call 56; refine (KI.out _ _ _ _ hcut.out.sg).mono ?_; (try clear k0 k1 k2 k3 k4 k5 k6 k7 k8 k9 k10 k11 k12 k13 k14); rintro e w15 ⟨rfl, hq⟩; have Q15 := yab hq; clear hq)
  go_ret
  exact ⟨rfl, by unfold ybj; rw [hR5]; exact Q15.out⟩
set_option maxRecDepth 100000 in
set_option maxHeartbeats 4000000 in
theorem rresolve_full_t (rb s : Nat) (cm : Nat → Int) (mb : Nat) (E : yav) (rb' s' : Nat) (cm' : Nat → Int) (mb' : Nat) (E' : yav) (w : World) (h : Rg w rb s cm mb E) (h' : Rg w rb' s' cm' mb' E') (hl : E.length < 999999) (p : ByteArray) (hp : p.size ≤ 1000000000000) (Ra Ro Rt Rm : Rec) (e1 : ybp s cm (ybb p E) = Ra) (e2 : ybp s' cm' (ybb p E') = Ro) (e3 : yaz Ra Ro = (Rt, 3)) (hm : Rm = ⟨Ro.text, Ro.br, Ro.bn, Ro.ch, Ra.kn⟩) (hf : 1000000000 ≤ cm s) :
  Calls Tryz.prog 45 #[.pointer (some ⟨rb, 0, none⟩), .pointer (some ⟨rb', 0, none⟩), .string p, .bool true] w fun e w' => e = .returned (.int .i64 5) ∧ Rg w' rb s cm mb E ∧ Fr (fun k => k = rb ∨ k = mb) w w' := by
 have C1 := yab (yak rb s cm mb E w h.rep h.own p (by unfold maxLen; omega))
 have C2 : Hid (∀ V, Below w.heap.size w V → Calls Tryz.prog 48 #[.pointer (some ⟨rb', 0, none⟩), .string p] V fun e w' => e = .returned (yag Ro) ∧ Below w.heap.size w w') := fun V hb => by
  have q := h'.below hb
  rw [← e2]
  refine (yak rb' s' cm' mb' E' V q.rep q.own p (by unfold maxLen; omega)).mono ?_
  rintro e w' ⟨rfl, hb'⟩
  exact ⟨rfl, hb.trans (hb'.mono hb.size)⟩
 have o1 := ybg h p
 have o2 := ybg h' p
 rw [e1] at C1 o1
 rw [e2] at o2
 have C3 : Hid (∀ V, Calls Tryz.prog 65 #[yag Ra, yag Ro] V fun e w' => e = .returned (.tuple #[yag Rt, .int .i64 3]) ∧ Below V.heap.size V w') := fun V => by
  have := ycq Ra Ro o1.2 o2.2 V
  rw [e3] at this
  exact this
 have om : 0 ≤ Rm.bn ∧ yfk Rm := by rw [hm]; exact o2
 have hc0 := h.c0
 have hs := h.rep.hs
 have hns := ydn s hs cm hc0
 have HR := yab h
 have RV : Hid (∀ w2 w3 o, Below w.heap.size w w2 → R2 w2 w3 Ra Ro → Rv w ((w3.alloc o).alloc (.cells #[.string Ro.text, .int .i64 Ro.br, .int .i64 Ro.bn, .int .i64 (Ro.ch 0), .int .i64 (Ro.ch 1), .int .i64 (Ro.ch 2), .int .i64 (Ro.ch 3), .int .i64 (Ro.ch 4), .int .i64 (Ro.ch 5), .int .i64 (Ra.kn 0), .int .i64 (Ra.kn 1), .int .i64 (Ra.kn 2), .int .i64 (Ra.kn 3), .int .i64 (Ra.kn 4), .int .i64 (Ra.kn 5)] 120)) rb s mb (w3.heap.size + 1) cm E Rm 0 none w2.heap.size Ra (w2.heap.size + 1) Ro) := fun w2 w3 o hb S3 => by
  have := Rv.chosen h hb S3 o Rm
  rw [hm] at this ⊢
  exact this
 have HM := yab hm
 unfold yag at C1 C2 C3
 have hd : decide (1000000000 ≤ cm s) = true := by simp; omega
 clear h h' e1 e2 e3 o1 o2 hm hf
 go_enter Tryz.func45, Tryz.ntmps45
 go_wp2_with (first
  |(go_at_call_of 48 (Value.pointer (some ⟨rb, 0, none⟩)); refine C1.out.mono ?_; rintro e w1 ⟨rfl, hb1⟩; have B1 := yab hb1; clear hb1)
  |(go_at_call 48; refine (C2.out _ B1.out).mono ?_; rintro e w2 ⟨rfl, hb2⟩; have B2 := yab hb2; have S2 := yab (R2.made w2 Ra Ro); clear hb2)
  |(go_at_call 65; refine (C3.out _).mono ?_; rintro e w3 ⟨rfl, hb3⟩; have S3 := yab (S2.out.more hb3); have S4 := yab (S3.out.more ((Below.refl _ _).alloc (Nat.le_refl _) (.cells #[.string Rt.text, .int .i64 Rt.br, .int .i64 Rt.bn, .int .i64 (Rt.ch 0), .int .i64 (Rt.ch 1), .int .i64 (Rt.ch 2), .int .i64 (Rt.ch 3), .int .i64 (Rt.ch 4), .int .i64 (Rt.ch 5), .int .i64 (Rt.kn 0), .int .i64 (Rt.kn 1), .int .i64 (Rt.kn 2), .int .i64 (Rt.kn 3), .int .i64 (Rt.kn 4), .int .i64 (Rt.kn 5)] 120))); have S5 := yab (S4.out.more ((Below.refl _ _).alloc (Nat.le_refl _) (.cells #[.string Ra.text, .int .i64 Ra.br, .int .i64 Ra.bn, .int .i64 (Ra.ch 0), .int .i64 (Ra.ch 1), .int .i64 (Ra.ch 2), .int .i64 (Ra.ch 3), .int .i64 (Ra.ch 4), .int .i64 (Ra.ch 5), .int .i64 (Ra.kn 0), .int .i64 (Ra.kn 1), .int .i64 (Ra.kn 2), .int .i64 (Ra.kn 3), .int .i64 (Ra.kn 4), .int .i64 (Ra.kn 5)] 120))); obtain ⟨k0, k1, k2, k3, k4, k5, k6, k7, k8, k9, k10, k11, k12, k13, k14⟩ := S4.out.ra.cells; obtain ⟨j0, j1, j2, j3, j4, j5, j6, j7, j8, j9, j10, j11, j12, j13, j14⟩ := S5.out.rb.cells; clear hb3)
  |(go_at_call 49; refine (RV.out w2 w3 _ B2.out S3.out).full.mono ?_; (try clear k0 k1 k2 k3 k4 k5 k6 k7 k8 k9 k10 k11 k12 k13 k14); (try clear j0 j1 j2 j3 j4 j5 j6 j7 j8 j9 j10 j11 j12 j13 j14); rintro e w8 ⟨rfl, hq⟩; have R8 := yab hq; obtain ⟨k0, k1, k2, k3, k4, k5, k6, k7, k8, k9, k10, k11, k12, k13, k14⟩ := R8.out.sg.rc.cells; obtain ⟨j0, j1, j2, j3, j4, j5, j6, j7, j8, j9, j10, j11, j12, j13, j14⟩ := R8.out.r1.cells; clear hq)
  |(go_at_call 60; refine (R8.out.there Rm).mono ?_; (try clear k0 k1 k2 k3 k4 k5 k6 k7 k8 k9 k10 k11 k12 k13 k14); (try clear j0 j1 j2 j3 j4 j5 j6 j7 j8 j9 j10 j11 j12 j13 j14); rintro e w9 ⟨rfl, hq⟩; have R9 := yab hq; obtain ⟨j0, j1, j2, j3, j4, j5, j6, j7, j8, j9, j10, j11, j12, j13, j14⟩ := R9.out.r1.cells; clear hq)
  |(go_at_call 50; refine (R9.out.room HR.out Ra).mono ?_; (try clear k0 k1 k2 k3 k4 k5 k6 k7 k8 k9 k10 k11 k12 k13 k14); (try clear j0 j1 j2 j3 j4 j5 j6 j7 j8 j9 j10 j11 j12 j13 j14); rintro e w10 ⟨rfl, hq⟩; have R10 := yab hq; clear hq)
  |fail)
 go_ret
 exact ⟨rfl, R8.out.rg HR.out hc0, R8.out.sg.fr⟩
set_option maxRecDepth 100000 in
set_option maxHeartbeats 4000000 in
theorem rresolve_room_t (rb s : Nat) (cm : Nat → Int) (mb : Nat) (E : yav) (rb' s' : Nat) (cm' : Nat → Int) (mb' : Nat) (E' : yav) (w : World) (h : Rg w rb s cm mb E) (h' : Rg w rb' s' cm' mb' E') (hl : E.length < 999999) (p : ByteArray) (hp : p.size ≤ 1000000000000) (Ra Ro Rt Rm : Rec) (e1 : ybp s cm (ybb p E) = Ra) (e2 : ybp s' cm' (ybb p E') = Ro) (e3 : yaz Ra Ro = (Rt, 3)) (hm : Rm = ⟨Ro.text, Ro.br, Ro.bn, Ro.ch, Ra.kn⟩) (hc : cm s < 1000000000) (ht : 0 < Rm.bn) (hr : noRoom Ra E = true) :
  Calls Tryz.prog 45 #[.pointer (some ⟨rb, 0, none⟩), .pointer (some ⟨rb', 0, none⟩), .string p, .bool true] w fun e w' => e = .returned (.int .i64 5) ∧ Rg w' rb s cm mb E ∧ Fr (fun k => k = rb ∨ k = mb) w w' := by
 have C1 := yab (yak rb s cm mb E w h.rep h.own p (by unfold maxLen; omega))
 have C2 : Hid (∀ V, Below w.heap.size w V → Calls Tryz.prog 48 #[.pointer (some ⟨rb', 0, none⟩), .string p] V fun e w' => e = .returned (yag Ro) ∧ Below w.heap.size w w') := fun V hb => by
  have q := h'.below hb
  rw [← e2]
  refine (yak rb' s' cm' mb' E' V q.rep q.own p (by unfold maxLen; omega)).mono ?_
  rintro e w' ⟨rfl, hb'⟩
  exact ⟨rfl, hb.trans (hb'.mono hb.size)⟩
 have o1 := ybg h p
 have o2 := ybg h' p
 rw [e1] at C1 o1
 rw [e2] at o2
 have C3 : Hid (∀ V, Calls Tryz.prog 65 #[yag Ra, yag Ro] V fun e w' => e = .returned (.tuple #[yag Rt, .int .i64 3]) ∧ Below V.heap.size V w') := fun V => by
  have := ycq Ra Ro o1.2 o2.2 V
  rw [e3] at this
  exact this
 have om : 0 ≤ Rm.bn ∧ yfk Rm := by rw [hm]; exact o2
 have hc0 := h.c0
 have hs := h.rep.hs
 have hns := ydn s hs cm hc0
 have HR := yab h
 have RV : Hid (∀ w2 w3 o, Below w.heap.size w w2 → R2 w2 w3 Ra Ro → Rv w ((w3.alloc o).alloc (.cells #[.string Ro.text, .int .i64 Ro.br, .int .i64 Ro.bn, .int .i64 (Ro.ch 0), .int .i64 (Ro.ch 1), .int .i64 (Ro.ch 2), .int .i64 (Ro.ch 3), .int .i64 (Ro.ch 4), .int .i64 (Ro.ch 5), .int .i64 (Ra.kn 0), .int .i64 (Ra.kn 1), .int .i64 (Ra.kn 2), .int .i64 (Ra.kn 3), .int .i64 (Ra.kn 4), .int .i64 (Ra.kn 5)] 120)) rb s mb (w3.heap.size + 1) cm E Rm 0 none w2.heap.size Ra (w2.heap.size + 1) Ro) := fun w2 w3 o hb S3 => by
  have := Rv.chosen h hb S3 o Rm
  rw [hm] at this ⊢
  exact this
 have HM := yab hm
 unfold yag at C1 C2 C3
 have hd : decide (1000000000 ≤ cm s) = false := by simp; omega
 have hd2 : decide (0 < Rm.bn) = true := by simp; omega
 clear h h' e1 e2 e3 o1 o2 om hm hns hl
 clear hc ht
 go_enter Tryz.func45, Tryz.ntmps45
 go_wp2_with (first
  |(go_at_call_of 48 (Value.pointer (some ⟨rb, 0, none⟩)); refine C1.out.mono ?_; rintro e w1 ⟨rfl, hb1⟩; have B1 := yab hb1; clear hb1)
  |(go_at_call 48; refine (C2.out _ B1.out).mono ?_; rintro e w2 ⟨rfl, hb2⟩; have B2 := yab hb2; have S2 := yab (R2.made w2 Ra Ro); clear hb2)
  |(go_at_call 65; refine (C3.out _).mono ?_; rintro e w3 ⟨rfl, hb3⟩; have S3 := yab (S2.out.more hb3); have S4 := yab (S3.out.more ((Below.refl _ _).alloc (Nat.le_refl _) (.cells #[.string Rt.text, .int .i64 Rt.br, .int .i64 Rt.bn, .int .i64 (Rt.ch 0), .int .i64 (Rt.ch 1), .int .i64 (Rt.ch 2), .int .i64 (Rt.ch 3), .int .i64 (Rt.ch 4), .int .i64 (Rt.ch 5), .int .i64 (Rt.kn 0), .int .i64 (Rt.kn 1), .int .i64 (Rt.kn 2), .int .i64 (Rt.kn 3), .int .i64 (Rt.kn 4), .int .i64 (Rt.kn 5)] 120))); have S5 := yab (S4.out.more ((Below.refl _ _).alloc (Nat.le_refl _) (.cells #[.string Ra.text, .int .i64 Ra.br, .int .i64 Ra.bn, .int .i64 (Ra.ch 0), .int .i64 (Ra.ch 1), .int .i64 (Ra.ch 2), .int .i64 (Ra.ch 3), .int .i64 (Ra.ch 4), .int .i64 (Ra.ch 5), .int .i64 (Ra.kn 0), .int .i64 (Ra.kn 1), .int .i64 (Ra.kn 2), .int .i64 (Ra.kn 3), .int .i64 (Ra.kn 4), .int .i64 (Ra.kn 5)] 120))); obtain ⟨k0, k1, k2, k3, k4, k5, k6, k7, k8, k9, k10, k11, k12, k13, k14⟩ := S4.out.ra.cells; obtain ⟨j0, j1, j2, j3, j4, j5, j6, j7, j8, j9, j10, j11, j12, j13, j14⟩ := S5.out.rb.cells; clear hb3)
  |(go_at_call 49; refine (RV.out w2 w3 _ B2.out S3.out).full.mono ?_; (try clear k0 k1 k2 k3 k4 k5 k6 k7 k8 k9 k10 k11 k12 k13 k14); (try clear j0 j1 j2 j3 j4 j5 j6 j7 j8 j9 j10 j11 j12 j13 j14); rintro e w8 ⟨rfl, hq⟩; have R8 := yab hq; obtain ⟨k0, k1, k2, k3, k4, k5, k6, k7, k8, k9, k10, k11, k12, k13, k14⟩ := R8.out.sg.rc.cells; obtain ⟨j0, j1, j2, j3, j4, j5, j6, j7, j8, j9, j10, j11, j12, j13, j14⟩ := R8.out.r1.cells; clear hq)
  |(go_at_call 60; refine (R8.out.there Rm).mono ?_; (try clear k0 k1 k2 k3 k4 k5 k6 k7 k8 k9 k10 k11 k12 k13 k14); (try clear j0 j1 j2 j3 j4 j5 j6 j7 j8 j9 j10 j11 j12 j13 j14); rintro e w9 ⟨rfl, hq⟩; have R9 := yab hq; obtain ⟨j0, j1, j2, j3, j4, j5, j6, j7, j8, j9, j10, j11, j12, j13, j14⟩ := R9.out.r1.cells; clear hq)
  |(go_at_call 50; refine (R9.out.room HR.out Ra).mono ?_; (try clear k0 k1 k2 k3 k4 k5 k6 k7 k8 k9 k10 k11 k12 k13 k14); (try clear j0 j1 j2 j3 j4 j5 j6 j7 j8 j9 j10 j11 j12 j13 j14); rintro e w10 ⟨rfl, hq⟩; have R10 := yab hq; clear hq)
  |fail)
 go_ret
 exact ⟨rfl, R10.out.rg HR.out hc0, R10.out.sg.fr⟩
set_option maxRecDepth 100000 in
set_option maxHeartbeats 4000000 in
theorem rresolve_there_f (rb s : Nat) (cm : Nat → Int) (mb : Nat) (E : yav) (rb' s' : Nat) (cm' : Nat → Int) (mb' : Nat) (E' : yav) (w : World) (h : Rg w rb s cm mb E) (h' : Rg w rb' s' cm' mb' E') (hl : E.length < 999999) (p : ByteArray) (hp : p.size ≤ 1000000000000) (Ra Ro Rt Rm : Rec) (e1 : ybp s cm (ybb p E) = Ra) (e2 : ybp s' cm' (ybb p E') = Ro) (e3 : yaz Ra Ro = (Rt, 3)) (hm : Rm = Ra) (hc : cm s < 1000000000) (ht : 0 < Rm.bn) (hr : noRoom Ra E = false) :
  Calls Tryz.prog 45 #[.pointer (some ⟨rb, 0, none⟩), .pointer (some ⟨rb', 0, none⟩), .string p, .bool false] w fun e w' => e = .returned (.int .i64 0) ∧ Rg w' rb s (nxG s cm) mb (ybm (nxG s cm) p (ybj s (cm s + 1) Ra Ro Rm) E) ∧ Fr (fun k => k = rb ∨ k = mb) w w' := by
 have C1 := yab (yak rb s cm mb E w h.rep h.own p (by unfold maxLen; omega))
 have C2 : Hid (∀ V, Below w.heap.size w V → Calls Tryz.prog 48 #[.pointer (some ⟨rb', 0, none⟩), .string p] V fun e w' => e = .returned (yag Ro) ∧ Below w.heap.size w w') := fun V hb => by
  have q := h'.below hb
  rw [← e2]
  refine (yak rb' s' cm' mb' E' V q.rep q.own p (by unfold maxLen; omega)).mono ?_
  rintro e w' ⟨rfl, hb'⟩
  exact ⟨rfl, hb.trans (hb'.mono hb.size)⟩
 have o1 := ybg h p
 have o2 := ybg h' p
 rw [e1] at C1 o1
 rw [e2] at o2
 have C3 : Hid (∀ V, Calls Tryz.prog 65 #[yag Ra, yag Ro] V fun e w' => e = .returned (.tuple #[yag Rt, .int .i64 3]) ∧ Below V.heap.size V w') := fun V => by
  have := ycq Ra Ro o1.2 o2.2 V
  rw [e3] at this
  exact this
 have om : 0 ≤ Rm.bn ∧ yfk Rm := by rw [hm]; exact o1
 have hc0 := h.c0
 have hs := h.rep.hs
 have hns := ydn s hs cm hc0
 have HR := yab h
 have RV : Hid (∀ w2 w3 o, Below w.heap.size w w2 → R2 w2 w3 Ra Ro → Rv w ((w3.alloc o).alloc (.cells #[.string Ra.text, .int .i64 Ra.br, .int .i64 Ra.bn, .int .i64 (Ra.ch 0), .int .i64 (Ra.ch 1), .int .i64 (Ra.ch 2), .int .i64 (Ra.ch 3), .int .i64 (Ra.ch 4), .int .i64 (Ra.ch 5), .int .i64 (Ra.kn 0), .int .i64 (Ra.kn 1), .int .i64 (Ra.kn 2), .int .i64 (Ra.kn 3), .int .i64 (Ra.kn 4), .int .i64 (Ra.kn 5)] 120)) rb s mb (w3.heap.size + 1) cm E Rm 0 none w2.heap.size Ra (w2.heap.size + 1) Ro) := fun w2 w3 o hb S3 => by
  have := Rv.chosen h hb S3 o Rm
  rw [hm] at this ⊢
  exact this
 have HM := yab hm
 unfold yag at C1 C2 C3
 have KI : Hid (∀ V b eb eo, Sg w V rb s mb b (nxG s cm) E (ybj s (cm s + 1) Ra Ro Rm) eb eo → Calls Tryz.prog 56 #[.pointer (some ⟨rb, 0, none⟩), .string p, .agg #[.string (yah s (cm s + 1) Ra Ro Rm).text, .int .i64 (yah s (cm s + 1) Ra Ro Rm).br, .int .i64 (yah s (cm s + 1) Ra Ro Rm).bn, .int .i64 ((yah s (cm s + 1) Ra Ro Rm).ch 0), .int .i64 ((yah s (cm s + 1) Ra Ro Rm).ch 1), .int .i64 ((yah s (cm s + 1) Ra Ro Rm).ch 2), .int .i64 ((yah s (cm s + 1) Ra Ro Rm).ch 3), .int .i64 ((yah s (cm s + 1) Ra Ro Rm).ch 4), .int .i64 ((yah s (cm s + 1) Ra Ro Rm).ch 5), .int .i64 (yad (yah s (cm s + 1) Ra Ro Rm).kn (yad Ro.kn (tf s (cm s + 1))) 0), .int .i64 (yad (yah s (cm s + 1) Ra Ro Rm).kn (yad Ro.kn (tf s (cm s + 1))) 1), .int .i64 (yad (yah s (cm s + 1) Ra Ro Rm).kn (yad Ro.kn (tf s (cm s + 1))) 2), .int .i64 (yad (yah s (cm s + 1) Ra Ro Rm).kn (yad Ro.kn (tf s (cm s + 1))) 3), .int .i64 (yad (yah s (cm s + 1) Ra Ro Rm).kn (yad Ro.kn (tf s (cm s + 1))) 4), .int .i64 (yad (yah s (cm s + 1) Ra Ro Rm).kn (yad Ro.kn (tf s (cm s + 1))) 5)]] V fun e w' => e = .returned (.tuple #[]) ∧ Rg w' rb s (nxG s cm) mb (ybm (nxG s cm) p (ybj s (cm s + 1) Ra Ro Rm) E) ∧ Fr (fun k => k = rb ∨ k = mb) w w') := fun V b eb eo S => by
  have hw : 0 ≤ (ybj s (cm s + 1) Ra Ro Rm).bn ∧ yfk (ybj s (cm s + 1) Ra Ro Rm) := by
   show 0 ≤ (yah s (cm s + 1) Ra Ro Rm).bn ∧ ∃ r : Nat, r < 6 ∧ (yah s (cm s + 1) Ra Ro Rm).br = r
   unfold yah
   split
   ·exact ⟨by show 0 ≤ cm s + 1; omega, s, hs, rfl⟩
   ·exact ⟨om.1, om.2⟩
  exact S.keepAll h (by show 0 ≤ nxG s cm s; rw [hns]; omega) p hp hw.1 hw.2 hl
 unfold ybj at KI
 have hd : decide (1000000000 ≤ cm s) = false := by simp; omega
 have hd2 : decide (0 < Rm.bn) = true := by simp; omega
 clear h h' e1 e2 e3 o1 o2 om hm hns hl
 clear ht
 go_enter Tryz.func45, Tryz.ntmps45
 go_wp2_with (first
  |(go_at_call_of 48 (Value.pointer (some ⟨rb, 0, none⟩)); refine C1.out.mono ?_; rintro e w1 ⟨rfl, hb1⟩; have B1 := yab hb1; clear hb1)
  |(go_at_call 48; refine (C2.out _ B1.out).mono ?_; rintro e w2 ⟨rfl, hb2⟩; have B2 := yab hb2; have S2 := yab (R2.made w2 Ra Ro); clear hb2)
  |(go_at_call 65; refine (C3.out _).mono ?_; rintro e w3 ⟨rfl, hb3⟩; have S3 := yab (S2.out.more hb3); have S4 := yab (S3.out.more ((Below.refl _ _).alloc (Nat.le_refl _) (.cells #[.string Rt.text, .int .i64 Rt.br, .int .i64 Rt.bn, .int .i64 (Rt.ch 0), .int .i64 (Rt.ch 1), .int .i64 (Rt.ch 2), .int .i64 (Rt.ch 3), .int .i64 (Rt.ch 4), .int .i64 (Rt.ch 5), .int .i64 (Rt.kn 0), .int .i64 (Rt.kn 1), .int .i64 (Rt.kn 2), .int .i64 (Rt.kn 3), .int .i64 (Rt.kn 4), .int .i64 (Rt.kn 5)] 120))); have S5 := yab (S4.out.more ((Below.refl _ _).alloc (Nat.le_refl _) (.cells #[.string Ra.text, .int .i64 Ra.br, .int .i64 Ra.bn, .int .i64 (Ra.ch 0), .int .i64 (Ra.ch 1), .int .i64 (Ra.ch 2), .int .i64 (Ra.ch 3), .int .i64 (Ra.ch 4), .int .i64 (Ra.ch 5), .int .i64 (Ra.kn 0), .int .i64 (Ra.kn 1), .int .i64 (Ra.kn 2), .int .i64 (Ra.kn 3), .int .i64 (Ra.kn 4), .int .i64 (Ra.kn 5)] 120))); obtain ⟨k0, k1, k2, k3, k4, k5, k6, k7, k8, k9, k10, k11, k12, k13, k14⟩ := S4.out.ra.cells; obtain ⟨j0, j1, j2, j3, j4, j5, j6, j7, j8, j9, j10, j11, j12, j13, j14⟩ := S5.out.rb.cells; clear hb3)
  |(go_at_call 49; refine (RV.out w2 w3 _ B2.out S3.out).full.mono ?_; (try clear k0 k1 k2 k3 k4 k5 k6 k7 k8 k9 k10 k11 k12 k13 k14); (try clear j0 j1 j2 j3 j4 j5 j6 j7 j8 j9 j10 j11 j12 j13 j14); rintro e w8 ⟨rfl, hq⟩; have R8 := yab hq; obtain ⟨k0, k1, k2, k3, k4, k5, k6, k7, k8, k9, k10, k11, k12, k13, k14⟩ := R8.out.sg.rc.cells; obtain ⟨j0, j1, j2, j3, j4, j5, j6, j7, j8, j9, j10, j11, j12, j13, j14⟩ := R8.out.r1.cells; clear hq)
  |(go_at_call 60; refine (R8.out.there Rm).mono ?_; (try clear k0 k1 k2 k3 k4 k5 k6 k7 k8 k9 k10 k11 k12 k13 k14); (try clear j0 j1 j2 j3 j4 j5 j6 j7 j8 j9 j10 j11 j12 j13 j14); rintro e w9 ⟨rfl, hq⟩; have R9 := yab hq; obtain ⟨j0, j1, j2, j3, j4, j5, j6, j7, j8, j9, j10, j11, j12, j13, j14⟩ := R9.out.r1.cells; clear hq)
  |(go_at_call 50; refine (R9.out.room HR.out Ra).mono ?_; (try clear k0 k1 k2 k3 k4 k5 k6 k7 k8 k9 k10 k11 k12 k13 k14); (try clear j0 j1 j2 j3 j4 j5 j6 j7 j8 j9 j10 j11 j12 j13 j14); rintro e w10 ⟨rfl, hq⟩; have R10 := yab hq; clear hq)
  |(go_at_call 51; refine (R10.out.next hc0 hc).mono ?_; (try clear k0 k1 k2 k3 k4 k5 k6 k7 k8 k9 k10 k11 k12 k13 k14); (try clear j0 j1 j2 j3 j4 j5 j6 j7 j8 j9 j10 j11 j12 j13 j14); rintro e w11 ⟨rfl, hq⟩; have R11 := yab (hq.alloc_ev (.cells #[.int .i64 s, .int .i64 (cm s + 1)] 114)); obtain ⟨k0, k1, k2, k3, k4, k5, k6, k7, k8, k9, k10, k11, k12, k13, k14⟩ := R11.out.r1.cells; obtain ⟨j0, j1, j2, j3, j4, j5, j6, j7, j8, j9, j10, j11, j12, j13, j14⟩ := R11.out.r2.cells; obtain ⟨v0, v1⟩ := R11.out.evCells; clear hq)
  |(go_at_call 66; refine (R11.out.settle (cm s + 1)).mono ?_; (try clear k0 k1 k2 k3 k4 k5 k6 k7 k8 k9 k10 k11 k12 k13 k14); (try clear j0 j1 j2 j3 j4 j5 j6 j7 j8 j9 j10 j11 j12 j13 j14); (try clear v0 v1); rintro e w12 ⟨rfl, hq⟩; have R12 := yab hq; clear hq))
 generalize hR5 : yah s (cm s + 1) Ra Ro Rm = R5 at *
 go_cut [] (fun wx => Hid (Rv w wx rb s mb (w3.heap.size + 1) (nxG s cm) E ⟨R5.text, R5.br, R5.bn, R5.ch, yad R5.kn (yad Ro.kn (tf s (cm s + 1)))⟩ w11.heap.size (some (.cells #[.int .i64 s, .int .i64 (cm s + 1)] 114)) w2.heap.size Ra (w2.heap.size + 1) Ro))
 case first =>
  have T0 := yab R12.out.drew
  obtain ⟨v0, v1⟩ := R12.out.evCells
  obtain ⟨j0, j1, j2, j3, j4, j5, j6, j7, j8, j9, j10, j11, j12, j13, j14⟩ := R12.out.r2.cells
  go_region_law (first
   |(go_simp; go_at_call 55; with_reducible refine (T0.out.alone (cm s + 1)).mono ?_; (try clear j0 j1 j2 j3 j4 j5 j6 j7 j8 j9 j10 j11 j12 j13 j14); (try clear v0 v1); rintro e w13 ⟨rfl, hq⟩; have T1 := yab hq; obtain ⟨j0, j1, j2, j3, j4, j5, j6, j7, j8, j9, j10, j11, j12, j13, j14⟩ := T1.out.r2.cells; clear hq; dsimp only)
   |(go_simp; go_at_call 54; refine (T1.out.hear2 Ro.kn (tf s (cm s + 1)) 108).mono ?_; (try clear j0 j1 j2 j3 j4 j5 j6 j7 j8 j9 j10 j11 j12 j13 j14); rintro e w14 ⟨rfl, hq⟩; have T2 := yab hq; clear hq; dsimp only))
  all_goals
   go_wp2_with fail
   go_meet
   exact T2
 case rest =>
  obtain ⟨k0, k1, k2, k3, k4, k5, k6, k7, k8, k9, k10, k11, k12, k13, k14⟩ := hcut.out.sg.rc.cells
  go_wp2_with (go_at_call 56; refine (KI.out _ _ _ _ hcut.out.sg).mono ?_; (try clear k0 k1 k2 k3 k4 k5 k6 k7 k8 k9 k10 k11 k12 k13 k14); rintro e w15 ⟨rfl, hq⟩; have Q15 := yab hq; clear hq)
  go_ret
  exact ⟨rfl, by unfold ybj; rw [hR5]; exact Q15.out⟩
set_option maxRecDepth 100000 in
set_option maxHeartbeats 4000000 in
theorem rresolve_gone_f (rb s : Nat) (cm : Nat → Int) (mb : Nat) (E : yav) (rb' s' : Nat) (cm' : Nat → Int) (mb' : Nat) (E' : yav) (w : World) (h : Rg w rb s cm mb E) (h' : Rg w rb' s' cm' mb' E') (hl : E.length < 999999) (p : ByteArray) (hp : p.size ≤ 1000000000000) (Ra Ro Rt Rm : Rec) (e1 : ybp s cm (ybb p E) = Ra) (e2 : ybp s' cm' (ybb p E') = Ro) (e3 : yaz Ra Ro = (Rt, 3)) (hm : Rm = Ra) (hc : cm s < 1000000000) (ht : ¬ 0 < Rm.bn) :
  Calls Tryz.prog 45 #[.pointer (some ⟨rb, 0, none⟩), .pointer (some ⟨rb', 0, none⟩), .string p, .bool false] w fun e w' => e = .returned (.int .i64 0) ∧ Rg w' rb s (nxG s cm) mb (ybm (nxG s cm) p (ybj s (cm s + 1) Ra Ro Rm) E) ∧ Fr (fun k => k = rb ∨ k = mb) w w' := by
 have C1 := yab (yak rb s cm mb E w h.rep h.own p (by unfold maxLen; omega))
 have C2 : Hid (∀ V, Below w.heap.size w V → Calls Tryz.prog 48 #[.pointer (some ⟨rb', 0, none⟩), .string p] V fun e w' => e = .returned (yag Ro) ∧ Below w.heap.size w w') := fun V hb => by
  have q := h'.below hb
  rw [← e2]
  refine (yak rb' s' cm' mb' E' V q.rep q.own p (by unfold maxLen; omega)).mono ?_
  rintro e w' ⟨rfl, hb'⟩
  exact ⟨rfl, hb.trans (hb'.mono hb.size)⟩
 have o1 := ybg h p
 have o2 := ybg h' p
 rw [e1] at C1 o1
 rw [e2] at o2
 have C3 : Hid (∀ V, Calls Tryz.prog 65 #[yag Ra, yag Ro] V fun e w' => e = .returned (.tuple #[yag Rt, .int .i64 3]) ∧ Below V.heap.size V w') := fun V => by
  have := ycq Ra Ro o1.2 o2.2 V
  rw [e3] at this
  exact this
 have om : 0 ≤ Rm.bn ∧ yfk Rm := by rw [hm]; exact o1
 have hc0 := h.c0
 have hs := h.rep.hs
 have hns := ydn s hs cm hc0
 have HR := yab h
 have RV : Hid (∀ w2 w3 o, Below w.heap.size w w2 → R2 w2 w3 Ra Ro → Rv w ((w3.alloc o).alloc (.cells #[.string Ra.text, .int .i64 Ra.br, .int .i64 Ra.bn, .int .i64 (Ra.ch 0), .int .i64 (Ra.ch 1), .int .i64 (Ra.ch 2), .int .i64 (Ra.ch 3), .int .i64 (Ra.ch 4), .int .i64 (Ra.ch 5), .int .i64 (Ra.kn 0), .int .i64 (Ra.kn 1), .int .i64 (Ra.kn 2), .int .i64 (Ra.kn 3), .int .i64 (Ra.kn 4), .int .i64 (Ra.kn 5)] 120)) rb s mb (w3.heap.size + 1) cm E Rm 0 none w2.heap.size Ra (w2.heap.size + 1) Ro) := fun w2 w3 o hb S3 => by
  have := Rv.chosen h hb S3 o Rm
  rw [hm] at this ⊢
  exact this
 have HM := yab hm
 unfold yag at C1 C2 C3
 have KI : Hid (∀ V b eb eo, Sg w V rb s mb b (nxG s cm) E (ybj s (cm s + 1) Ra Ro Rm) eb eo → Calls Tryz.prog 56 #[.pointer (some ⟨rb, 0, none⟩), .string p, .agg #[.string (yah s (cm s + 1) Ra Ro Rm).text, .int .i64 (yah s (cm s + 1) Ra Ro Rm).br, .int .i64 (yah s (cm s + 1) Ra Ro Rm).bn, .int .i64 ((yah s (cm s + 1) Ra Ro Rm).ch 0), .int .i64 ((yah s (cm s + 1) Ra Ro Rm).ch 1), .int .i64 ((yah s (cm s + 1) Ra Ro Rm).ch 2), .int .i64 ((yah s (cm s + 1) Ra Ro Rm).ch 3), .int .i64 ((yah s (cm s + 1) Ra Ro Rm).ch 4), .int .i64 ((yah s (cm s + 1) Ra Ro Rm).ch 5), .int .i64 (yad (yah s (cm s + 1) Ra Ro Rm).kn (yad Ro.kn (tf s (cm s + 1))) 0), .int .i64 (yad (yah s (cm s + 1) Ra Ro Rm).kn (yad Ro.kn (tf s (cm s + 1))) 1), .int .i64 (yad (yah s (cm s + 1) Ra Ro Rm).kn (yad Ro.kn (tf s (cm s + 1))) 2), .int .i64 (yad (yah s (cm s + 1) Ra Ro Rm).kn (yad Ro.kn (tf s (cm s + 1))) 3), .int .i64 (yad (yah s (cm s + 1) Ra Ro Rm).kn (yad Ro.kn (tf s (cm s + 1))) 4), .int .i64 (yad (yah s (cm s + 1) Ra Ro Rm).kn (yad Ro.kn (tf s (cm s + 1))) 5)]] V fun e w' => e = .returned (.tuple #[]) ∧ Rg w' rb s (nxG s cm) mb (ybm (nxG s cm) p (ybj s (cm s + 1) Ra Ro Rm) E) ∧ Fr (fun k => k = rb ∨ k = mb) w w') := fun V b eb eo S => by
  have hw : 0 ≤ (ybj s (cm s + 1) Ra Ro Rm).bn ∧ yfk (ybj s (cm s + 1) Ra Ro Rm) := by
   show 0 ≤ (yah s (cm s + 1) Ra Ro Rm).bn ∧ ∃ r : Nat, r < 6 ∧ (yah s (cm s + 1) Ra Ro Rm).br = r
   unfold yah
   split
   ·exact ⟨by show 0 ≤ cm s + 1; omega, s, hs, rfl⟩
   ·exact ⟨om.1, om.2⟩
  exact S.keepAll h (by show 0 ≤ nxG s cm s; rw [hns]; omega) p hp hw.1 hw.2 hl
 unfold ybj at KI
 have hd : decide (1000000000 ≤ cm s) = false := by simp; omega
 have hd2 : decide (0 < Rm.bn) = false := by simp; omega
 clear h h' e1 e2 e3 o1 o2 om hm hns hl
 clear ht
 go_enter Tryz.func45, Tryz.ntmps45
 go_wp2_with (first
  |(go_at_call_of 48 (Value.pointer (some ⟨rb, 0, none⟩)); refine C1.out.mono ?_; rintro e w1 ⟨rfl, hb1⟩; have B1 := yab hb1; clear hb1)
  |(go_at_call 48; refine (C2.out _ B1.out).mono ?_; rintro e w2 ⟨rfl, hb2⟩; have B2 := yab hb2; have S2 := yab (R2.made w2 Ra Ro); clear hb2)
  |(go_at_call 65; refine (C3.out _).mono ?_; rintro e w3 ⟨rfl, hb3⟩; have S3 := yab (S2.out.more hb3); have S4 := yab (S3.out.more ((Below.refl _ _).alloc (Nat.le_refl _) (.cells #[.string Rt.text, .int .i64 Rt.br, .int .i64 Rt.bn, .int .i64 (Rt.ch 0), .int .i64 (Rt.ch 1), .int .i64 (Rt.ch 2), .int .i64 (Rt.ch 3), .int .i64 (Rt.ch 4), .int .i64 (Rt.ch 5), .int .i64 (Rt.kn 0), .int .i64 (Rt.kn 1), .int .i64 (Rt.kn 2), .int .i64 (Rt.kn 3), .int .i64 (Rt.kn 4), .int .i64 (Rt.kn 5)] 120))); have S5 := yab (S4.out.more ((Below.refl _ _).alloc (Nat.le_refl _) (.cells #[.string Ra.text, .int .i64 Ra.br, .int .i64 Ra.bn, .int .i64 (Ra.ch 0), .int .i64 (Ra.ch 1), .int .i64 (Ra.ch 2), .int .i64 (Ra.ch 3), .int .i64 (Ra.ch 4), .int .i64 (Ra.ch 5), .int .i64 (Ra.kn 0), .int .i64 (Ra.kn 1), .int .i64 (Ra.kn 2), .int .i64 (Ra.kn 3), .int .i64 (Ra.kn 4), .int .i64 (Ra.kn 5)] 120))); obtain ⟨k0, k1, k2, k3, k4, k5, k6, k7, k8, k9, k10, k11, k12, k13, k14⟩ := S4.out.ra.cells; obtain ⟨j0, j1, j2, j3, j4, j5, j6, j7, j8, j9, j10, j11, j12, j13, j14⟩ := S5.out.rb.cells; clear hb3)
  |(go_at_call 49; refine (RV.out w2 w3 _ B2.out S3.out).full.mono ?_; (try clear k0 k1 k2 k3 k4 k5 k6 k7 k8 k9 k10 k11 k12 k13 k14); (try clear j0 j1 j2 j3 j4 j5 j6 j7 j8 j9 j10 j11 j12 j13 j14); rintro e w8 ⟨rfl, hq⟩; have R8 := yab hq; obtain ⟨k0, k1, k2, k3, k4, k5, k6, k7, k8, k9, k10, k11, k12, k13, k14⟩ := R8.out.sg.rc.cells; obtain ⟨j0, j1, j2, j3, j4, j5, j6, j7, j8, j9, j10, j11, j12, j13, j14⟩ := R8.out.r1.cells; clear hq)
  |(go_at_call 60; refine (R8.out.there Rm).mono ?_; (try clear k0 k1 k2 k3 k4 k5 k6 k7 k8 k9 k10 k11 k12 k13 k14); (try clear j0 j1 j2 j3 j4 j5 j6 j7 j8 j9 j10 j11 j12 j13 j14); rintro e w9 ⟨rfl, hq⟩; have R9 := yab hq; obtain ⟨j0, j1, j2, j3, j4, j5, j6, j7, j8, j9, j10, j11, j12, j13, j14⟩ := R9.out.r1.cells; clear hq)
  |(go_at_call 50; refine (R9.out.room HR.out Ra).mono ?_; (try clear k0 k1 k2 k3 k4 k5 k6 k7 k8 k9 k10 k11 k12 k13 k14); (try clear j0 j1 j2 j3 j4 j5 j6 j7 j8 j9 j10 j11 j12 j13 j14); rintro e w10 ⟨rfl, hq⟩; have R10 := yab hq; clear hq)
  |(go_at_call 51; refine (R9.out.next hc0 hc).mono ?_; (try clear k0 k1 k2 k3 k4 k5 k6 k7 k8 k9 k10 k11 k12 k13 k14); (try clear j0 j1 j2 j3 j4 j5 j6 j7 j8 j9 j10 j11 j12 j13 j14); rintro e w11 ⟨rfl, hq⟩; have R11 := yab (hq.alloc_ev (.cells #[.int .i64 s, .int .i64 (cm s + 1)] 114)); obtain ⟨k0, k1, k2, k3, k4, k5, k6, k7, k8, k9, k10, k11, k12, k13, k14⟩ := R11.out.r1.cells; obtain ⟨j0, j1, j2, j3, j4, j5, j6, j7, j8, j9, j10, j11, j12, j13, j14⟩ := R11.out.r2.cells; obtain ⟨v0, v1⟩ := R11.out.evCells; clear hq)
  |(go_at_call 66; refine (R11.out.settle (cm s + 1)).mono ?_; (try clear k0 k1 k2 k3 k4 k5 k6 k7 k8 k9 k10 k11 k12 k13 k14); (try clear j0 j1 j2 j3 j4 j5 j6 j7 j8 j9 j10 j11 j12 j13 j14); (try clear v0 v1); rintro e w12 ⟨rfl, hq⟩; have R12 := yab hq; clear hq))
 generalize hR5 : yah s (cm s + 1) Ra Ro Rm = R5 at *
 go_cut [] (fun wx => Hid (Rv w wx rb s mb (w3.heap.size + 1) (nxG s cm) E ⟨R5.text, R5.br, R5.bn, R5.ch, yad R5.kn (yad Ro.kn (tf s (cm s + 1)))⟩ w11.heap.size (some (.cells #[.int .i64 s, .int .i64 (cm s + 1)] 114)) w2.heap.size Ra (w2.heap.size + 1) Ro))
 case first =>
  have T0 := yab R12.out.drew
  obtain ⟨v0, v1⟩ := R12.out.evCells
  obtain ⟨j0, j1, j2, j3, j4, j5, j6, j7, j8, j9, j10, j11, j12, j13, j14⟩ := R12.out.r2.cells
  go_region_law (first
   |(go_simp; go_at_call 55; with_reducible refine (T0.out.alone (cm s + 1)).mono ?_; (try clear j0 j1 j2 j3 j4 j5 j6 j7 j8 j9 j10 j11 j12 j13 j14); (try clear v0 v1); rintro e w13 ⟨rfl, hq⟩; have T1 := yab hq; obtain ⟨j0, j1, j2, j3, j4, j5, j6, j7, j8, j9, j10, j11, j12, j13, j14⟩ := T1.out.r2.cells; clear hq; dsimp only)
   |(go_simp; go_at_call 54; refine (T1.out.hear2 Ro.kn (tf s (cm s + 1)) 108).mono ?_; (try clear j0 j1 j2 j3 j4 j5 j6 j7 j8 j9 j10 j11 j12 j13 j14); rintro e w14 ⟨rfl, hq⟩; have T2 := yab hq; clear hq; dsimp only))
  all_goals
   go_wp2_with fail
   go_meet
   exact T2
 case rest =>
  obtain ⟨k0, k1, k2, k3, k4, k5, k6, k7, k8, k9, k10, k11, k12, k13, k14⟩ := hcut.out.sg.rc.cells
  go_wp2_with (go_at_call 56; refine (KI.out _ _ _ _ hcut.out.sg).mono ?_; (try clear k0 k1 k2 k3 k4 k5 k6 k7 k8 k9 k10 k11 k12 k13 k14); rintro e w15 ⟨rfl, hq⟩; have Q15 := yab hq; clear hq)
  go_ret
  exact ⟨rfl, by unfold ybj; rw [hR5]; exact Q15.out⟩
end Go.Proofs.YtaelaldmibgibaaGreat
