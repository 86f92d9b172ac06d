/- A replica of the program's: Resolve that is not refused. -/
import Derived.Test.YtaelaldmibgibaaGreatDoorX40

set_option linter.all false
set_option maxHeartbeats 20000000
set_option maxRecDepth 100000

namespace Go.Proofs.K
open Go.RowKit Go.Maps
theorem rresolve_ok (rb s : Nat) (cm : Nat → Int) (mb : Nat) (E : yau) (rb' s' : Nat) (cm' : Nat → Int) (mb' : Nat) (E' : yau) (w : World) (h : Rg w rb s cm mb E) (h' : Rg w rb' s' cm' mb' E') (hl : E.length < 999999) (p : ByteArray) (hp : p.size ≤ 1000000000000) (th : Bool) (Ra Ro Rt Rm : Rec) (e1 : ybk s cm (ybh p E) = Ra) (e2 : ybk s' cm' (ybh p E') = Ro) (e3 : ydk Ra Ro = (Rt, 3)) (hm : Rm = yay th Ra Ro) (hc : cm s < 1000000000) (hrr : noRoom Ra E = false) :
  Calls Tryz.prog 67 #[.pointer (some ⟨rb, 0, none⟩), .pointer (some ⟨rb', 0, none⟩), .string p, .bool th] w fun e w' => e = .returned (.int .i64 0) ∧ Rg w' rb s (nxG s cm) mb (yce (nxG s cm) p (yki s (cm s + 1) Ra Ro Rm) E) ∧ Fr (fun k => k = rb ∨ k = mb) w w' := by
 have C1 := yab (yaz rb s cm mb E w h.rep h.own p (by unfold maxLen; omega))
 have C2 : Hid (∀ V, Below w.heap.size w V → Calls Tryz.prog 104 #[.pointer (some ⟨rb', 0, none⟩), .string p] V fun e w' => e = .returned (yad Ro) ∧ Below w.heap.size w w') := fun V hb => by
  have q := h'.below hb
  rw [← e2]
  refine (yaz rb' s' cm' mb' E' V q.rep q.own p (by unfold maxLen; omega)).mono ?_
  rintro e w' ⟨rfl, hb'⟩
  exact ⟨rfl, hb.trans (hb'.mono hb.size)⟩
 have o1 := yif h p
 have o2 := yif h' p
 rw [e1] at C1 o1
 rw [e2] at o2
 have C3 : Hid (∀ V, Calls Tryz.prog 115 #[yad Ra, yad Ro] V fun e w' => e = .returned (.tuple #[yad Rt, .int .i64 3]) ∧ Below V.heap.size V w') := fun V => by
  have := yoi Ra Ro o1.2 o2.2 V
  rw [e3] at this
  exact this
 have om : 0 ≤ Rm.bn ∧ ykr Rm := by rw [hm]; cases th <;> first | exact o1 | exact o2
 have hc0 := h.c0
 have hs := h.rep.hs
 have hns := yoh s hs cm hc0
 have HR := yab h
 have RV : Hid (∀ w2 w3 o, Below w.heap.size w w2 → R2 w2 w3 Ra Ro → Rv w ((w3.alloc o).alloc (.cells #[.string (yay th Ra Ro).text, .int .i64 (yay th Ra Ro).br, .int .i64 (yay th Ra Ro).bn, .int .i64 ((yay th Ra Ro).ch 0), .int .i64 ((yay th Ra Ro).ch 1), .int .i64 ((yay th Ra Ro).ch 2), .int .i64 ((yay th Ra Ro).ch 3), .int .i64 ((yay th Ra Ro).ch 4), .int .i64 ((yay th Ra Ro).ch 5), .int .i64 ((yay th Ra Ro).kn 0), .int .i64 ((yay th Ra Ro).kn 1), .int .i64 ((yay th Ra Ro).kn 2), .int .i64 ((yay th Ra Ro).kn 3), .int .i64 ((yay th Ra Ro).kn 4), .int .i64 ((yay th Ra Ro).kn 5)] 197)) rb s mb (w3.heap.size + 1) cm E Rm 0 none w2.heap.size Ra (w2.heap.size + 1) Ro) := fun w2 w3 o hb S3 => by
  have := Rv.chosen h hb S3 o Rm
  rw [hm] at this ⊢
  exact this
 have HM := yab hm
 unfold yad at C1 C2 C3
 have KI : Hid (∀ V b eb eo, Sg w V rb s mb b (nxG s cm) E (yki s (cm s + 1) Ra Ro Rm) eb eo → Calls Tryz.prog 112 #[.pointer (some ⟨rb, 0, none⟩), .string p, .agg #[.string (settled s (cm s + 1) Ra Ro Rm).text, .int .i64 (settled s (cm s + 1) Ra Ro Rm).br, .int .i64 (settled s (cm s + 1) Ra Ro Rm).bn, .int .i64 ((settled s (cm s + 1) Ra Ro Rm).ch 0), .int .i64 ((settled s (cm s + 1) Ra Ro Rm).ch 1), .int .i64 ((settled s (cm s + 1) Ra Ro Rm).ch 2), .int .i64 ((settled s (cm s + 1) Ra Ro Rm).ch 3), .int .i64 ((settled s (cm s + 1) Ra Ro Rm).ch 4), .int .i64 ((settled s (cm s + 1) Ra Ro Rm).ch 5), .int .i64 (yac (settled s (cm s + 1) Ra Ro Rm).kn (yac Ro.kn (tf s (cm s + 1))) 0), .int .i64 (yac (settled s (cm s + 1) Ra Ro Rm).kn (yac Ro.kn (tf s (cm s + 1))) 1), .int .i64 (yac (settled s (cm s + 1) Ra Ro Rm).kn (yac Ro.kn (tf s (cm s + 1))) 2), .int .i64 (yac (settled s (cm s + 1) Ra Ro Rm).kn (yac Ro.kn (tf s (cm s + 1))) 3), .int .i64 (yac (settled s (cm s + 1) Ra Ro Rm).kn (yac Ro.kn (tf s (cm s + 1))) 4), .int .i64 (yac (settled s (cm s + 1) Ra Ro Rm).kn (yac Ro.kn (tf s (cm s + 1))) 5)]] V fun e w' => e = .returned (.tuple #[]) ∧ Rg w' rb s (nxG s cm) mb (yce (nxG s cm) p (yki s (cm s + 1) Ra Ro Rm) E) ∧ Fr (fun k => k = rb ∨ k = mb) w w') := fun V b eb eo S => by
  have hw : 0 ≤ (yki s (cm s + 1) Ra Ro Rm).bn ∧ ykr (yki s (cm s + 1) Ra Ro Rm) := by
   show 0 ≤ (settled s (cm s + 1) Ra Ro Rm).bn ∧ ∃ r : Nat, r < 6 ∧ (settled s (cm s + 1) Ra Ro Rm).br = r
   unfold settled
   split
   ·exact ⟨by show 0 ≤ cm s + 1; omega, s, hs, rfl⟩
   ·exact ⟨om.1, om.2⟩
  exact S.keepAll h (by show 0 ≤ nxG s cm s; rw [hns]; omega) p hp hw.1 hw.2 hl
 unfold yki at KI
 have hd : decide (1000000000 ≤ cm s) = false := by simp; omega
 clear h h' e1 e2 e3 o1 o2 om hm hns hl
 go_enter Tryz.func67, Tryz.ntmps67
 go_upto_if 30 with (first
  |(go_at_call_of 104 (Value.pointer (some ⟨rb, 0, none⟩)); refine C1.out.mono ?_; rintro e w1 ⟨rfl, hb1⟩; have B1 := yab hb1; clear hb1)
  |(go_at_call 104; refine (C2.out _ B1.out).mono ?_; rintro e w2 ⟨rfl, hb2⟩; have B2 := yab hb2; have S2 := yab (R2.made w2 Ra Ro); clear hb2)
  |(go_at_call 115; refine (C3.out _).mono ?_; rintro e w3 ⟨rfl, hb3⟩; have S3 := yab (S2.out.more hb3); have S4 := yab (S3.out.more ((Below.refl _ _).alloc (Nat.le_refl _) (.cells #[.string Rt.text, .int .i64 Rt.br, .int .i64 Rt.bn, .int .i64 (Rt.ch 0), .int .i64 (Rt.ch 1), .int .i64 (Rt.ch 2), .int .i64 (Rt.ch 3), .int .i64 (Rt.ch 4), .int .i64 (Rt.ch 5), .int .i64 (Rt.kn 0), .int .i64 (Rt.kn 1), .int .i64 (Rt.kn 2), .int .i64 (Rt.kn 3), .int .i64 (Rt.kn 4), .int .i64 (Rt.kn 5)] 197))); have S5 := yab (S4.out.more ((Below.refl _ _).alloc (Nat.le_refl _) (.cells #[.string Ra.text, .int .i64 Ra.br, .int .i64 Ra.bn, .int .i64 (Ra.ch 0), .int .i64 (Ra.ch 1), .int .i64 (Ra.ch 2), .int .i64 (Ra.ch 3), .int .i64 (Ra.ch 4), .int .i64 (Ra.ch 5), .int .i64 (Ra.kn 0), .int .i64 (Ra.kn 1), .int .i64 (Ra.kn 2), .int .i64 (Ra.kn 3), .int .i64 (Ra.kn 4), .int .i64 (Ra.kn 5)] 197))); obtain ⟨k0, k1, k2, k3, k4, k5, k6, k7, k8, k9, k10, k11, k12, k13, k14⟩ := S4.out.ra.cells; obtain ⟨j0, j1, j2, j3, j4, j5, j6, j7, j8, j9, j10, j11, j12, j13, j14⟩ := S5.out.rb.cells; clear hb3))
 go_cut [] (fun wx => Hid (Rv w wx rb s mb (w3.heap.size + 1) cm E Rm 0 none w2.heap.size Ra (w2.heap.size + 1) Ro))
 case first =>
  cases th
  all_goals
   go_wp2_with fail
   go_meet
   exact yab (RV.out w2 w3 _ B2.out S3.out)
 case rest =>
  (try clear k0 k1 k2 k3 k4 k5 k6 k7 k8 k9 k10 k11 k12 k13 k14); (try clear j0 j1 j2 j3 j4 j5 j6 j7 j8 j9 j10 j11 j12 j13 j14)
  obtain ⟨k0, k1, k2, k3, k4, k5, k6, k7, k8, k9, k10, k11, k12, k13, k14⟩ := hcut.out.sg.rc.cells
  obtain ⟨j0, j1, j2, j3, j4, j5, j6, j7, j8, j9, j10, j11, j12, j13, j14⟩ := hcut.out.r1.cells
  go_upto_region 8 with fail
  go_cut [45] (fun c wx => c = .bool false ∧ Hid (Rv w wx rb s mb (w3.heap.size + 1) cm E Rm 0 none w2.heap.size Ra (w2.heap.size + 1) Ro))
  case first =>
   cases hd2 : decide (0 < Rm.bn)
   all_goals
    go_wp2_with (first
     |(go_at_call 105; refine hcut.out.full.mono ?_; (try clear k0 k1 k2 k3 k4 k5 k6 k7 k8 k9 k10 k11 k12 k13 k14); (try clear j0 j1 j2 j3 j4 j5 j6 j7 j8 j9 j10 j11 j12 j13 j14); rintro e w8 ⟨rfl, hq⟩; have R8 := yab hq; obtain ⟨k0, k1, k2, k3, k4, k5, k6, k7, k8, k9, k10, k11, k12, k13, k14⟩ := R8.out.sg.rc.cells; obtain ⟨j0, j1, j2, j3, j4, j5, j6, j7, j8, j9, j10, j11, j12, j13, j14⟩ := R8.out.r1.cells; clear hq)
     |(go_at_call 113; refine (R8.out.there Rm).mono ?_; (try clear k0 k1 k2 k3 k4 k5 k6 k7 k8 k9 k10 k11 k12 k13 k14); (try clear j0 j1 j2 j3 j4 j5 j6 j7 j8 j9 j10 j11 j12 j13 j14); rintro e w9 ⟨rfl, hq⟩; have R9 := yab hq; obtain ⟨j0, j1, j2, j3, j4, j5, j6, j7, j8, j9, j10, j11, j12, j13, j14⟩ := R9.out.r1.cells; clear hq)
     |(go_at_call 106; refine (R9.out.room HR.out Ra).mono ?_; (try clear k0 k1 k2 k3 k4 k5 k6 k7 k8 k9 k10 k11 k12 k13 k14); (try clear j0 j1 j2 j3 j4 j5 j6 j7 j8 j9 j10 j11 j12 j13 j14); rintro e w10 ⟨rfl, hq⟩; have R10 := yab hq; clear hq))
    go_meet
    first | exact ⟨rfl, R10⟩ | exact ⟨rfl, R9⟩
  case rest =>
   obtain ⟨rfl, hcut⟩ := hcut
   go_wp2_with (first
    |(go_at_call 107; refine (hcut.out.next hc0 hc).mono ?_; (try clear k0 k1 k2 k3 k4 k5 k6 k7 k8 k9 k10 k11 k12 k13 k14); (try clear j0 j1 j2 j3 j4 j5 j6 j7 j8 j9 j10 j11 j12 j13 j14); rintro e w11 ⟨rfl, hq⟩; have R11 := yab (hq.alloc_ev (.cells #[.int .i64 s, .int .i64 (cm s + 1)] 191)); obtain ⟨k0, k1, k2, k3, k4, k5, k6, k7, k8, k9, k10, k11, k12, k13, k14⟩ := R11.out.r1.cells; obtain ⟨j0, j1, j2, j3, j4, j5, j6, j7, j8, j9, j10, j11, j12, j13, j14⟩ := R11.out.r2.cells; obtain ⟨v0, v1⟩ := R11.out.evCells; clear hq)
    |(go_at_call 116; refine (R11.out.settle (cm s + 1)).mono ?_; (try clear k0 k1 k2 k3 k4 k5 k6 k7 k8 k9 k10 k11 k12 k13 k14); (try clear j0 j1 j2 j3 j4 j5 j6 j7 j8 j9 j10 j11 j12 j13 j14); (try clear v0 v1); rintro e w12 ⟨rfl, hq⟩; have R12 := yab hq; clear hq))
   generalize hR5 : settled s (cm s + 1) Ra Ro Rm = R5 at *
   go_cut [] (fun wx => Hid (Rv w wx rb s mb (w3.heap.size + 1) (nxG s cm) E ⟨R5.text, R5.br, R5.bn, R5.ch, yac R5.kn (yac Ro.kn (tf s (cm s + 1)))⟩ w11.heap.size (some (.cells #[.int .i64 s, .int .i64 (cm s + 1)] 191)) w2.heap.size Ra (w2.heap.size + 1) Ro))
   case first =>
    have T0 := yab R12.out.drew
    obtain ⟨v0, v1⟩ := R12.out.evCells
    obtain ⟨j0, j1, j2, j3, j4, j5, j6, j7, j8, j9, j10, j11, j12, j13, j14⟩ := R12.out.r2.cells
    go_region_law (first
     |(go_simp; go_at_call 111; with_reducible refine (T0.out.alone (cm s + 1)).mono ?_; (try clear j0 j1 j2 j3 j4 j5 j6 j7 j8 j9 j10 j11 j12 j13 j14); (try clear v0 v1); rintro e w13 ⟨rfl, hq⟩; have T1 := yab hq; obtain ⟨j0, j1, j2, j3, j4, j5, j6, j7, j8, j9, j10, j11, j12, j13, j14⟩ := T1.out.r2.cells; clear hq; dsimp only)
     |(go_simp; go_at_call 110; refine (T1.out.hear2 Ro.kn (tf s (cm s + 1)) 186).mono ?_; (try clear j0 j1 j2 j3 j4 j5 j6 j7 j8 j9 j10 j11 j12 j13 j14); rintro e w14 ⟨rfl, hq⟩; have T2 := yab hq; clear hq; dsimp only))
    all_goals
     go_wp2_with fail
     go_meet
     exact T2
   case rest =>
    obtain ⟨k0, k1, k2, k3, k4, k5, k6, k7, k8, k9, k10, k11, k12, k13, k14⟩ := hcut.out.sg.rc.cells
    go_wp2_with (go_at_call 112; refine (KI.out _ _ _ _ hcut.out.sg).mono ?_; (try clear k0 k1 k2 k3 k4 k5 k6 k7 k8 k9 k10 k11 k12 k13 k14); rintro e w15 ⟨rfl, hq⟩; have Q15 := yab hq; clear hq)
    go_ret
    exact ⟨rfl, by unfold yki; rw [hR5]; exact Q15.out⟩
end Go.Proofs.K
