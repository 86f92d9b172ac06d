/- A replica of the program's: Resolve (own, refused). The program's net: Resolve. -/
import Derived.Test.YtaelaldmibgibaaGreatH31
import Derived.Test.YtaelaldmibgibaaGreatH30

set_option linter.unusedVariables false
set_option linter.unusedSimpArgs false
set_option linter.unusedSectionVars false

namespace Go.Proofs.YtaelaldmibgibaaGreat
open Go.RowKit Go.Maps
set_option maxRecDepth 100000 in
set_option maxHeartbeats 4000000 in
theorem rresolve_full_f (rb s : Nat) (cm : Nat → Int) (mb : Nat) (E : yav) (rb' s' : Nat) (cm' : Nat → Int) (mb' : Nat) (E' : yav) (w : World) (h : Rg w rb s cm mb E) (h' : Rg w rb' s' cm' mb' E') (hl : E.length < 999999) (p : ByteArray) (hp : p.size ≤ 1000000000000) (Ra Ro Rt Rm : Rec) (e1 : ybp s cm (ybb p E) = Ra) (e2 : ybp s' cm' (ybb p E') = Ro) (e3 : yaz Ra Ro = (Rt, 3)) (hm : Rm = Ra) (hf : 1000000000 ≤ cm s) :
  Calls Tryz.prog 45 #[.pointer (some ⟨rb, 0, none⟩), .pointer (some ⟨rb', 0, none⟩), .string p, .bool false] w fun e w' => e = .returned (.int .i64 5) ∧ Rg w' rb s cm mb E ∧ Fr (fun k => k = rb ∨ k = mb) w w' := by
 have C1 := yab (yak rb s cm mb E w h.rep h.own p (by unfold maxLen; omega))
 have C2 : Hid (∀ V, Below w.heap.size w V → Calls Tryz.prog 48 #[.pointer (some ⟨rb', 0, none⟩), .string p] V fun e w' => e = .returned (yag Ro) ∧ Below w.heap.size w w') := fun V hb => by
  have q := h'.below hb
  rw [← e2]
  refine (yak rb' s' cm' mb' E' V q.rep q.own p (by unfold maxLen; omega)).mono ?_
  rintro e w' ⟨rfl, hb'⟩
  exact ⟨rfl, hb.trans (hb'.mono hb.size)⟩
 have o1 := ybg h p
 have o2 := ybg h' p
 rw [e1] at C1 o1
 rw [e2] at o2
 have C3 : Hid (∀ V, Calls Tryz.prog 65 #[yag Ra, yag Ro] V fun e w' => e = .returned (.tuple #[yag Rt, .int .i64 3]) ∧ Below V.heap.size V w') := fun V => by
  have := ycq Ra Ro o1.2 o2.2 V
  rw [e3] at this
  exact this
 have om : 0 ≤ Rm.bn ∧ yfk Rm := by rw [hm]; exact o1
 have hc0 := h.c0
 have hs := h.rep.hs
 have hns := ydn s hs cm hc0
 have HR := yab h
 have RV : Hid (∀ w2 w3 o, Below w.heap.size w w2 → R2 w2 w3 Ra Ro → Rv w ((w3.alloc o).alloc (.cells #[.string Ra.text, .int .i64 Ra.br, .int .i64 Ra.bn, .int .i64 (Ra.ch 0), .int .i64 (Ra.ch 1), .int .i64 (Ra.ch 2), .int .i64 (Ra.ch 3), .int .i64 (Ra.ch 4), .int .i64 (Ra.ch 5), .int .i64 (Ra.kn 0), .int .i64 (Ra.kn 1), .int .i64 (Ra.kn 2), .int .i64 (Ra.kn 3), .int .i64 (Ra.kn 4), .int .i64 (Ra.kn 5)] 120)) rb s mb (w3.heap.size + 1) cm E Rm 0 none w2.heap.size Ra (w2.heap.size + 1) Ro) := fun w2 w3 o hb S3 => by
  have := Rv.chosen h hb S3 o Rm
  rw [hm] at this ⊢
  exact this
 have HM := yab hm
 unfold yag at C1 C2 C3
 have hd : decide (1000000000 ≤ cm s) = true := by simp; omega
 clear h h' e1 e2 e3 o1 o2 hm hf
 go_enter Tryz.func45, Tryz.ntmps45
 go_wp2_with (first
  |(go_at_call_of 48 (Value.pointer (some ⟨rb, 0, none⟩)); refine C1.out.mono ?_; rintro e w1 ⟨rfl, hb1⟩; have B1 := yab hb1; clear hb1)
  |(go_at_call 48; refine (C2.out _ B1.out).mono ?_; rintro e w2 ⟨rfl, hb2⟩; have B2 := yab hb2; have S2 := yab (R2.made w2 Ra Ro); clear hb2)
  |(go_at_call 65; refine (C3.out _).mono ?_; rintro e w3 ⟨rfl, hb3⟩; have S3 := yab (S2.out.more hb3); have S4 := yab (S3.out.more ((Below.refl _ _).alloc (Nat.le_refl _) (.cells #[.string Rt.text, .int .i64 Rt.br, .int .i64 Rt.bn, .int .i64 (Rt.ch 0), .int .i64 (Rt.ch 1), .int .i64 (Rt.ch 2), .int .i64 (Rt.ch 3), .int .i64 (Rt.ch 4), .int .i64 (Rt.ch 5), .int .i64 (Rt.kn 0), .int .i64 (Rt.kn 1), .int .i64 (Rt.kn 2), .int .i64 (Rt.kn 3), .int .i64 (Rt.kn 4), .int .i64 (Rt.kn 5)] 120))); have S5 := yab (S4.out.more ((Below.refl _ _).alloc (Nat.le_refl _) (.cells #[.string Ra.text, .int .i64 Ra.br, .int .i64 Ra.bn, .int .i64 (Ra.ch 0), .int .i64 (Ra.ch 1), .int .i64 (Ra.ch 2), .int .i64 (Ra.ch 3), .int .i64 (Ra.ch 4), .int .i64 (Ra.ch 5), .int .i64 (Ra.kn 0), .int .i64 (Ra.kn 1), .int .i64 (Ra.kn 2), .int .i64 (Ra.kn 3), .int .i64 (Ra.kn 4), .int .i64 (Ra.kn 5)] 120))); obtain ⟨k0, k1, k2, k3, k4, k5, k6, k7, k8, k9, k10, k11, k12, k13, k14⟩ := S4.out.ra.cells; obtain ⟨j0, j1, j2, j3, j4, j5, j6, j7, j8, j9, j10, j11, j12, j13, j14⟩ := S5.out.rb.cells; clear hb3)
  |(go_at_call 49; refine (RV.out w2 w3 _ B2.out S3.out).full.mono ?_; (try clear k0 k1 k2 k3 k4 k5 k6 k7 k8 k9 k10 k11 k12 k13 k14); (try clear j0 j1 j2 j3 j4 j5 j6 j7 j8 j9 j10 j11 j12 j13 j14); rintro e w8 ⟨rfl, hq⟩; have R8 := yab hq; obtain ⟨k0, k1, k2, k3, k4, k5, k6, k7, k8, k9, k10, k11, k12, k13, k14⟩ := R8.out.sg.rc.cells; obtain ⟨j0, j1, j2, j3, j4, j5, j6, j7, j8, j9, j10, j11, j12, j13, j14⟩ := R8.out.r1.cells; clear hq)
  |(go_at_call 60; refine (R8.out.there Rm).mono ?_; (try clear k0 k1 k2 k3 k4 k5 k6 k7 k8 k9 k10 k11 k12 k13 k14); (try clear j0 j1 j2 j3 j4 j5 j6 j7 j8 j9 j10 j11 j12 j13 j14); rintro e w9 ⟨rfl, hq⟩; have R9 := yab hq; obtain ⟨j0, j1, j2, j3, j4, j5, j6, j7, j8, j9, j10, j11, j12, j13, j14⟩ := R9.out.r1.cells; clear hq)
  |(go_at_call 50; refine (R9.out.room HR.out Ra).mono ?_; (try clear k0 k1 k2 k3 k4 k5 k6 k7 k8 k9 k10 k11 k12 k13 k14); (try clear j0 j1 j2 j3 j4 j5 j6 j7 j8 j9 j10 j11 j12 j13 j14); rintro e w10 ⟨rfl, hq⟩; have R10 := yab hq; clear hq)
  |fail)
 go_ret
 exact ⟨rfl, R8.out.rg HR.out hc0, R8.out.sg.fr⟩
set_option maxRecDepth 100000 in
set_option maxHeartbeats 4000000 in
theorem rresolve_room_f (rb s : Nat) (cm : Nat → Int) (mb : Nat) (E : yav) (rb' s' : Nat) (cm' : Nat → Int) (mb' : Nat) (E' : yav) (w : World) (h : Rg w rb s cm mb E) (h' : Rg w rb' s' cm' mb' E') (hl : E.length < 999999) (p : ByteArray) (hp : p.size ≤ 1000000000000) (Ra Ro Rt Rm : Rec) (e1 : ybp s cm (ybb p E) = Ra) (e2 : ybp s' cm' (ybb p E') = Ro) (e3 : yaz Ra Ro = (Rt, 3)) (hm : Rm = Ra) (hc : cm s < 1000000000) (ht : 0 < Rm.bn) (hr : noRoom Ra E = true) :
  Calls Tryz.prog 45 #[.pointer (some ⟨rb, 0, none⟩), .pointer (some ⟨rb', 0, none⟩), .string p, .bool false] w fun e w' => e = .returned (.int .i64 5) ∧ Rg w' rb s cm mb E ∧ Fr (fun k => k = rb ∨ k = mb) w w' := by
 have C1 := yab (yak rb s cm mb E w h.rep h.own p (by unfold maxLen; omega))
 have C2 : Hid (∀ V, Below w.heap.size w V → Calls Tryz.prog 48 #[.pointer (some ⟨rb', 0, none⟩), .string p] V fun e w' => e = .returned (yag Ro) ∧ Below w.heap.size w w') := fun V hb => by
  have q := h'.below hb
  rw [← e2]
  refine (yak rb' s' cm' mb' E' V q.rep q.own p (by unfold maxLen; omega)).mono ?_
  rintro e w' ⟨rfl, hb'⟩
  exact ⟨rfl, hb.trans (hb'.mono hb.size)⟩
 have o1 := ybg h p
 have o2 := ybg h' p
 rw [e1] at C1 o1
 rw [e2] at o2
 have C3 : Hid (∀ V, Calls Tryz.prog 65 #[yag Ra, yag Ro] V fun e w' => e = .returned (.tuple #[yag Rt, .int .i64 3]) ∧ Below V.heap.size V w') := fun V => by
  have := ycq Ra Ro o1.2 o2.2 V
  rw [e3] at this
  exact this
 have om : 0 ≤ Rm.bn ∧ yfk Rm := by rw [hm]; exact o1
 have hc0 := h.c0
 have hs := h.rep.hs
 have hns := ydn s hs cm hc0
 have HR := yab h
 have RV : Hid (∀ w2 w3 o, Below w.heap.size w w2 → R2 w2 w3 Ra Ro → Rv w ((w3.alloc o).alloc (.cells #[.string Ra.text, .int .i64 Ra.br, .int .i64 Ra.bn, .int .i64 (Ra.ch 0), .int .i64 (Ra.ch 1), .int .i64 (Ra.ch 2), .int .i64 (Ra.ch 3), .int .i64 (Ra.ch 4), .int .i64 (Ra.ch 5), .int .i64 (Ra.kn 0), .int .i64 (Ra.kn 1), .int .i64 (Ra.kn 2), .int .i64 (Ra.kn 3), .int .i64 (Ra.kn 4), .int .i64 (Ra.kn 5)] 120)) rb s mb (w3.heap.size + 1) cm E Rm 0 none w2.heap.size Ra (w2.heap.size + 1) Ro) := fun w2 w3 o hb S3 => by
  have := Rv.chosen h hb S3 o Rm
  rw [hm] at this ⊢
  exact this
 have HM := yab hm
 unfold yag at C1 C2 C3
 have hd : decide (1000000000 ≤ cm s) = false := by simp; omega
 have hd2 : decide (0 < Rm.bn) = true := by simp; omega
 clear h h' e1 e2 e3 o1 o2 om hm hns hl
 clear hc ht
 go_enter Tryz.func45, Tryz.ntmps45
 go_wp2_with (first
  |(go_at_call_of 48 (Value.pointer (some ⟨rb, 0, none⟩)); refine C1.out.mono ?_; rintro e w1 ⟨rfl, hb1⟩; have B1 := yab hb1; clear hb1)
  |(go_at_call 48; refine (C2.out _ B1.out).mono ?_; rintro e w2 ⟨rfl, hb2⟩; have B2 := yab hb2; have S2 := yab (R2.made w2 Ra Ro); clear hb2)
  |(go_at_call 65; refine (C3.out _).mono ?_; rintro e w3 ⟨rfl, hb3⟩; have S3 := yab (S2.out.more hb3); have S4 := yab (S3.out.more ((Below.refl _ _).alloc (Nat.le_refl _) (.cells #[.string Rt.text, .int .i64 Rt.br, .int .i64 Rt.bn, .int .i64 (Rt.ch 0), .int .i64 (Rt.ch 1), .int .i64 (Rt.ch 2), .int .i64 (Rt.ch 3), .int .i64 (Rt.ch 4), .int .i64 (Rt.ch 5), .int .i64 (Rt.kn 0), .int .i64 (Rt.kn 1), .int .i64 (Rt.kn 2), .int .i64 (Rt.kn 3), .int .i64 (Rt.kn 4), .int .i64 (Rt.kn 5)] 120))); have S5 := yab (S4.out.more ((Below.refl _ _).alloc (Nat.le_refl _) (.cells #[.string Ra.text, .int .i64 Ra.br, .int .i64 Ra.bn, .int .i64 (Ra.ch 0), .int .i64 (Ra.ch 1), .int .i64 (Ra.ch 2), .int .i64 (Ra.ch 3), .int .i64 (Ra.ch 4), .int .i64 (Ra.ch 5), .int .i64 (Ra.kn 0), .int .i64 (Ra.kn 1), .int .i64 (Ra.kn 2), .int .i64 (Ra.kn 3), .int .i64 (Ra.kn 4), .int .i64 (Ra.kn 5)] 120))); obtain ⟨k0, k1, k2, k3, k4, k5, k6, k7, k8, k9, k10, k11, k12, k13, k14⟩ := S4.out.ra.cells; obtain ⟨j0, j1, j2, j3, j4, j5, j6, j7, j8, j9, j10, j11, j12, j13, j14⟩ := S5.out.rb.cells; clear hb3)
  |(go_at_call 49; refine (RV.out w2 w3 _ B2.out S3.out).full.mono ?_; (try clear k0 k1 k2 k3 k4 k5 k6 k7 k8 k9 k10 k11 k12 k13 k14); (try clear j0 j1 j2 j3 j4 j5 j6 j7 j8 j9 j10 j11 j12 j13 j14); rintro e w8 ⟨rfl, hq⟩; have R8 := yab hq; obtain ⟨k0, k1, k2, k3, k4, k5, k6, k7, k8, k9, k10, k11, k12, k13, k14⟩ := R8.out.sg.rc.cells; obtain ⟨j0, j1, j2, j3, j4, j5, j6, j7, j8, j9, j10, j11, j12, j13, j14⟩ := R8.out.r1.cells; clear hq)
  |(go_at_call 60; refine (R8.out.there Rm).mono ?_; (try clear k0 k1 k2 k3 k4 k5 k6 k7 k8 k9 k10 k11 k12 k13 k14); (try clear j0 j1 j2 j3 j4 j5 j6 j7 j8 j9 j10 j11 j12 j13 j14); rintro e w9 ⟨rfl, hq⟩; have R9 := yab hq; obtain ⟨j0, j1, j2, j3, j4, j5, j6, j7, j8, j9, j10, j11, j12, j13, j14⟩ := R9.out.r1.cells; clear hq)
  |(go_at_call 50; refine (R9.out.room HR.out Ra).mono ?_; (try clear k0 k1 k2 k3 k4 k5 k6 k7 k8 k9 k10 k11 k12 k13 k14); (try clear j0 j1 j2 j3 j4 j5 j6 j7 j8 j9 j10 j11 j12 j13 j14); rintro e w10 ⟨rfl, hq⟩; have R10 := yab hq; clear hq)
  |fail)
 go_ret
 exact ⟨rfl, R10.out.rg HR.out hc0, R10.out.sg.fr⟩
open Go.RowKit
theorem rresolve_any (rb s mb : Nat) (x : RS) (rb' s' mb' : Nat) (y : RS) (w : World) (h : Rg w rb s x.cm mb x.E) (h' : Rg w rb' s' y.cm mb' y.E) (hl : x.E.length < 999999) (p : ByteArray) (hp : p.size ≤ 1000000000000) (th : Bool) :
  Calls Tryz.prog 45 #[.pointer (some ⟨rb, 0, none⟩), .pointer (some ⟨rb', 0, none⟩), .string p, .bool th] w fun e w' => e = .returned (.int .i64 (rsR s x s' y p th).1) ∧ Rg w' rb s (rsR s x s' y p th).2.cm mb (rsR s x s' y p th).2.E ∧ Fr (fun k => k = rb ∨ k = mb) w w' := by
 unfold rsR
 generalize e1 : ybp s x.cm (ybb p x.E) = Ra
 generalize e2 : ybp s' y.cm (ybb p y.E) = Ro
 unfold rsRec
 split
 ·next hz =>
  refine (rresolve_none rb s x.cm mb x.E rb' s' y.cm mb' y.E w h h' p hp th Ra Ro (yaz Ra Ro).1 (yaz Ra Ro).2 e1 e2 rfl (by simpa using hz)).mono ?_
  rintro e w' ⟨rfl, hb⟩
  exact ⟨rfl, h.below hb, Fr.of_below hb⟩
 ·next hz =>
  have hz3 : (yaz Ra Ro).2 = 3 := by simpa using hz
  have e3 : yaz Ra Ro = ((yaz Ra Ro).1, 3) := Prod.ext rfl hz3
  split
  ·next hf =>
   rw [Bool.or_eq_true, Bool.and_eq_true, decide_eq_true_eq, decide_eq_true_eq] at hf
   by_cases hc : 1000000000 ≤ x.cm s
   ·cases th with
    |true => exact rresolve_full_t rb s x.cm mb x.E rb' s' y.cm mb' y.E w h h' hl p hp Ra Ro _ _ e1 e2 e3 rfl hc
    |false => exact rresolve_full_f rb s x.cm mb x.E rb' s' y.cm mb' y.E w h h' hl p hp Ra Ro _ _ e1 e2 e3 rfl hc
   ·rcases hf with hf | ⟨h1, h2⟩
    ·exact absurd hf hc
    ·cases th with
     |true => exact rresolve_room_t rb s x.cm mb x.E rb' s' y.cm mb' y.E w h h' hl p hp Ra Ro _ _ e1 e2 e3 rfl (by omega) h1 h2
     |false => exact rresolve_room_f rb s x.cm mb x.E rb' s' y.cm mb' y.E w h h' hl p hp Ra Ro _ _ e1 e2 e3 rfl (by omega) h1 h2
  ·next hf =>
   rw [Bool.or_eq_true, Bool.and_eq_true, decide_eq_true_eq, decide_eq_true_eq, not_or, not_and] at hf
   have hc : x.cm s < 1000000000 := by omega
   by_cases ht : 0 < (ydw th Ra Ro).bn
   ·have hr : noRoom Ra x.E = false := by simpa using hf.2 ht
    cases th with
    |true => exact rresolve_there_t rb s x.cm mb x.E rb' s' y.cm mb' y.E w h h' hl p hp Ra Ro _ _ e1 e2 e3 rfl hc ht hr
    |false => exact rresolve_there_f rb s x.cm mb x.E rb' s' y.cm mb' y.E w h h' hl p hp Ra Ro _ _ e1 e2 e3 rfl hc ht hr
   ·cases th with
    |true => exact rresolve_gone_t rb s x.cm mb x.E rb' s' y.cm mb' y.E w h h' hl p hp Ra Ro _ _ e1 e2 e3 rfl hc ht
    |false => exact rresolve_gone_f rb s x.cm mb x.E rb' s' y.cm mb' y.E w h h' hl p hp Ra Ro _ _ e1 e2 e3 rfl hc ht
set_option maxHeartbeats 600000 in
theorem nresolve_any {nb pb : Nat} {L : List (Nat × Nat)} {S : List RS} {w : World} (h : Nt w nb pb L S) (a b : Nat) (hab : a ≠ b) {u v : Nat × Nat} {x y : RS} (hu : L[a]? = some u) (hv : L[b]? = some v) (hx : S[a]? = some x) (hy : S[b]? = some y) (hl : x.E.length < 999999) (p : ByteArray) (hp : yat p = true) (hpm : p.size ≤ 1000000) (th : Bool) :
  Calls Tryz.prog 27 #[.pointer (some ⟨nb, 0, none⟩), .int .i64 a, .int .i64 b, .string p, .bool th] w fun e w' => e = .returned (.int .i64 (rsR a x b y p th).1) ∧ Nt w' nb pb L (S.set a (rsR a x b y p th).2) ∧ Fr (fun k => k = u.1 ∨ k = u.2) w w' := by
 have C := yab (placesOf_ok nb S.length pb (L.map (·.1)) a b u.1 v.1 p w h.net h.nlt h.plt (by rw [List.getElem?_map, hu]; rfl) (by rw [List.getElem?_map, hv]; rfl) hab hp (by unfold maxLen; omega))
 have W1 : Hid (∀ V, Below w.heap.size w V → Calls Tryz.prog 45 #[.pointer (some ⟨u.1, 0, none⟩), .pointer (some ⟨v.1, 0, none⟩), .string p, .bool th] V fun e w' => e = .returned (.int .i64 (rsR a x b y p th).1) ∧ Rg w' u.1 a (rsR a x b y p th).2.cm u.2 (rsR a x b y p th).2.E ∧ Fr (fun k => k = u.1 ∨ k = u.2) w w') := fun V hb => by
  refine (rresolve_any u.1 a u.2 x v.1 b v.2 y V ((h.rep a u x hu hx).below hb) ((h.rep b v y hv hy).below hb) hl p (by omega) th).mono ?_
  rintro e w' ⟨rfl, h1, h2⟩
  exact ⟨rfl, h1, (Fr.of_below hb).trans h2⟩
 have FN : Hid (∀ w', Rg w' u.1 a (rsR a x b y p th).2.cm u.2 (rsR a x b y p th).2.E → Fr (fun k => k = u.1 ∨ k = u.2) w w' → Nt w' nb pb L (S.set a (rsR a x b y p th).2)) := fun w' h1 h2 => h.turn hu h2 h1
 clear h hu hv hx hy hp hpm hl
 go_enter Tryz.func27, Tryz.ntmps27
 go_wp2_with (first
  |(go_at_call 43; refine C.out.mono ?_; rintro e w1 ⟨rfl, hb1⟩; have B1 := yab hb1; clear hb1)
  |(go_at_call 45; refine (W1.out _ B1.out).mono ?_; rintro e w2 ⟨rfl, hRr, hFr⟩; have HR := yab hRr; have HF := yab hFr; clear hRr hFr))
 go_ret
 exact ⟨rfl, FN.out _ HR.out HF.out, HF.out⟩
end Go.Proofs.YtaelaldmibgibaaGreat
