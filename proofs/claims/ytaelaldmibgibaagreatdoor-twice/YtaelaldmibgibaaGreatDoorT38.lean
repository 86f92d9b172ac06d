/- The program's net: PullPath of replicas that there are. A replica of the program's: Resolve. Resolve in a replica, as a function of states. A replica of the program's: Resolve (theirs, gone). A replica of the program's: Resolve (own, there). A replica of the program's: Resolve (own, gone). -/
import Derived.Test.YtaelaldmibgibaaGreatDoorT20
import Derived.Test.YtaelaldmibgibaaGreatDoorT37
import Derived.Test.YtaelaldmibgibaaGreatDoorT36
import Derived.Deep.DeepCutAuto
import Derived.Outline

set_option linter.unusedVariables false
set_option linter.unusedSimpArgs false
set_option linter.unusedSectionVars false
set_option maxHeartbeats 4000000
set_option maxRecDepth 100000

namespace Go.Proofs.YtaelaldmibgibaaGreatDoor
open Go.RowKit
def ppR (s : Nat) (x : RS) (s' : Nat) (y : RS) (p : ByteArray) : Int × Int × RS :=
 if ((yam (yay s x.cm (yas p x.E)) (yay s' y.cm (yas p y.E))).2 == 1 && noRoom (yay s x.cm (yas p x.E)) x.E) = true then (0, 5, x)
 else ((yam (yay s x.cm (yas p x.E)) (yay s' y.cm (yas p y.E))).2, 0, ⟨x.cm, ybn x.cm p (yam (yay s x.cm (yas p x.E)) (yay s' y.cm (yas p y.E))).1 x.E⟩)
theorem rpull_any (rb s mb : Nat) (x : RS) (rb' s' mb' : Nat) (y : RS) (w : World) (h : Rg w rb s x.cm mb x.E) (h' : Rg w rb' s' y.cm mb' y.E) (hl : x.E.length < 999999) (p : ByteArray) (hp : p.size ≤ 1000000000000) :
  Calls Tryz.prog 66 #[.pointer (some ⟨rb, 0, none⟩), .pointer (some ⟨rb', 0, none⟩), .string p] w fun e w' => e = .returned (.tuple #[.int .i64 (ppR s x s' y p).1, .int .i64 (ppR s x s' y p).2.1]) ∧ Rg w' rb s (ppR s x s' y p).2.2.cm mb (ppR s x s' y p).2.2.E ∧ Fr (fun k => k = rb ∨ k = mb) w w' := by
 unfold ppR
 split
 ·next hc =>
  rw [Bool.and_eq_true, beq_iff_eq] at hc
  exact rpull_full rb s x.cm mb x.E rb' s' y.cm mb' y.E w h h' hl p hp _ _ _ _ rfl rfl rfl hc.1 hc.2
 ·next hc =>
  rw [Bool.and_eq_true, beq_iff_eq, not_and] at hc
  by_cases hz : (yam (yay s x.cm (yas p x.E)) (yay s' y.cm (yas p y.E))).2 = 1
  ·have := yth rb s x.cm mb x.E rb' s' y.cm mb' y.E w h h' hl p hp _ _ _ _ rfl rfl rfl hz (by simpa using hc hz)
   rw [hz]
   exact this
  ·exact ywe rb s x.cm mb x.E rb' s' y.cm mb' y.E w h h' hl p hp _ _ _ _ rfl rfl rfl hz
theorem npull_any {nb pb : Nat} {L : List (Nat × Nat)} {S : List RS} {w : World} (h : Nt w nb pb L S) (a b : Nat) (hab : a ≠ b) {u v : Nat × Nat} {x y : RS} (hu : L[a]? = some u) (hv : L[b]? = some v) (hx : S[a]? = some x) (hy : S[b]? = some y) (hl : x.E.length < 999999) (p : ByteArray) (hp : ycw p = true) (hpm : p.size ≤ 1000000) :
  Calls Tryz.prog 34 #[.pointer (some ⟨nb, 0, none⟩), .int .i64 a, .int .i64 b, .string p] w fun e w' => e = .returned (.tuple #[.int .i64 (ppR a x b y p).1, .int .i64 (ppR a x b y p).2.1]) ∧ Nt w' nb pb L (S.set a (ppR a x b y p).2.2) ∧ Fr (fun k => k = u.1 ∨ k = u.2) w w' := by
 have C := yac (ymv nb S.length pb (L.map (·.1)) a b u.1 v.1 p w h.net h.nlt h.plt (by rw [List.getElem?_map, hu]; rfl) (by rw [List.getElem?_map, hv]; rfl) hab hp (by unfold maxLen; omega))
 have W1 : Hid (∀ V, Below w.heap.size w V → Calls Tryz.prog 66 #[.pointer (some ⟨u.1, 0, none⟩), .pointer (some ⟨v.1, 0, none⟩), .string p] V fun e w' => e = .returned (.tuple #[.int .i64 (ppR a x b y p).1, .int .i64 (ppR a x b y p).2.1]) ∧ Rg w' u.1 a (ppR a x b y p).2.2.cm u.2 (ppR a x b y p).2.2.E ∧ Fr (fun k => k = u.1 ∨ k = u.2) w w') := fun V hb => by
  refine (rpull_any u.1 a u.2 x v.1 b v.2 y V ((h.rep a u x hu hx).below hb) ((h.rep b v y hv hy).below hb) hl p (by omega)).mono ?_
  rintro e w' ⟨rfl, h1, h2⟩
  exact ⟨rfl, h1, (Fr.of_below hb).trans h2⟩
 have FN : Hid (∀ w', Rg w' u.1 a (ppR a x b y p).2.2.cm u.2 (ppR a x b y p).2.2.E → Fr (fun k => k = u.1 ∨ k = u.2) w w' → Nt w' nb pb L (S.set a (ppR a x b y p).2.2)) := fun w' h1 h2 => h.turn hu h2 h1
 clear h hu hv hx hy hp hpm hl
 go_enter Tryz.func34, Tryz.ntmps34
 go_wp2_with (first
  |(go_at_call 65; refine C.out.mono ?_; rintro e w1 ⟨rfl, hb1⟩; have B1 := yac hb1; clear hb1)
  |(go_at_call 66; refine (W1.out _ B1.out).mono ?_; rintro e w2 ⟨rfl, hRr, hFr⟩; have HR := yac hRr; have HF := yac hFr; clear hRr hFr))
 go_ret2
 exact ⟨rfl, FN.out _ HR.out HF.out, HF.out⟩
open Go.RowKit Go.Maps
def ybm (s : Nat) (x : Int) (Ra Ro Rm : Rec) : Rec := ⟨(settled s x Ra Ro Rm).text, (settled s x Ra Ro Rm).br, (settled s x Ra Ro Rm).bn, (settled s x Ra Ro Rm).ch, yab (settled s x Ra Ro Rm).kn (yab Ro.kn (tf s x))⟩
theorem Rv.chosen {w w2 w3 : World} {rb s mb : Nat} {cm : Nat → Int} {E : yat} (h : Rg w rb s cm mb E) {Ra Ro : Rec} (hb : Below w.heap.size w w2) (S3 : R2 w2 w3 Ra Ro) (o : Obj) (Rm : Rec) :
  Rv w ((w3.alloc o).alloc (.cells #[.string Rm.text, .int .i64 Rm.br, .int .i64 Rm.bn, .int .i64 (Rm.ch 0), .int .i64 (Rm.ch 1), .int .i64 (Rm.ch 2), .int .i64 (Rm.ch 3), .int .i64 (Rm.ch 4), .int .i64 (Rm.ch 5), .int .i64 (Rm.kn 0), .int .i64 (Rm.kn 1), .int .i64 (Rm.kn 2), .int .i64 (Rm.kn 3), .int .i64 (Rm.kn 4), .int .i64 (Rm.kn 5)] 197)) rb s mb (w3.heap.size + 1) cm E Rm 0 none w2.heap.size Ra (w2.heap.size + 1) Ro := by
 have b3 := hb.trans (S3.bel.mono hb.size)
 have b4 := b3.alloc b3.size o
 have := Sg.start h b4 Rm
 have e : (w3.alloc o).heap.size = w3.heap.size + 1 := by simp
 rw [e] at this
 have S4 := S3.more ((Below.refl _ _).alloc (Nat.le_refl _) o)
 have S5 := S4.more ((Below.refl _ _).alloc (Nat.le_refl _) (.cells #[.string Rm.text, .int .i64 Rm.br, .int .i64 Rm.bn, .int .i64 (Rm.ch 0), .int .i64 (Rm.ch 1), .int .i64 (Rm.ch 2), .int .i64 (Rm.ch 3), .int .i64 (Rm.ch 4), .int .i64 (Rm.ch 5), .int .i64 (Rm.kn 0), .int .i64 (Rm.kn 1), .int .i64 (Rm.kn 2), .int .i64 (Rm.kn 3), .int .i64 (Rm.kn 4), .int .i64 (Rm.kn 5)] 197))
 have l1 := S3.ra.lt
 have l2 := S3.rb.lt
 exact ⟨this, S5.ra, S5.rb, hb.size, by have := hb.size; omega, by omega, by omega⟩
def ycn (th : Bool) (Ra Ro : Rec) : Rec := match th with | true => ⟨Ro.text, Ro.br, Ro.bn, Ro.ch, Ra.kn⟩ | false => Ra
def rsRec (s : Nat) (x : RS) (Ra Ro : Rec) (p : ByteArray) (th : Bool) : Int × RS :=
 if ((yam Ra Ro).2 == 3) = false then (4, x)
 else if (decide (1000000000 ≤ x.cm s) || (decide (0 < (ycn th Ra Ro).bn) && noRoom Ra x.E)) = true then (5, x)
 else (0, ⟨nxG s x.cm, ybn (nxG s x.cm) p (ybm s (x.cm s + 1) Ra Ro (ycn th Ra Ro)) x.E⟩)
def rsR (s : Nat) (x : RS) (s' : Nat) (y : RS) (p : ByteArray) (th : Bool) : Int × RS := rsRec s x (yay s x.cm (yas p x.E)) (yay s' y.cm (yas p y.E)) p th
theorem yng (rb s : Nat) (cm : Nat → Int) (mb : Nat) (E : yat) (rb' s' : Nat) (cm' : Nat → Int) (mb' : Nat) (E' : yat) (w : World) (h : Rg w rb s cm mb E) (h' : Rg w rb' s' cm' mb' E') (hl : E.length < 999999) (p : ByteArray) (hp : p.size ≤ 1000000000000) (Ra Ro Rt Rm : Rec) (e1 : yay s cm (yas p E) = Ra) (e2 : yay s' cm' (yas p E') = Ro) (e3 : yam Ra Ro = (Rt, 3)) (hm : Rm = ⟨Ro.text, Ro.br, Ro.bn, Ro.ch, Ra.kn⟩) (hc : cm s < 1000000000) (ht : ¬ 0 < Rm.bn) :
  Calls Tryz.prog 67 #[.pointer (some ⟨rb, 0, none⟩), .pointer (some ⟨rb', 0, none⟩), .string p, .bool true] w fun e w' => e = .returned (.int .i64 0) ∧ Rg w' rb s (nxG s cm) mb (ybn (nxG s cm) p (ybm s (cm s + 1) Ra Ro Rm) E) ∧ Fr (fun k => k = rb ∨ k = mb) w w' := by
 have C1 := yac (yai rb s cm mb E w h.rep h.own p (by unfold maxLen; omega))
 have C2 : Hid (∀ V, Below w.heap.size w V → Calls Tryz.prog 104 #[.pointer (some ⟨rb', 0, none⟩), .string p] V fun e w' => e = .returned (yae Ro) ∧ Below w.heap.size w w') := fun V hb => by
  have q := h'.below hb
  rw [← e2]
  refine (yai rb' s' cm' mb' E' V q.rep q.own p (by unfold maxLen; omega)).mono ?_
  rintro e w' ⟨rfl, hb'⟩
  exact ⟨rfl, hb.trans (hb'.mono hb.size)⟩
 have o1 := ybf h p
 have o2 := ybf h' p
 rw [e1] at C1 o1
 rw [e2] at o2
 have C3 : Hid (∀ V, Calls Tryz.prog 115 #[yae Ra, yae Ro] V fun e w' => e = .returned (.tuple #[yae Rt, .int .i64 3]) ∧ Below V.heap.size V w') := fun V => by
  have := yct Ra Ro o1.2 o2.2 V
  rw [e3] at this
  exact this
 have om : 0 ≤ Rm.bn ∧ yfv Rm := by rw [hm]; exact o2
 have hc0 := h.c0
 have hs := h.rep.hs
 have hns := ydj s hs cm hc0
 have HR := yac h
 have RV : Hid (∀ w2 w3 o, Below w.heap.size w w2 → R2 w2 w3 Ra Ro → Rv w ((w3.alloc o).alloc (.cells #[.string Ro.text, .int .i64 Ro.br, .int .i64 Ro.bn, .int .i64 (Ro.ch 0), .int .i64 (Ro.ch 1), .int .i64 (Ro.ch 2), .int .i64 (Ro.ch 3), .int .i64 (Ro.ch 4), .int .i64 (Ro.ch 5), .int .i64 (Ra.kn 0), .int .i64 (Ra.kn 1), .int .i64 (Ra.kn 2), .int .i64 (Ra.kn 3), .int .i64 (Ra.kn 4), .int .i64 (Ra.kn 5)] 197)) rb s mb (w3.heap.size + 1) cm E Rm 0 none w2.heap.size Ra (w2.heap.size + 1) Ro) := fun w2 w3 o hb S3 => by
  have := Rv.chosen h hb S3 o Rm
  rw [hm] at this ⊢
  exact this
 have HM := yac hm
 unfold yae at C1 C2 C3
 have KI : Hid (∀ V b eb eo, Sg w V rb s mb b (nxG s cm) E (ybm s (cm s + 1) Ra Ro Rm) eb eo → Calls Tryz.prog 112 #[.pointer (some ⟨rb, 0, none⟩), .string p, .agg #[.string (settled s (cm s + 1) Ra Ro Rm).text, .int .i64 (settled s (cm s + 1) Ra Ro Rm).br, .int .i64 (settled s (cm s + 1) Ra Ro Rm).bn, .int .i64 ((settled s (cm s + 1) Ra Ro Rm).ch 0), .int .i64 ((settled s (cm s + 1) Ra Ro Rm).ch 1), .int .i64 ((settled s (cm s + 1) Ra Ro Rm).ch 2), .int .i64 ((settled s (cm s + 1) Ra Ro Rm).ch 3), .int .i64 ((settled s (cm s + 1) Ra Ro Rm).ch 4), .int .i64 ((settled s (cm s + 1) Ra Ro Rm).ch 5), .int .i64 (yab (settled s (cm s + 1) Ra Ro Rm).kn (yab Ro.kn (tf s (cm s + 1))) 0), .int .i64 (yab (settled s (cm s + 1) Ra Ro Rm).kn (yab Ro.kn (tf s (cm s + 1))) 1), .int .i64 (yab (settled s (cm s + 1) Ra Ro Rm).kn (yab Ro.kn (tf s (cm s + 1))) 2), .int .i64 (yab (settled s (cm s + 1) Ra Ro Rm).kn (yab Ro.kn (tf s (cm s + 1))) 3), .int .i64 (yab (settled s (cm s + 1) Ra Ro Rm).kn (yab Ro.kn (tf s (cm s + 1))) 4), .int .i64 (yab (settled s (cm s + 1) Ra Ro Rm).kn (yab Ro.kn (tf s (cm s + 1))) 5)]] V fun e w' => e = .returned (.tuple #[]) ∧ Rg w' rb s (nxG s cm) mb (ybn (nxG s cm) p (ybm s (cm s + 1) Ra Ro Rm) E) ∧ Fr (fun k => k = rb ∨ k = mb) w w') := fun V b eb eo S => by
  have hw : 0 ≤ (ybm s (cm s + 1) Ra Ro Rm).bn ∧ yfv (ybm s (cm s + 1) Ra Ro Rm) := by
   show 0 ≤ (settled s (cm s + 1) Ra Ro Rm).bn ∧ ∃ r : Nat, r < 6 ∧ (settled s (cm s + 1) Ra Ro Rm).br = r
   unfold settled
   split
   ·exact ⟨by show 0 ≤ cm s + 1; omega, s, hs, rfl⟩
   ·exact ⟨om.1, om.2⟩
  exact S.keepAll h (by show 0 ≤ nxG s cm s; rw [hns]; omega) p hp hw.1 hw.2 hl
 unfold ybm at KI
 have hd : decide (1000000000 ≤ cm s) = false := by simp; omega
 have hd2 : decide (0 < Rm.bn) = false := by simp; omega
 clear h h' e1 e2 e3 o1 o2 om hm hns hl
 clear ht
 go_enter Tryz.func67, Tryz.ntmps67
 go_wp2_with (first
  |(go_at_call_of 104 (Value.pointer (some ⟨rb, 0, none⟩)); refine C1.out.mono ?_; rintro e w1 ⟨rfl, hb1⟩; have B1 := yac hb1; clear hb1)
  |(go_at_call 104; refine (C2.out _ B1.out).mono ?_; rintro e w2 ⟨rfl, hb2⟩; have B2 := yac hb2; have S2 := yac (R2.made w2 Ra Ro); clear hb2)
  |(go_at_call 115; refine (C3.out _).mono ?_; rintro e w3 ⟨rfl, hb3⟩; have S3 := yac (S2.out.more hb3); have S4 := yac (S3.out.more ((Below.refl _ _).alloc (Nat.le_refl _) (.cells #[.string Rt.text, .int .i64 Rt.br, .int .i64 Rt.bn, .int .i64 (Rt.ch 0), .int .i64 (Rt.ch 1), .int .i64 (Rt.ch 2), .int .i64 (Rt.ch 3), .int .i64 (Rt.ch 4), .int .i64 (Rt.ch 5), .int .i64 (Rt.kn 0), .int .i64 (Rt.kn 1), .int .i64 (Rt.kn 2), .int .i64 (Rt.kn 3), .int .i64 (Rt.kn 4), .int .i64 (Rt.kn 5)] 197))); have S5 := yac (S4.out.more ((Below.refl _ _).alloc (Nat.le_refl _) (.cells #[.string Ra.text, .int .i64 Ra.br, .int .i64 Ra.bn, .int .i64 (Ra.ch 0), .int .i64 (Ra.ch 1), .int .i64 (Ra.ch 2), .int .i64 (Ra.ch 3), .int .i64 (Ra.ch 4), .int .i64 (Ra.ch 5), .int .i64 (Ra.kn 0), .int .i64 (Ra.kn 1), .int .i64 (Ra.kn 2), .int .i64 (Ra.kn 3), .int .i64 (Ra.kn 4), .int .i64 (Ra.kn 5)] 197))); obtain ⟨k0, k1, k2, k3, k4, k5, k6, k7, k8, k9, k10, k11, k12, k13, k14⟩ := S4.out.ra.cells; obtain ⟨j0, j1, j2, j3, j4, j5, j6, j7, j8, j9, j10, j11, j12, j13, j14⟩ := S5.out.rb.cells; clear hb3)
  |(go_at_call 105; refine (RV.out w2 w3 _ B2.out S3.out).full.mono ?_; (try clear k0 k1 k2 k3 k4 k5 k6 k7 k8 k9 k10 k11 k12 k13 k14); (try clear j0 j1 j2 j3 j4 j5 j6 j7 j8 j9 j10 j11 j12 j13 j14); rintro e w8 ⟨rfl, hq⟩; have R8 := yac hq; obtain ⟨k0, k1, k2, k3, k4, k5, k6, k7, k8, k9, k10, k11, k12, k13, k14⟩ := R8.out.sg.rc.cells; obtain ⟨j0, j1, j2, j3, j4, j5, j6, j7, j8, j9, j10, j11, j12, j13, j14⟩ := R8.out.r1.cells; clear hq)
  |(go_at_call 113; refine (R8.out.there Rm).mono ?_; (try clear k0 k1 k2 k3 k4 k5 k6 k7 k8 k9 k10 k11 k12 k13 k14); (try clear j0 j1 j2 j3 j4 j5 j6 j7 j8 j9 j10 j11 j12 j13 j14); rintro e w9 ⟨rfl, hq⟩; have R9 := yac hq; obtain ⟨j0, j1, j2, j3, j4, j5, j6, j7, j8, j9, j10, j11, j12, j13, j14⟩ := R9.out.r1.cells; clear hq)
  |(go_at_call 106; refine (R9.out.room HR.out Ra).mono ?_; (try clear k0 k1 k2 k3 k4 k5 k6 k7 k8 k9 k10 k11 k12 k13 k14); (try clear j0 j1 j2 j3 j4 j5 j6 j7 j8 j9 j10 j11 j12 j13 j14); rintro e w10 ⟨rfl, hq⟩; have R10 := yac hq; clear hq)
  |(go_at_call 107; refine (R9.out.next hc0 hc).mono ?_; (try clear k0 k1 k2 k3 k4 k5 k6 k7 k8 k9 k10 k11 k12 k13 k14); (try clear j0 j1 j2 j3 j4 j5 j6 j7 j8 j9 j10 j11 j12 j13 j14); rintro e w11 ⟨rfl, hq⟩; have R11 := yac (hq.alloc_ev (.cells #[.int .i64 s, .int .i64 (cm s + 1)] 191)); obtain ⟨k0, k1, k2, k3, k4, k5, k6, k7, k8, k9, k10, k11, k12, k13, k14⟩ := R11.out.r1.cells; obtain ⟨j0, j1, j2, j3, j4, j5, j6, j7, j8, j9, j10, j11, j12, j13, j14⟩ := R11.out.r2.cells; obtain ⟨v0, v1⟩ := R11.out.evCells; clear hq)
  |(go_at_call 116; refine (R11.out.settle (cm s + 1)).mono ?_; (try clear k0 k1 k2 k3 k4 k5 k6 k7 k8 k9 k10 k11 k12 k13 k14); (try clear j0 j1 j2 j3 j4 j5 j6 j7 j8 j9 j10 j11 j12 j13 j14); (try clear v0 v1); rintro e w12 ⟨rfl, hq⟩; have R12 := yac hq; clear hq))
 generalize hR5 : settled s (cm s + 1) Ra Ro Rm = R5 at *
 go_cut [] (fun wx => Hid (Rv w wx rb s mb (w3.heap.size + 1) (nxG s cm) E ⟨R5.text, R5.br, R5.bn, R5.ch, yab R5.kn (yab Ro.kn (tf s (cm s + 1)))⟩ w11.heap.size (some (.cells #[.int .i64 s, .int .i64 (cm s + 1)] 191)) w2.heap.size Ra (w2.heap.size + 1) Ro))
 case first =>
  have T0 := yac R12.out.drew
  obtain ⟨v0, v1⟩ := R12.out.evCells
  obtain ⟨j0, j1, j2, j3, j4, j5, j6, j7, j8, j9, j10, j11, j12, j13, j14⟩ := R12.out.r2.cells
  go_region_law (first
   |(go_simp; go_at_call 111; with_reducible refine (T0.out.alone (cm s + 1)).mono ?_; (try clear j0 j1 j2 j3 j4 j5 j6 j7 j8 j9 j10 j11 j12 j13 j14); (try clear v0 v1); rintro e w13 ⟨rfl, hq⟩; have T1 := yac hq; obtain ⟨j0, j1, j2, j3, j4, j5, j6, j7, j8, j9, j10, j11, j12, j13, j14⟩ := T1.out.r2.cells; clear hq; dsimp only)
   |(go_simp; go_at_call 110; refine (T1.out.hear2 Ro.kn (tf s (cm s + 1)) 186).mono ?_; (try clear j0 j1 j2 j3 j4 j5 j6 j7 j8 j9 j10 j11 j12 j13 j14); rintro e w14 ⟨rfl, hq⟩; have T2 := yac hq; clear hq; dsimp only))
  all_goals
   go_wp2_with fail
   go_meet
   exact T2
 case rest =>
  obtain ⟨k0, k1, k2, k3, k4, k5, k6, k7, k8, k9, k10, k11, k12, k13, k14⟩ := hcut.out.sg.rc.cells
  go_wp2_with (go_at_call 112; refine (KI.out _ _ _ _ hcut.out.sg).mono ?_; (try clear k0 k1 k2 k3 k4 k5 k6 k7 k8 k9 k10 k11 k12 k13 k14); rintro e w15 ⟨rfl, hq⟩; have Q15 := yac hq; clear hq)
  go_ret
  exact ⟨rfl, by unfold ybm; rw [hR5]; exact Q15.out⟩
theorem yle (rb s : Nat) (cm : Nat → Int) (mb : Nat) (E : yat) (rb' s' : Nat) (cm' : Nat → Int) (mb' : Nat) (E' : yat) (w : World) (h : Rg w rb s cm mb E) (h' : Rg w rb' s' cm' mb' E') (hl : E.length < 999999) (p : ByteArray) (hp : p.size ≤ 1000000000000) (Ra Ro Rt Rm : Rec) (e1 : yay s cm (yas p E) = Ra) (e2 : yay s' cm' (yas p E') = Ro) (e3 : yam Ra Ro = (Rt, 3)) (hm : Rm = Ra) (hc : cm s < 1000000000) (ht : 0 < Rm.bn) (hr : noRoom Ra E = false) :
  Calls Tryz.prog 67 #[.pointer (some ⟨rb, 0, none⟩), .pointer (some ⟨rb', 0, none⟩), .string p, .bool false] w fun e w' => e = .returned (.int .i64 0) ∧ Rg w' rb s (nxG s cm) mb (ybn (nxG s cm) p (ybm s (cm s + 1) Ra Ro Rm) E) ∧ Fr (fun k => k = rb ∨ k = mb) w w' := by
 have C1 := yac (yai rb s cm mb E w h.rep h.own p (by unfold maxLen; omega))
 have C2 : Hid (∀ V, Below w.heap.size w V → Calls Tryz.prog 104 #[.pointer (some ⟨rb', 0, none⟩), .string p] V fun e w' => e = .returned (yae Ro) ∧ Below w.heap.size w w') := fun V hb => by
  have q := h'.below hb
  rw [← e2]
  refine (yai rb' s' cm' mb' E' V q.rep q.own p (by unfold maxLen; omega)).mono ?_
  rintro e w' ⟨rfl, hb'⟩
  exact ⟨rfl, hb.trans (hb'.mono hb.size)⟩
 have o1 := ybf h p
 have o2 := ybf h' p
 rw [e1] at C1 o1
 rw [e2] at o2
 have C3 : Hid (∀ V, Calls Tryz.prog 115 #[yae Ra, yae Ro] V fun e w' => e = .returned (.tuple #[yae Rt, .int .i64 3]) ∧ Below V.heap.size V w') := fun V => by
  have := yct Ra Ro o1.2 o2.2 V
  rw [e3] at this
  exact this
 have om : 0 ≤ Rm.bn ∧ yfv Rm := by rw [hm]; exact o1
 have hc0 := h.c0
 have hs := h.rep.hs
 have hns := ydj s hs cm hc0
 have HR := yac h
 have RV : Hid (∀ w2 w3 o, Below w.heap.size w w2 → R2 w2 w3 Ra Ro → Rv w ((w3.alloc o).alloc (.cells #[.string Ra.text, .int .i64 Ra.br, .int .i64 Ra.bn, .int .i64 (Ra.ch 0), .int .i64 (Ra.ch 1), .int .i64 (Ra.ch 2), .int .i64 (Ra.ch 3), .int .i64 (Ra.ch 4), .int .i64 (Ra.ch 5), .int .i64 (Ra.kn 0), .int .i64 (Ra.kn 1), .int .i64 (Ra.kn 2), .int .i64 (Ra.kn 3), .int .i64 (Ra.kn 4), .int .i64 (Ra.kn 5)] 197)) rb s mb (w3.heap.size + 1) cm E Rm 0 none w2.heap.size Ra (w2.heap.size + 1) Ro) := fun w2 w3 o hb S3 => by
  have := Rv.chosen h hb S3 o Rm
  rw [hm] at this ⊢
  exact this
 have HM := yac hm
 unfold yae at C1 C2 C3
 have KI : Hid (∀ V b eb eo, Sg w V rb s mb b (nxG s cm) E (ybm s (cm s + 1) Ra Ro Rm) eb eo → Calls Tryz.prog 112 #[.pointer (some ⟨rb, 0, none⟩), .string p, .agg #[.string (settled s (cm s + 1) Ra Ro Rm).text, .int .i64 (settled s (cm s + 1) Ra Ro Rm).br, .int .i64 (settled s (cm s + 1) Ra Ro Rm).bn, .int .i64 ((settled s (cm s + 1) Ra Ro Rm).ch 0), .int .i64 ((settled s (cm s + 1) Ra Ro Rm).ch 1), .int .i64 ((settled s (cm s + 1) Ra Ro Rm).ch 2), .int .i64 ((settled s (cm s + 1) Ra Ro Rm).ch 3), .int .i64 ((settled s (cm s + 1) Ra Ro Rm).ch 4), .int .i64 ((settled s (cm s + 1) Ra Ro Rm).ch 5), .int .i64 (yab (settled s (cm s + 1) Ra Ro Rm).kn (yab Ro.kn (tf s (cm s + 1))) 0), .int .i64 (yab (settled s (cm s + 1) Ra Ro Rm).kn (yab Ro.kn (tf s (cm s + 1))) 1), .int .i64 (yab (settled s (cm s + 1) Ra Ro Rm).kn (yab Ro.kn (tf s (cm s + 1))) 2), .int .i64 (yab (settled s (cm s + 1) Ra Ro Rm).kn (yab Ro.kn (tf s (cm s + 1))) 3), .int .i64 (yab (settled s (cm s + 1) Ra Ro Rm).kn (yab Ro.kn (tf s (cm s + 1))) 4), .int .i64 (yab (settled s (cm s + 1) Ra Ro Rm).kn (yab Ro.kn (tf s (cm s + 1))) 5)]] V fun e w' => e = .returned (.tuple #[]) ∧ Rg w' rb s (nxG s cm) mb (ybn (nxG s cm) p (ybm s (cm s + 1) Ra Ro Rm) E) ∧ Fr (fun k => k = rb ∨ k = mb) w w') := fun V b eb eo S => by
  have hw : 0 ≤ (ybm s (cm s + 1) Ra Ro Rm).bn ∧ yfv (ybm s (cm s + 1) Ra Ro Rm) := by
   show 0 ≤ (settled s (cm s + 1) Ra Ro Rm).bn ∧ ∃ r : Nat, r < 6 ∧ (settled s (cm s + 1) Ra Ro Rm).br = r
   unfold settled
   split
   ·exact ⟨by show 0 ≤ cm s + 1; omega, s, hs, rfl⟩
   ·exact ⟨om.1, om.2⟩
  exact S.keepAll h (by show 0 ≤ nxG s cm s; rw [hns]; omega) p hp hw.1 hw.2 hl
 unfold ybm at KI
 have hd : decide (1000000000 ≤ cm s) = false := by simp; omega
 have hd2 : decide (0 < Rm.bn) = true := by simp; omega
 clear h h' e1 e2 e3 o1 o2 om hm hns hl
 clear ht
 go_enter Tryz.func67, Tryz.ntmps67
 go_wp2_with (first
  |(go_at_call_of 104 (Value.pointer (some ⟨rb, 0, none⟩)); refine C1.out.mono ?_; rintro e w1 ⟨rfl, hb1⟩; have B1 := yac hb1; clear hb1)
  |(go_at_call 104; refine (C2.out _ B1.out).mono ?_; rintro e w2 ⟨rfl, hb2⟩; have B2 := yac hb2; have S2 := yac (R2.made w2 Ra Ro); clear hb2)
  |(go_at_call 115; refine (C3.out _).mono ?_; rintro e w3 ⟨rfl, hb3⟩; have S3 := yac (S2.out.more hb3); have S4 := yac (S3.out.more ((Below.refl _ _).alloc (Nat.le_refl _) (.cells #[.string Rt.text, .int .i64 Rt.br, .int .i64 Rt.bn, .int .i64 (Rt.ch 0), .int .i64 (Rt.ch 1), .int .i64 (Rt.ch 2), .int .i64 (Rt.ch 3), .int .i64 (Rt.ch 4), .int .i64 (Rt.ch 5), .int .i64 (Rt.kn 0), .int .i64 (Rt.kn 1), .int .i64 (Rt.kn 2), .int .i64 (Rt.kn 3), .int .i64 (Rt.kn 4), .int .i64 (Rt.kn 5)] 197))); have S5 := yac (S4.out.more ((Below.refl _ _).alloc (Nat.le_refl _) (.cells #[.string Ra.text, .int .i64 Ra.br, .int .i64 Ra.bn, .int .i64 (Ra.ch 0), .int .i64 (Ra.ch 1), .int .i64 (Ra.ch 2), .int .i64 (Ra.ch 3), .int .i64 (Ra.ch 4), .int .i64 (Ra.ch 5), .int .i64 (Ra.kn 0), .int .i64 (Ra.kn 1), .int .i64 (Ra.kn 2), .int .i64 (Ra.kn 3), .int .i64 (Ra.kn 4), .int .i64 (Ra.kn 5)] 197))); obtain ⟨k0, k1, k2, k3, k4, k5, k6, k7, k8, k9, k10, k11, k12, k13, k14⟩ := S4.out.ra.cells; obtain ⟨j0, j1, j2, j3, j4, j5, j6, j7, j8, j9, j10, j11, j12, j13, j14⟩ := S5.out.rb.cells; clear hb3)
  |(go_at_call 105; refine (RV.out w2 w3 _ B2.out S3.out).full.mono ?_; (try clear k0 k1 k2 k3 k4 k5 k6 k7 k8 k9 k10 k11 k12 k13 k14); (try clear j0 j1 j2 j3 j4 j5 j6 j7 j8 j9 j10 j11 j12 j13 j14); rintro e w8 ⟨rfl, hq⟩; have R8 := yac hq; obtain ⟨k0, k1, k2, k3, k4, k5, k6, k7, k8, k9, k10, k11, k12, k13, k14⟩ := R8.out.sg.rc.cells; obtain ⟨j0, j1, j2, j3, j4, j5, j6, j7, j8, j9, j10, j11, j12, j13, j14⟩ := R8.out.r1.cells; clear hq)
  |(go_at_call 113; refine (R8.out.there Rm).mono ?_; (try clear k0 k1 k2 k3 k4 k5 k6 k7 k8 k9 k10 k11 k12 k13 k14); (try clear j0 j1 j2 j3 j4 j5 j6 j7 j8 j9 j10 j11 j12 j13 j14); rintro e w9 ⟨rfl, hq⟩; have R9 := yac hq; obtain ⟨j0, j1, j2, j3, j4, j5, j6, j7, j8, j9, j10, j11, j12, j13, j14⟩ := R9.out.r1.cells; clear hq)
  |(go_at_call 106; refine (R9.out.room HR.out Ra).mono ?_; (try clear k0 k1 k2 k3 k4 k5 k6 k7 k8 k9 k10 k11 k12 k13 k14); (try clear j0 j1 j2 j3 j4 j5 j6 j7 j8 j9 j10 j11 j12 j13 j14); rintro e w10 ⟨rfl, hq⟩; have R10 := yac hq; clear hq)
  |(go_at_call 107; refine (R10.out.next hc0 hc).mono ?_; (try clear k0 k1 k2 k3 k4 k5 k6 k7 k8 k9 k10 k11 k12 k13 k14); (try clear j0 j1 j2 j3 j4 j5 j6 j7 j8 j9 j10 j11 j12 j13 j14); rintro e w11 ⟨rfl, hq⟩; have R11 := yac (hq.alloc_ev (.cells #[.int .i64 s, .int .i64 (cm s + 1)] 191)); obtain ⟨k0, k1, k2, k3, k4, k5, k6, k7, k8, k9, k10, k11, k12, k13, k14⟩ := R11.out.r1.cells; obtain ⟨j0, j1, j2, j3, j4, j5, j6, j7, j8, j9, j10, j11, j12, j13, j14⟩ := R11.out.r2.cells; obtain ⟨v0, v1⟩ := R11.out.evCells; clear hq)
  |(go_at_call 116; refine (R11.out.settle (cm s + 1)).mono ?_; (try clear k0 k1 k2 k3 k4 k5 k6 k7 k8 k9 k10 k11 k12 k13 k14); (try clear j0 j1 j2 j3 j4 j5 j6 j7 j8 j9 j10 j11 j12 j13 j14); (try clear v0 v1); rintro e w12 ⟨rfl, hq⟩; have R12 := yac hq; clear hq))
 generalize hR5 : settled s (cm s + 1) Ra Ro Rm = R5 at *
 go_cut [] (fun wx => Hid (Rv w wx rb s mb (w3.heap.size + 1) (nxG s cm) E ⟨R5.text, R5.br, R5.bn, R5.ch, yab R5.kn (yab Ro.kn (tf s (cm s + 1)))⟩ w11.heap.size (some (.cells #[.int .i64 s, .int .i64 (cm s + 1)] 191)) w2.heap.size Ra (w2.heap.size + 1) Ro))
 case first =>
  have T0 := yac R12.out.drew
  obtain ⟨v0, v1⟩ := R12.out.evCells
  obtain ⟨j0, j1, j2, j3, j4, j5, j6, j7, j8, j9, j10, j11, j12, j13, j14⟩ := R12.out.r2.cells
  go_region_law (first
   |(go_simp; go_at_call 111; with_reducible refine (T0.out.alone (cm s + 1)).mono ?_; (try clear j0 j1 j2 j3 j4 j5 j6 j7 j8 j9 j10 j11 j12 j13 j14); (try clear v0 v1); rintro e w13 ⟨rfl, hq⟩; have T1 := yac hq; obtain ⟨j0, j1, j2, j3, j4, j5, j6, j7, j8, j9, j10, j11, j12, j13, j14⟩ := T1.out.r2.cells; clear hq; dsimp only)
   |(go_simp; go_at_call 110; refine (T1.out.hear2 Ro.kn (tf s (cm s + 1)) 186).mono ?_; (try clear j0 j1 j2 j3 j4 j5 j6 j7 j8 j9 j10 j11 j12 j13 j14); rintro e w14 ⟨rfl, hq⟩; have T2 := yac hq; clear hq; dsimp only))
  all_goals
   go_wp2_with fail
   go_meet
   exact T2
 case rest =>
  obtain ⟨k0, k1, k2, k3, k4, k5, k6, k7, k8, k9, k10, k11, k12, k13, k14⟩ := hcut.out.sg.rc.cells
  go_wp2_with (go_at_call 112; refine (KI.out _ _ _ _ hcut.out.sg).mono ?_; (try clear k0 k1 k2 k3 k4 k5 k6 k7 k8 k9 k10 k11 k12 k13 k14); rintro e w15 ⟨rfl, hq⟩; have Q15 := yac hq; clear hq)
  go_ret
  exact ⟨rfl, by unfold ybm; rw [hR5]; exact Q15.out⟩
theorem ynf (rb s : Nat) (cm : Nat → Int) (mb : Nat) (E : yat) (rb' s' : Nat) (cm' : Nat → Int) (mb' : Nat) (E' : yat) (w : World) (h : Rg w rb s cm mb E) (h' : Rg w rb' s' cm' mb' E') (hl : E.length < 999999) (p : ByteArray) (hp : p.size ≤ 1000000000000) (Ra Ro Rt Rm : Rec) (e1 : yay s cm (yas p E) = Ra) (e2 : yay s' cm' (yas p E') = Ro) (e3 : yam Ra Ro = (Rt, 3)) (hm : Rm = Ra) (hc : cm s < 1000000000) (ht : ¬ 0 < Rm.bn) :
  Calls Tryz.prog 67 #[.pointer (some ⟨rb, 0, none⟩), .pointer (some ⟨rb', 0, none⟩), .string p, .bool false] w fun e w' => e = .returned (.int .i64 0) ∧ Rg w' rb s (nxG s cm) mb (ybn (nxG s cm) p (ybm s (cm s + 1) Ra Ro Rm) E) ∧ Fr (fun k => k = rb ∨ k = mb) w w' := by
 have C1 := yac (yai rb s cm mb E w h.rep h.own p (by unfold maxLen; omega))
 have C2 : Hid (∀ V, Below w.heap.size w V → Calls Tryz.prog 104 #[.pointer (some ⟨rb', 0, none⟩), .string p] V fun e w' => e = .returned (yae Ro) ∧ Below w.heap.size w w') := fun V hb => by
  have q := h'.below hb
  rw [← e2]
  refine (yai rb' s' cm' mb' E' V q.rep q.own p (by unfold maxLen; omega)).mono ?_
  rintro e w' ⟨rfl, hb'⟩
  exact ⟨rfl, hb.trans (hb'.mono hb.size)⟩
 have o1 := ybf h p
 have o2 := ybf h' p
 rw [e1] at C1 o1
 rw [e2] at o2
 have C3 : Hid (∀ V, Calls Tryz.prog 115 #[yae Ra, yae Ro] V fun e w' => e = .returned (.tuple #[yae Rt, .int .i64 3]) ∧ Below V.heap.size V w') := fun V => by
  have := yct Ra Ro o1.2 o2.2 V
  rw [e3] at this
  exact this
 have om : 0 ≤ Rm.bn ∧ yfv Rm := by rw [hm]; exact o1
 have hc0 := h.c0
 have hs := h.rep.hs
 have hns := ydj s hs cm hc0
 have HR := yac h
 have RV : Hid (∀ w2 w3 o, Below w.heap.size w w2 → R2 w2 w3 Ra Ro → Rv w ((w3.alloc o).alloc (.cells #[.string Ra.text, .int .i64 Ra.br, .int .i64 Ra.bn, .int .i64 (Ra.ch 0), .int .i64 (Ra.ch 1), .int .i64 (Ra.ch 2), .int .i64 (Ra.ch 3), .int .i64 (Ra.ch 4), .int .i64 (Ra.ch 5), .int .i64 (Ra.kn 0), .int .i64 (Ra.kn 1), .int .i64 (Ra.kn 2), .int .i64 (Ra.kn 3), .int .i64 (Ra.kn 4), .int .i64 (Ra.kn 5)] 197)) rb s mb (w3.heap.size + 1) cm E Rm 0 none w2.heap.size Ra (w2.heap.size + 1) Ro) := fun w2 w3 o hb S3 => by
  have := Rv.chosen h hb S3 o Rm
  rw [hm] at this ⊢
  exact this
 have HM := yac hm
 unfold yae at C1 C2 C3
 have KI : Hid (∀ V b eb eo, Sg w V rb s mb b (nxG s cm) E (ybm s (cm s + 1) Ra Ro Rm) eb eo → Calls Tryz.prog 112 #[.pointer (some ⟨rb, 0, none⟩), .string p, .agg #[.string (settled s (cm s + 1) Ra Ro Rm).text, .int .i64 (settled s (cm s + 1) Ra Ro Rm).br, .int .i64 (settled s (cm s + 1) Ra Ro Rm).bn, .int .i64 ((settled s (cm s + 1) Ra Ro Rm).ch 0), .int .i64 ((settled s (cm s + 1) Ra Ro Rm).ch 1), .int .i64 ((settled s (cm s + 1) Ra Ro Rm).ch 2), .int .i64 ((settled s (cm s + 1) Ra Ro Rm).ch 3), .int .i64 ((settled s (cm s + 1) Ra Ro Rm).ch 4), .int .i64 ((settled s (cm s + 1) Ra Ro Rm).ch 5), .int .i64 (yab (settled s (cm s + 1) Ra Ro Rm).kn (yab Ro.kn (tf s (cm s + 1))) 0), .int .i64 (yab (settled s (cm s + 1) Ra Ro Rm).kn (yab Ro.kn (tf s (cm s + 1))) 1), .int .i64 (yab (settled s (cm s + 1) Ra Ro Rm).kn (yab Ro.kn (tf s (cm s + 1))) 2), .int .i64 (yab (settled s (cm s + 1) Ra Ro Rm).kn (yab Ro.kn (tf s (cm s + 1))) 3), .int .i64 (yab (settled s (cm s + 1) Ra Ro Rm).kn (yab Ro.kn (tf s (cm s + 1))) 4), .int .i64 (yab (settled s (cm s + 1) Ra Ro Rm).kn (yab Ro.kn (tf s (cm s + 1))) 5)]] V fun e w' => e = .returned (.tuple #[]) ∧ Rg w' rb s (nxG s cm) mb (ybn (nxG s cm) p (ybm s (cm s + 1) Ra Ro Rm) E) ∧ Fr (fun k => k = rb ∨ k = mb) w w') := fun V b eb eo S => by
  have hw : 0 ≤ (ybm s (cm s + 1) Ra Ro Rm).bn ∧ yfv (ybm s (cm s + 1) Ra Ro Rm) := by
   show 0 ≤ (settled s (cm s + 1) Ra Ro Rm).bn ∧ ∃ r : Nat, r < 6 ∧ (settled s (cm s + 1) Ra Ro Rm).br = r
   unfold settled
   split
   ·exact ⟨by show 0 ≤ cm s + 1; omega, s, hs, rfl⟩
   ·exact ⟨om.1, om.2⟩
  exact S.keepAll h (by show 0 ≤ nxG s cm s; rw [hns]; omega) p hp hw.1 hw.2 hl
 unfold ybm at KI
 have hd : decide (1000000000 ≤ cm s) = false := by simp; omega
 have hd2 : decide (0 < Rm.bn) = false := by simp; omega
 clear h h' e1 e2 e3 o1 o2 om hm hns hl
 clear ht
 go_enter Tryz.func67, Tryz.ntmps67
 go_wp2_with (first
  |(go_at_call_of 104 (Value.pointer (some ⟨rb, 0, none⟩)); refine C1.out.mono ?_; rintro e w1 ⟨rfl, hb1⟩; have B1 := yac hb1; clear hb1)
  |(go_at_call 104; refine (C2.out _ B1.out).mono ?_; rintro e w2 ⟨rfl, hb2⟩; have B2 := yac hb2; have S2 := yac (R2.made w2 Ra Ro); clear hb2)
  |(go_at_call 115; refine (C3.out _).mono ?_; rintro e w3 ⟨rfl, hb3⟩; have S3 := yac (S2.out.more hb3); have S4 := yac (S3.out.more ((Below.refl _ _).alloc (Nat.le_refl _) (.cells #[.string Rt.text, .int .i64 Rt.br, .int .i64 Rt.bn, .int .i64 (Rt.ch 0), .int .i64 (Rt.ch 1), .int .i64 (Rt.ch 2), .int .i64 (Rt.ch 3), .int .i64 (Rt.ch 4), .int .i64 (Rt.ch 5), .int .i64 (Rt.kn 0), .int .i64 (Rt.kn 1), .int .i64 (Rt.kn 2), .int .i64 (Rt.kn 3), .int .i64 (Rt.kn 4), .int .i64 (Rt.kn 5)] 197))); have S5 := yac (S4.out.more ((Below.refl _ _).alloc (Nat.le_refl _) (.cells #[.string Ra.text, .int .i64 Ra.br, .int .i64 Ra.bn, .int .i64 (Ra.ch 0), .int .i64 (Ra.ch 1), .int .i64 (Ra.ch 2), .int .i64 (Ra.ch 3), .int .i64 (Ra.ch 4), .int .i64 (Ra.ch 5), .int .i64 (Ra.kn 0), .int .i64 (Ra.kn 1), .int .i64 (Ra.kn 2), .int .i64 (Ra.kn 3), .int .i64 (Ra.kn 4), .int .i64 (Ra.kn 5)] 197))); obtain ⟨k0, k1, k2, k3, k4, k5, k6, k7, k8, k9, k10, k11, k12, k13, k14⟩ := S4.out.ra.cells; obtain ⟨j0, j1, j2, j3, j4, j5, j6, j7, j8, j9, j10, j11, j12, j13, j14⟩ := S5.out.rb.cells; clear hb3)
  |(go_at_call 105; refine (RV.out w2 w3 _ B2.out S3.out).full.mono ?_; (try clear k0 k1 k2 k3 k4 k5 k6 k7 k8 k9 k10 k11 k12 k13 k14); (try clear j0 j1 j2 j3 j4 j5 j6 j7 j8 j9 j10 j11 j12 j13 j14); rintro e w8 ⟨rfl, hq⟩; have R8 := yac hq; obtain ⟨k0, k1, k2, k3, k4, k5, k6, k7, k8, k9, k10, k11, k12, k13, k14⟩ := R8.out.sg.rc.cells; obtain ⟨j0, j1, j2, j3, j4, j5, j6, j7, j8, j9, j10, j11, j12, j13, j14⟩ := R8.out.r1.cells; clear hq)
  |(go_at_call 113; refine (R8.out.there Rm).mono ?_; (try clear k0 k1 k2 k3 k4 k5 k6 k7 k8 k9 k10 k11 k12 k13 k14); (try clear j0 j1 j2 j3 j4 j5 j6 j7 j8 j9 j10 j11 j12 j13 j14); rintro e w9 ⟨rfl, hq⟩; have R9 := yac hq; obtain ⟨j0, j1, j2, j3, j4, j5, j6, j7, j8, j9, j10, j11, j12, j13, j14⟩ := R9.out.r1.cells; clear hq)
  |(go_at_call 106; refine (R9.out.room HR.out Ra).mono ?_; (try clear k0 k1 k2 k3 k4 k5 k6 k7 k8 k9 k10 k11 k12 k13 k14); (try clear j0 j1 j2 j3 j4 j5 j6 j7 j8 j9 j10 j11 j12 j13 j14); rintro e w10 ⟨rfl, hq⟩; have R10 := yac hq; clear hq)
  |(go_at_call 107; refine (R9.out.next hc0 hc).mono ?_; (try clear k0 k1 k2 k3 k4 k5 k6 k7 k8 k9 k10 k11 k12 k13 k14); (try clear j0 j1 j2 j3 j4 j5 j6 j7 j8 j9 j10 j11 j12 j13 j14); rintro e w11 ⟨rfl, hq⟩; have R11 := yac (hq.alloc_ev (.cells #[.int .i64 s, .int .i64 (cm s + 1)] 191)); obtain ⟨k0, k1, k2, k3, k4, k5, k6, k7, k8, k9, k10, k11, k12, k13, k14⟩ := R11.out.r1.cells; obtain ⟨j0, j1, j2, j3, j4, j5, j6, j7, j8, j9, j10, j11, j12, j13, j14⟩ := R11.out.r2.cells; obtain ⟨v0, v1⟩ := R11.out.evCells; clear hq)
  |(go_at_call 116; refine (R11.out.settle (cm s + 1)).mono ?_; (try clear k0 k1 k2 k3 k4 k5 k6 k7 k8 k9 k10 k11 k12 k13 k14); (try clear j0 j1 j2 j3 j4 j5 j6 j7 j8 j9 j10 j11 j12 j13 j14); (try clear v0 v1); rintro e w12 ⟨rfl, hq⟩; have R12 := yac hq; clear hq))
 generalize hR5 : settled s (cm s + 1) Ra Ro Rm = R5 at *
 go_cut [] (fun wx => Hid (Rv w wx rb s mb (w3.heap.size + 1) (nxG s cm) E ⟨R5.text, R5.br, R5.bn, R5.ch, yab R5.kn (yab Ro.kn (tf s (cm s + 1)))⟩ w11.heap.size (some (.cells #[.int .i64 s, .int .i64 (cm s + 1)] 191)) w2.heap.size Ra (w2.heap.size + 1) Ro))
 case first =>
  have T0 := yac R12.out.drew
  obtain ⟨v0, v1⟩ := R12.out.evCells
  obtain ⟨j0, j1, j2, j3, j4, j5, j6, j7, j8, j9, j10, j11, j12, j13, j14⟩ := R12.out.r2.cells
  go_region_law (first
   |(go_simp; go_at_call 111; with_reducible refine (T0.out.alone (cm s + 1)).mono ?_; (try clear j0 j1 j2 j3 j4 j5 j6 j7 j8 j9 j10 j11 j12 j13 j14); (try clear v0 v1); rintro e w13 ⟨rfl, hq⟩; have T1 := yac hq; obtain ⟨j0, j1, j2, j3, j4, j5, j6, j7, j8, j9, j10, j11, j12, j13, j14⟩ := T1.out.r2.cells; clear hq; dsimp only)
   |(go_simp; go_at_call 110; refine (T1.out.hear2 Ro.kn (tf s (cm s + 1)) 186).mono ?_; (try clear j0 j1 j2 j3 j4 j5 j6 j7 j8 j9 j10 j11 j12 j13 j14); rintro e w14 ⟨rfl, hq⟩; have T2 := yac hq; clear hq; dsimp only))
  all_goals
   go_wp2_with fail
   go_meet
   exact T2
 case rest =>
  obtain ⟨k0, k1, k2, k3, k4, k5, k6, k7, k8, k9, k10, k11, k12, k13, k14⟩ := hcut.out.sg.rc.cells
  go_wp2_with (go_at_call 112; refine (KI.out _ _ _ _ hcut.out.sg).mono ?_; (try clear k0 k1 k2 k3 k4 k5 k6 k7 k8 k9 k10 k11 k12 k13 k14); rintro e w15 ⟨rfl, hq⟩; have Q15 := yac hq; clear hq)
  go_ret
  exact ⟨rfl, by unfold ybm; rw [hR5]; exact Q15.out⟩
end Go.Proofs.YtaelaldmibgibaaGreatDoor
