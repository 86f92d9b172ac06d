/- A replica of the program's: PullPath. -/
import Derived.Deep.DeepCutAuto
import Derived.Test.YtaelaldmibgibaaGreatDoorX39

set_option linter.all false
set_option maxHeartbeats 4000000
set_option maxRecDepth 100000

namespace Go.Proofs.K
open Go.RowKit Go.Maps
attribute [local go_sem ↓] ymd
attribute [local go_sem] yeu
theorem rpull_ok (rb s : Nat) (cm : Nat → Int) (mb : Nat) (E : yau) (rb' s' : Nat) (cm' : Nat → Int) (mb' : Nat) (E' : yau) (w : World) (h : Rg w rb s cm mb E) (h' : Rg w rb' s' cm' mb' E') (hl : E.length < 999999) (p : ByteArray) (hp : p.size ≤ 1000000000000) (R1 R2 R3 : Rec) (z : Int) (e1 : ybk s cm (ybh p E) = R1) (e2 : ybk s' cm' (ybh p E') = R2) (e3 : ydk R1 R2 = (R3, z)) (hr : noRoom R1 E = false) :
  Calls Tryz.prog 66 #[.pointer (some ⟨rb, 0, none⟩), .pointer (some ⟨rb', 0, none⟩), .string p] w fun e w' => e = .returned (.tuple #[.int .i64 z, .int .i64 0]) ∧ Rg w' rb s cm mb (yce cm p R3 E) ∧ Fr (fun k => k = rb ∨ k = mb) w w' := by
 have C1 := yab (yaz rb s cm mb E w h.rep h.own p (by unfold maxLen; omega))
 have C2 : Hid (∀ V, Below w.heap.size w V → Calls Tryz.prog 104 #[.pointer (some ⟨rb', 0, none⟩), .string p] V fun e w' => e = .returned (yad R2) ∧ Below V.heap.size V w') := fun V hb => by
  have q := h'.below hb
  rw [← e2]
  exact yaz rb' s' cm' mb' E' V q.rep q.own p (by unfold maxLen; omega)
 have o1 := yif h p
 have o2 := yif h' p
 rw [e1] at C1 o1
 rw [e2] at o2
 have C3 : Hid (∀ V, Calls Tryz.prog 115 #[yad R1, yad R2] V fun e w' => e = .returned (.tuple #[yad R3, .int .i64 z]) ∧ Below V.heap.size V w') := fun V => by
  have := yoi R1 R2 o1.2 o2.2 V
  rw [e3] at this
  exact this
 have o3 := pullR_ok R1 R2 o1.1 o1.2 o2.1 o2.2
 rw [e3] at o3
 have RM : Hid (∀ V, Below w.heap.size w V → Calls Tryz.prog 106 #[.pointer (some ⟨rb, 0, none⟩), yad R1] V fun e w' => e = .returned (.bool (noRoom R1 E)) ∧ Below V.heap.size V w') := fun V hb => room_any rb s cm mb E V (h.below hb) R1
 rw [hr] at RM
 have KE : Hid (∀ V, Below w.heap.size w V → Calls Tryz.prog 112 #[.pointer (some ⟨rb, 0, none⟩), .string p, yad R3] V fun e w' => e = .returned (.tuple #[]) ∧ Rg w' rb s cm mb (yce cm p R3 E) ∧ Fr (fun k => k = rb ∨ k = mb) w w') := fun V hb => by
  have q := h.below hb
  refine (ypf rb s cm mb E V q.rep q.own q.ris (by have := q.len; unfold maxLen; omega) p hp R3 o3.1).mono ?_
  rintro e w' ⟨rfl, hr, ho, hf⟩
  refine ⟨rfl, ⟨hr, ho, yco cm p R3 E h.ris, fun x hx => ?_, by have := ylo cm p R3 E; omega, h.c0⟩, (Fr.of_below hb).trans (hf.mono (fun k _ e => .inr e))⟩
  rcases yjg hx with rfl | hx
  ·exact o3
  ·exact h.bn x hx
 unfold yad at RM KE
 clear hr
 unfold yad at C1 C2 C3
 clear h h' e1 e2 e3 o1 o2 o3 hl
 have TH := there0
 go_enter Tryz.func66, Tryz.ntmps66
 go_wp2_with (go_at_call 104; refine C1.out.mono ?_; rintro e w1 ⟨rfl, hb1⟩; have S0 := yab ((Pp.zero hb1).set R1); clear hb1)
 generalize (w1.alloc (.cells #[.string ⟨#[]⟩, .int .i64 0, .int .i64 0, .int .i64 0, .int .i64 0, .int .i64 0, .int .i64 0, .int .i64 0, .int .i64 0, .int .i64 0, .int .i64 0, .int .i64 0, .int .i64 0, .int .i64 0, .int .i64 0] 197)).setCells w1.heap.size 0 [.string R1.text, .int .i64 R1.br, .int .i64 R1.bn, .int .i64 (R1.ch 0), .int .i64 (R1.ch 1), .int .i64 (R1.ch 2), .int .i64 (R1.ch 3), .int .i64 (R1.ch 4), .int .i64 (R1.ch 5), .int .i64 (R1.kn 0), .int .i64 (R1.kn 1), .int .i64 (R1.kn 2), .int .i64 (R1.kn 3), .int .i64 (R1.kn 4), .int .i64 (R1.kn 5)] = V1 at S0 ⊢
 go_cut [9, 10] (fun s9 s10 wx => ∃ b9, s9 = .pointer (some ⟨b9, 0, none⟩) ∧ s10 = .int .i64 z ∧ Hid (Pp w wx b9 R3) ∧ Hid (Pp w wx w1.heap.size R1))
 case first =>
  have S1 := yab S0.out.drew
  have A1 := yab (S0.out.more ((Below.refl _ _).alloc (Nat.le_refl _) (.cells #[.string ⟨#[]⟩, .int .i64 0, .int .i64 0, .int .i64 0, .int .i64 0, .int .i64 0, .int .i64 0, .int .i64 0, .int .i64 0, .int .i64 0, .int .i64 0, .int .i64 0, .int .i64 0, .int .i64 0, .int .i64 0] 197))).drew
  have Z1 := yab (Pp.zero S0.out.bel).drew
  have hne : w1.heap.size ≠ V1.heap.size := by have := S0.out.rc.lt; omega
  obtain ⟨k0, k1, k2, k3, k4, k5, k6, k7, k8, k9, k10, k11, k12, k13, k14⟩ := S0.out.rc.cells
  obtain ⟨j0, j1, j2, j3, j4, j5, j6, j7, j8, j9, j10, j11, j12, j13, j14⟩ := (S0.out.more ((Below.refl _ _).alloc (Nat.le_refl _) (.cells #[.string ⟨#[]⟩, .int .i64 0, .int .i64 0, .int .i64 0, .int .i64 0, .int .i64 0, .int .i64 0, .int .i64 0, .int .i64 0, .int .i64 0, .int .i64 0, .int .i64 0, .int .i64 0, .int .i64 0, .int .i64 0] 197))).rc.cells
  go_region_law (first
   |(go_simp; go_at_call 104; first
     |(with_reducible refine (C2.out _ S1.out.bel).mono ?_; (try clear k0 k1 k2 k3 k4 k5 k6 k7 k8 k9 k10 k11 k12 k13 k14 j0 j1 j2 j3 j4 j5 j6 j7 j8 j9 j10 j11 j12 j13 j14); rintro e w2 ⟨rfl, hb2⟩; have S2 := yab (S1.out.more hb2); have hne2 := Nat.ne_of_lt S2.out.rc.lt; have A2 := yab (S2.out.more ((Below.refl _ _).alloc (Nat.le_refl _) (.cells #[.string ⟨#[]⟩, .int .i64 0, .int .i64 0, .int .i64 0, .int .i64 0, .int .i64 0, .int .i64 0, .int .i64 0, .int .i64 0, .int .i64 0, .int .i64 0, .int .i64 0, .int .i64 0, .int .i64 0, .int .i64 0] 197))); have Z2 := yab (Pp.zero S2.out.bel); obtain ⟨k0, k1, k2, k3, k4, k5, k6, k7, k8, k9, k10, k11, k12, k13, k14⟩ := S2.out.rc.cells; obtain ⟨j0, j1, j2, j3, j4, j5, j6, j7, j8, j9, j10, j11, j12, j13, j14⟩ := A2.out.rc.cells; clear hb2; dsimp only)
     |(with_reducible refine (C2.out _ A1.out.bel).mono ?_; (try clear k0 k1 k2 k3 k4 k5 k6 k7 k8 k9 k10 k11 k12 k13 k14 j0 j1 j2 j3 j4 j5 j6 j7 j8 j9 j10 j11 j12 j13 j14); rintro e w2 ⟨rfl, hb2⟩; have A2 := yab (A1.out.more hb2); have Z2 := yab (Z1.out.more hb2); obtain ⟨k0, k1, k2, k3, k4, k5, k6, k7, k8, k9, k10, k11, k12, k13, k14⟩ := A2.out.rc.cells; have th2 := Z2.out.rc.there; clear hb2; dsimp only))
   |(go_simp; go_at_call 115; refine (C3.out _).mono ?_; (try clear k0 k1 k2 k3 k4 k5 k6 k7 k8 k9 k10 k11 k12 k13 k14 j0 j1 j2 j3 j4 j5 j6 j7 j8 j9 j10 j11 j12 j13 j14); rintro e w3 ⟨rfl, hb3⟩; first
     |(with_reducible have A3 := yab (A2.out.more hb3); have Z3 := yab (Z2.out.more hb3); have th3 := Z3.out.rc.there; have S4 := yab (Z3.out.set R3); have B4 := yab (A3.out.other Z3.out.ge (by first | exact hne | (have := S2.out.rc.lt; omega)) _ : Pp w (w3.setCells _ 0 [.string R3.text, .int .i64 R3.br, .int .i64 R3.bn, .int .i64 (R3.ch 0), .int .i64 (R3.ch 1), .int .i64 (R3.ch 2), .int .i64 (R3.ch 3), .int .i64 (R3.ch 4), .int .i64 (R3.ch 5), .int .i64 (R3.kn 0), .int .i64 (R3.kn 1), .int .i64 (R3.kn 2), .int .i64 (R3.kn 3), .int .i64 (R3.kn 4), .int .i64 (R3.kn 5)]) _ R1); obtain ⟨k0, k1, k2, k3, k4, k5, k6, k7, k8, k9, k10, k11, k12, k13, k14⟩ := B4.out.rc.cells; obtain ⟨j0, j1, j2, j3, j4, j5, j6, j7, j8, j9, j10, j11, j12, j13, j14⟩ := S4.out.rc.cells; clear hb3; dsimp only)
     |(with_reducible have S3 := yab (S2.out.more hb3); have Z3 := yab (Pp.zero S3.out.bel); have S4 := yab (Z3.out.set R3); have B4 := yab ((S3.out.more ((Below.refl _ _).alloc (Nat.le_refl _) (.cells #[.string ⟨#[]⟩, .int .i64 0, .int .i64 0, .int .i64 0, .int .i64 0, .int .i64 0, .int .i64 0, .int .i64 0, .int .i64 0, .int .i64 0, .int .i64 0, .int .i64 0, .int .i64 0, .int .i64 0, .int .i64 0] 197))).other Z3.out.ge (by have := S3.out.rc.lt; omega) _ : Pp w ((w3.alloc (.cells #[.string ⟨#[]⟩, .int .i64 0, .int .i64 0, .int .i64 0, .int .i64 0, .int .i64 0, .int .i64 0, .int .i64 0, .int .i64 0, .int .i64 0, .int .i64 0, .int .i64 0, .int .i64 0, .int .i64 0, .int .i64 0] 197)).setCells _ 0 [.string R3.text, .int .i64 R3.br, .int .i64 R3.bn, .int .i64 (R3.ch 0), .int .i64 (R3.ch 1), .int .i64 (R3.ch 2), .int .i64 (R3.ch 3), .int .i64 (R3.ch 4), .int .i64 (R3.ch 5), .int .i64 (R3.kn 0), .int .i64 (R3.kn 1), .int .i64 (R3.kn 2), .int .i64 (R3.kn 3), .int .i64 (R3.kn 4), .int .i64 (R3.kn 5)]) _ R1); obtain ⟨k0, k1, k2, k3, k4, k5, k6, k7, k8, k9, k10, k11, k12, k13, k14⟩ := B4.out.rc.cells; obtain ⟨j0, j1, j2, j3, j4, j5, j6, j7, j8, j9, j10, j11, j12, j13, j14⟩ := S4.out.rc.cells; clear hb3; dsimp only)))
  all_goals
   go_wp2_with fail
   go_meet
   exact ⟨_, rfl, rfl, S4, B4⟩
 case rest =>
  obtain ⟨b9, rfl, rfl, S4, B4⟩ := hcut
  obtain ⟨k0, k1, k2, k3, k4, k5, k6, k7, k8, k9, k10, k11, k12, k13, k14⟩ := B4.out.rc.cells
  obtain ⟨j0, j1, j2, j3, j4, j5, j6, j7, j8, j9, j10, j11, j12, j13, j14⟩ := S4.out.rc.cells
  cases hz1 : (z == 1)
  all_goals
   go_wp2_with (first
    |(go_at_call 106; with_reducible refine (RM.out _ S4.out.bel).mono ?_; (try clear k0 k1 k2 k3 k4 k5 k6 k7 k8 k9 k10 k11 k12 k13 k14 j0 j1 j2 j3 j4 j5 j6 j7 j8 j9 j10 j11 j12 j13 j14); rintro e w5 ⟨rfl, hb5⟩; have S5 := yab (S4.out.more hb5); obtain ⟨j0, j1, j2, j3, j4, j5, j6, j7, j8, j9, j10, j11, j12, j13, j14⟩ := S5.out.rc.cells; clear hb5)
    |(go_at_call 112; (first | with_reducible refine (KE.out _ S5.out.bel).mono ?_ | with_reducible refine (KE.out _ S4.out.bel).mono ?_); rintro e w6 ⟨rfl, hPr, hFr⟩; have HP := yab hPr; have HF := yab hFr; clear hPr hFr))
   go_ret2
   exact ⟨rfl, HP.out, HF.out⟩
end Go.Proofs.K

namespace Go.Proofs.K
open Go.RowKit
def ppR (s : Nat) (x : RS) (s' : Nat) (y : RS) (p : ByteArray) : Int × Int × RS :=
 if ((ydk (ybk s x.cm (ybh p x.E)) (ybk s' y.cm (ybh p y.E))).2 == 1 && noRoom (ybk s x.cm (ybh p x.E)) x.E) = true then (0, 5, x)
 else ((ydk (ybk s x.cm (ybh p x.E)) (ybk s' y.cm (ybh p y.E))).2, 0, ⟨x.cm, yce x.cm p (ydk (ybk s x.cm (ybh p x.E)) (ybk s' y.cm (ybh p y.E))).1 x.E⟩)
theorem rpull_any (rb s mb : Nat) (x : RS) (rb' s' mb' : Nat) (y : RS) (w : World) (h : Rg w rb s x.cm mb x.E) (h' : Rg w rb' s' y.cm mb' y.E) (hl : x.E.length < 999999) (p : ByteArray) (hp : p.size ≤ 1000000000000) (hrm : ∀ R, noRoom R x.E = false) :
  Calls Tryz.prog 66 #[.pointer (some ⟨rb, 0, none⟩), .pointer (some ⟨rb', 0, none⟩), .string p] w fun e w' => e = .returned (.tuple #[.int .i64 (ppR s x s' y p).1, .int .i64 (ppR s x s' y p).2.1]) ∧ Rg w' rb s (ppR s x s' y p).2.2.cm mb (ppR s x s' y p).2.2.E ∧ Fr (fun k => k = rb ∨ k = mb) w w' := by
 unfold ppR
 rw [if_neg (by rw [hrm]; simp)]
 exact rpull_ok rb s x.cm mb x.E rb' s' y.cm mb' y.E w h h' hl p hp _ _ _ _ rfl rfl rfl (hrm _)
theorem npull_any {nb pb : Nat} {L : List (Nat × Nat)} {S : List RS} {w : World} (h : Nt w nb pb L S) (a b : Nat) (hab : a ≠ b) {u v : Nat × Nat} {x y : RS} (hu : L[a]? = some u) (hv : L[b]? = some v) (hx : S[a]? = some x) (hy : S[b]? = some y) (hl : x.E.length < 999999) (p : ByteArray) (hp : ybm p = true) (hpm : p.size ≤ 1000000) (hrm : ∀ R, noRoom R x.E = false) :
  Calls Tryz.prog 34 #[.pointer (some ⟨nb, 0, none⟩), .int .i64 a, .int .i64 b, .string p] w fun e w' => e = .returned (.tuple #[.int .i64 (ppR a x b y p).1, .int .i64 (ppR a x b y p).2.1]) ∧ Nt w' nb pb L (S.set a (ppR a x b y p).2.2) ∧ Fr (fun k => k = u.1 ∨ k = u.2) w w' := by
 have C := yab (ypt nb S.length pb (L.map (·.1)) a b u.1 v.1 p w h.net h.nlt h.plt (by rw [List.getElem?_map, hu]; rfl) (by rw [List.getElem?_map, hv]; rfl) hab hp (by unfold maxLen; omega))
 have W1 : Hid (∀ V, Below w.heap.size w V → Calls Tryz.prog 66 #[.pointer (some ⟨u.1, 0, none⟩), .pointer (some ⟨v.1, 0, none⟩), .string p] V fun e w' => e = .returned (.tuple #[.int .i64 (ppR a x b y p).1, .int .i64 (ppR a x b y p).2.1]) ∧ Rg w' u.1 a (ppR a x b y p).2.2.cm u.2 (ppR a x b y p).2.2.E ∧ Fr (fun k => k = u.1 ∨ k = u.2) w w') := fun V hb => by
  refine (rpull_any u.1 a u.2 x v.1 b v.2 y V ((h.rep a u x hu hx).below hb) ((h.rep b v y hv hy).below hb) hl p (by omega) hrm).mono ?_
  rintro e w' ⟨rfl, h1, h2⟩
  exact ⟨rfl, h1, (Fr.of_below hb).trans h2⟩
 have FN : Hid (∀ w', Rg w' u.1 a (ppR a x b y p).2.2.cm u.2 (ppR a x b y p).2.2.E → Fr (fun k => k = u.1 ∨ k = u.2) w w' → Nt w' nb pb L (S.set a (ppR a x b y p).2.2)) := fun w' h1 h2 => h.turn hu h2 h1
 clear h hu hv hx hy hp hpm hl
 go_enter Tryz.func34, Tryz.ntmps34
 go_wp2_with (first
  |(go_at_call 65; refine C.out.mono ?_; rintro e w1 ⟨rfl, hb1⟩; have B1 := yab hb1; clear hb1)
  |(go_at_call 66; refine (W1.out _ B1.out).mono ?_; rintro e w2 ⟨rfl, hRr, hFr⟩; have HR := yab hRr; have HF := yab hFr; clear hRr hFr))
 go_ret2
 exact ⟨rfl, FN.out _ HR.out HF.out, HF.out⟩
open Go.RowKit Go.Maps
def yki (s : Nat) (x : Int) (Ra Ro Rm : Rec) : Rec := ⟨(settled s x Ra Ro Rm).text, (settled s x Ra Ro Rm).br, (settled s x Ra Ro Rm).bn, (settled s x Ra Ro Rm).ch, yac (settled s x Ra Ro Rm).kn (yac Ro.kn (tf s x))⟩
theorem Rv.chosen {w w2 w3 : World} {rb s mb : Nat} {cm : Nat → Int} {E : yau} (h : Rg w rb s cm mb E) {Ra Ro : Rec} (hb : Below w.heap.size w w2) (S3 : R2 w2 w3 Ra Ro) (o : Obj) (Rm : Rec) :
  Rv w ((w3.alloc o).alloc (.cells #[.string Rm.text, .int .i64 Rm.br, .int .i64 Rm.bn, .int .i64 (Rm.ch 0), .int .i64 (Rm.ch 1), .int .i64 (Rm.ch 2), .int .i64 (Rm.ch 3), .int .i64 (Rm.ch 4), .int .i64 (Rm.ch 5), .int .i64 (Rm.kn 0), .int .i64 (Rm.kn 1), .int .i64 (Rm.kn 2), .int .i64 (Rm.kn 3), .int .i64 (Rm.kn 4), .int .i64 (Rm.kn 5)] 197)) rb s mb (w3.heap.size + 1) cm E Rm 0 none w2.heap.size Ra (w2.heap.size + 1) Ro := by
 have b3 := hb.trans (S3.bel.mono hb.size)
 have b4 := b3.alloc b3.size o
 have := Sg.start h b4 Rm
 have e : (w3.alloc o).heap.size = w3.heap.size + 1 := by simp
 rw [e] at this
 have S4 := S3.more ((Below.refl _ _).alloc (Nat.le_refl _) o)
 have S5 := S4.more ((Below.refl _ _).alloc (Nat.le_refl _) (.cells #[.string Rm.text, .int .i64 Rm.br, .int .i64 Rm.bn, .int .i64 (Rm.ch 0), .int .i64 (Rm.ch 1), .int .i64 (Rm.ch 2), .int .i64 (Rm.ch 3), .int .i64 (Rm.ch 4), .int .i64 (Rm.ch 5), .int .i64 (Rm.kn 0), .int .i64 (Rm.kn 1), .int .i64 (Rm.kn 2), .int .i64 (Rm.kn 3), .int .i64 (Rm.kn 4), .int .i64 (Rm.kn 5)] 197))
 have l1 := S3.ra.lt
 have l2 := S3.rb.lt
 exact ⟨this, S5.ra, S5.rb, hb.size, by have := hb.size; omega, by omega, by omega⟩
def yay (th : Bool) (Ra Ro : Rec) : Rec := match th with | true => ⟨Ro.text, Ro.br, Ro.bn, Ro.ch, Ra.kn⟩ | false => Ra
def rsRec (s : Nat) (x : RS) (Ra Ro : Rec) (p : ByteArray) (th : Bool) : Int × RS :=
 if ((ydk Ra Ro).2 == 3) = false then (4, x)
 else if (decide (1000000000 ≤ x.cm s) || (decide (0 < (yay th Ra Ro).bn) && noRoom Ra x.E)) = true then (5, x)
 else (0, ⟨nxG s x.cm, yce (nxG s x.cm) p (yki s (x.cm s + 1) Ra Ro (yay th Ra Ro)) x.E⟩)
def rsR (s : Nat) (x : RS) (s' : Nat) (y : RS) (p : ByteArray) (th : Bool) : Int × RS := rsRec s x (ybk s x.cm (ybh p x.E)) (ybk s' y.cm (ybh p y.E)) p th
end Go.Proofs.K
