/- The program's net: Resolve. -/
import Derived.Test.YtaelaldmibgibaaGreatDoorX41

set_option linter.all false
set_option maxHeartbeats 600000

namespace Go.Proofs.K
open Go.RowKit
theorem yyc (rb s mb : Nat) (x : RS) (rb' s' mb' : Nat) (y : RS) (w : World) (h : Rg w rb s x.cm mb x.E) (h' : Rg w rb' s' y.cm mb' y.E) (hl : x.E.length < 999999) (p : ByteArray) (hp : p.size ≤ 1000000000000) (th : Bool) (hc : x.cm s < 1000000000) (hrm : ∀ R, noRoom R x.E = false) :
  Calls Tryz.prog 67 #[.pointer (some ⟨rb, 0, none⟩), .pointer (some ⟨rb', 0, none⟩), .string p, .bool th] w fun e w' => e = .returned (.int .i64 (rsR s x s' y p th).1) ∧ Rg w' rb s (rsR s x s' y p th).2.cm mb (rsR s x s' y p th).2.E ∧ Fr (fun k => k = rb ∨ k = mb) w w' := by
 unfold rsR
 generalize e1 : ybk s x.cm (ybh p x.E) = Ra
 generalize e2 : ybk s' y.cm (ybh p y.E) = Ro
 unfold rsRec
 split
 ·next hz =>
  refine (yvg rb s x.cm mb x.E rb' s' y.cm mb' y.E w h h' p hp th Ra Ro (ydk Ra Ro).1 (ydk Ra Ro).2 e1 e2 rfl (by simpa using hz)).mono ?_
  rintro e w' ⟨rfl, hb⟩
  exact ⟨rfl, h.below hb, Fr.of_below hb⟩
 ·next hz =>
  have hz3 : (ydk Ra Ro).2 = 3 := by simpa using hz
  have e3 : ydk Ra Ro = ((ydk Ra Ro).1, 3) := Prod.ext rfl hz3
  rw [if_neg (by rw [hrm, Bool.and_false, Bool.or_false, decide_eq_true_eq]; omega)]
  exact rresolve_ok rb s x.cm mb x.E rb' s' y.cm mb' y.E w h h' hl p hp th Ra Ro _ _ e1 e2 e3 rfl hc (hrm Ra)
theorem yxf {nb pb : Nat} {L : List (Nat × Nat)} {S : List RS} {w : World} (h : Nt w nb pb L S) (a b : Nat) (hab : a ≠ b) {u v : Nat × Nat} {x y : RS} (hu : L[a]? = some u) (hv : L[b]? = some v) (hx : S[a]? = some x) (hy : S[b]? = some y) (hl : x.E.length < 999999) (p : ByteArray) (hp : ybm p = true) (hpm : p.size ≤ 1000000) (th : Bool) (hc : x.cm a < 1000000000) (hrm : ∀ R, noRoom R x.E = false) :
  Calls Tryz.prog 35 #[.pointer (some ⟨nb, 0, none⟩), .int .i64 a, .int .i64 b, .string p, .bool th] w fun e w' => e = .returned (.int .i64 (rsR a x b y p th).1) ∧ Nt w' nb pb L (S.set a (rsR a x b y p th).2) ∧ Fr (fun k => k = u.1 ∨ k = u.2) w w' := by
 have C := yab (ypt nb S.length pb (L.map (·.1)) a b u.1 v.1 p w h.net h.nlt h.plt (by rw [List.getElem?_map, hu]; rfl) (by rw [List.getElem?_map, hv]; rfl) hab hp (by unfold maxLen; omega))
 have W1 : Hid (∀ V, Below w.heap.size w V → Calls Tryz.prog 67 #[.pointer (some ⟨u.1, 0, none⟩), .pointer (some ⟨v.1, 0, none⟩), .string p, .bool th] V fun e w' => e = .returned (.int .i64 (rsR a x b y p th).1) ∧ Rg w' u.1 a (rsR a x b y p th).2.cm u.2 (rsR a x b y p th).2.E ∧ Fr (fun k => k = u.1 ∨ k = u.2) w w') := fun V hb => by
  refine (yyc u.1 a u.2 x v.1 b v.2 y V ((h.rep a u x hu hx).below hb) ((h.rep b v y hv hy).below hb) hl p (by omega) th hc hrm).mono ?_
  rintro e w' ⟨rfl, h1, h2⟩
  exact ⟨rfl, h1, (Fr.of_below hb).trans h2⟩
 have FN : Hid (∀ w', Rg w' u.1 a (rsR a x b y p th).2.cm u.2 (rsR a x b y p th).2.E → Fr (fun k => k = u.1 ∨ k = u.2) w w' → Nt w' nb pb L (S.set a (rsR a x b y p th).2)) := fun w' h1 h2 => h.turn hu h2 h1
 clear h hu hv hx hy hp hpm hl
 go_enter Tryz.func35, Tryz.ntmps35
 go_wp2_with (first
  |(go_at_call 65; refine C.out.mono ?_; rintro e w1 ⟨rfl, hb1⟩; have B1 := yab hb1; clear hb1)
  |(go_at_call 67; refine (W1.out _ B1.out).mono ?_; rintro e w2 ⟨rfl, hRr, hFr⟩; have HR := yab hRr; have HF := yab hFr; clear hRr hFr))
 go_ret
 exact ⟨rfl, FN.out _ HR.out HF.out, HF.out⟩
end Go.Proofs.K
