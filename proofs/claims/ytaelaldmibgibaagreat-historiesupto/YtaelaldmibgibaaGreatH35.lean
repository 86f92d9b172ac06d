/- The program's net: PullPath of replicas that there are. A replica of the program's: Resolve. Resolve in a replica, as a function of states. -/
import Derived.Test.YtaelaldmibgibaaGreatH25
import Derived.Test.YtaelaldmibgibaaGreatH34
import Derived.Test.YtaelaldmibgibaaGreatH33
import Derived.Deep.DeepCutAuto
import Derived.Outline

set_option linter.unusedVariables false
set_option linter.unusedSimpArgs false
set_option linter.unusedSectionVars false
set_option maxHeartbeats 600000

namespace Go.Proofs.YtaelaldmibgibaaGreat
open Go.RowKit
def ppR (s : Nat) (x : RS) (s' : Nat) (y : RS) (p : ByteArray) : Int × Int × RS :=
 if ((yba (ybp s x.cm (ybb p x.E)) (ybp s' y.cm (ybb p y.E))).2 == 1 && noRoom (ybp s x.cm (ybb p x.E)) x.E) = true then (0, 5, x)
 else ((yba (ybp s x.cm (ybb p x.E)) (ybp s' y.cm (ybb p y.E))).2, 0, ⟨x.cm, ybl x.cm p (yba (ybp s x.cm (ybb p x.E)) (ybp s' y.cm (ybb p y.E))).1 x.E⟩)
theorem rpull_any (rb s mb : Nat) (x : RS) (rb' s' mb' : Nat) (y : RS) (w : World) (h : Rg w rb s x.cm mb x.E) (h' : Rg w rb' s' y.cm mb' y.E) (hl : x.E.length < 999999) (p : ByteArray) (hp : p.size ≤ 1000000000000) :
  Calls Tryz.prog 44 #[.pointer (some ⟨rb, 0, none⟩), .pointer (some ⟨rb', 0, none⟩), .string p] w fun e w' => e = .returned (.tuple #[.int .i64 (ppR s x s' y p).1, .int .i64 (ppR s x s' y p).2.1]) ∧ Rg w' rb s (ppR s x s' y p).2.2.cm mb (ppR s x s' y p).2.2.E ∧ Fr (fun k => k = rb ∨ k = mb) w w' := by
 unfold ppR
 split
 ·next hc =>
  rw [Bool.and_eq_true, beq_iff_eq] at hc
  exact rpull_full rb s x.cm mb x.E rb' s' y.cm mb' y.E w h h' hl p hp _ _ _ _ rfl rfl rfl hc.1 hc.2
 ·next hc =>
  rw [Bool.and_eq_true, beq_iff_eq, not_and] at hc
  by_cases hz : (yba (ybp s x.cm (ybb p x.E)) (ybp s' y.cm (ybb p y.E))).2 = 1
  ·have := yqp rb s x.cm mb x.E rb' s' y.cm mb' y.E w h h' hl p hp _ _ _ _ rfl rfl rfl hz (by simpa using hc hz)
   rw [hz]
   exact this
  ·exact ytb rb s x.cm mb x.E rb' s' y.cm mb' y.E w h h' hl p hp _ _ _ _ rfl rfl rfl hz
theorem npull_any {nb pb : Nat} {L : List (Nat × Nat)} {S : List RS} {w : World} (h : Nt w nb pb L S) (a b : Nat) (hab : a ≠ b) {u v : Nat × Nat} {x y : RS} (hu : L[a]? = some u) (hv : L[b]? = some v) (hx : S[a]? = some x) (hy : S[b]? = some y) (hl : x.E.length < 999999) (p : ByteArray) (hp : yat p = true) (hpm : p.size ≤ 1000000) :
  Calls Tryz.prog 26 #[.pointer (some ⟨nb, 0, none⟩), .int .i64 a, .int .i64 b, .string p] w fun e w' => e = .returned (.tuple #[.int .i64 (ppR a x b y p).1, .int .i64 (ppR a x b y p).2.1]) ∧ Nt w' nb pb L (S.set a (ppR a x b y p).2.2) ∧ Fr (fun k => k = u.1 ∨ k = u.2) w w' := by
 have C := yab (ylk nb S.length pb (L.map (·.1)) a b u.1 v.1 p w h.net h.nlt h.plt (by rw [List.getElem?_map, hu]; rfl) (by rw [List.getElem?_map, hv]; rfl) hab hp (by unfold maxLen; omega))
 have W1 : Hid (∀ V, Below w.heap.size w V → Calls Tryz.prog 44 #[.pointer (some ⟨u.1, 0, none⟩), .pointer (some ⟨v.1, 0, none⟩), .string p] V fun e w' => e = .returned (.tuple #[.int .i64 (ppR a x b y p).1, .int .i64 (ppR a x b y p).2.1]) ∧ Rg w' u.1 a (ppR a x b y p).2.2.cm u.2 (ppR a x b y p).2.2.E ∧ Fr (fun k => k = u.1 ∨ k = u.2) w w') := fun V hb => by
  refine (rpull_any u.1 a u.2 x v.1 b v.2 y V ((h.rep a u x hu hx).below hb) ((h.rep b v y hv hy).below hb) hl p (by omega)).mono ?_
  rintro e w' ⟨rfl, h1, h2⟩
  exact ⟨rfl, h1, (Fr.of_below hb).trans h2⟩
 have FN : Hid (∀ w', Rg w' u.1 a (ppR a x b y p).2.2.cm u.2 (ppR a x b y p).2.2.E → Fr (fun k => k = u.1 ∨ k = u.2) w w' → Nt w' nb pb L (S.set a (ppR a x b y p).2.2)) := fun w' h1 h2 => h.turn hu h2 h1
 clear h hu hv hx hy hp hpm hl
 go_enter Tryz.func26, Tryz.ntmps26
 go_wp2_with (first
  |(go_at_call 43; refine C.out.mono ?_; rintro e w1 ⟨rfl, hb1⟩; have B1 := yab hb1; clear hb1)
  |(go_at_call 44; refine (W1.out _ B1.out).mono ?_; rintro e w2 ⟨rfl, hRr, hFr⟩; have HR := yab hRr; have HF := yab hFr; clear hRr hFr))
 go_ret2
 exact ⟨rfl, FN.out _ HR.out HF.out, HF.out⟩
open Go.RowKit Go.Maps
def ybj (s : Nat) (x : Int) (Ra Ro Rm : Rec) : Rec := ⟨(yah s x Ra Ro Rm).text, (yah s x Ra Ro Rm).br, (yah s x Ra Ro Rm).bn, (yah s x Ra Ro Rm).ch, yad (yah s x Ra Ro Rm).kn (yad Ro.kn (tf s x))⟩
theorem Rv.chosen {w w2 w3 : World} {rb s mb : Nat} {cm : Nat → Int} {E : yav} (h : Rg w rb s cm mb E) {Ra Ro : Rec} (hb : Below w.heap.size w w2) (S3 : R2 w2 w3 Ra Ro) (o : Obj) (Rm : Rec) :
  Rv w ((w3.alloc o).alloc (.cells #[.string Rm.text, .int .i64 Rm.br, .int .i64 Rm.bn, .int .i64 (Rm.ch 0), .int .i64 (Rm.ch 1), .int .i64 (Rm.ch 2), .int .i64 (Rm.ch 3), .int .i64 (Rm.ch 4), .int .i64 (Rm.ch 5), .int .i64 (Rm.kn 0), .int .i64 (Rm.kn 1), .int .i64 (Rm.kn 2), .int .i64 (Rm.kn 3), .int .i64 (Rm.kn 4), .int .i64 (Rm.kn 5)] 120)) rb s mb (w3.heap.size + 1) cm E Rm 0 none w2.heap.size Ra (w2.heap.size + 1) Ro := by
 have b3 := hb.trans (S3.bel.mono hb.size)
 have b4 := b3.alloc b3.size o
 have := Sg.start h b4 Rm
 have e : (w3.alloc o).heap.size = w3.heap.size + 1 := by simp
 rw [e] at this
 have S4 := S3.more ((Below.refl _ _).alloc (Nat.le_refl _) o)
 have S5 := S4.more ((Below.refl _ _).alloc (Nat.le_refl _) (.cells #[.string Rm.text, .int .i64 Rm.br, .int .i64 Rm.bn, .int .i64 (Rm.ch 0), .int .i64 (Rm.ch 1), .int .i64 (Rm.ch 2), .int .i64 (Rm.ch 3), .int .i64 (Rm.ch 4), .int .i64 (Rm.ch 5), .int .i64 (Rm.kn 0), .int .i64 (Rm.kn 1), .int .i64 (Rm.kn 2), .int .i64 (Rm.kn 3), .int .i64 (Rm.kn 4), .int .i64 (Rm.kn 5)] 120))
 have l1 := S3.ra.lt
 have l2 := S3.rb.lt
 exact ⟨this, S5.ra, S5.rb, hb.size, by have := hb.size; omega, by omega, by omega⟩
def ydw (th : Bool) (Ra Ro : Rec) : Rec := match th with | true => ⟨Ro.text, Ro.br, Ro.bn, Ro.ch, Ra.kn⟩ | false => Ra
def rsRec (s : Nat) (x : RS) (Ra Ro : Rec) (p : ByteArray) (th : Bool) : Int × RS :=
 if ((yba Ra Ro).2 == 3) = false then (4, x)
 else if (decide (1000000000 ≤ x.cm s) || (decide (0 < (ydw th Ra Ro).bn) && noRoom Ra x.E)) = true then (5, x)
 else (0, ⟨nxG s x.cm, ybl (nxG s x.cm) p (ybj s (x.cm s + 1) Ra Ro (ydw th Ra Ro)) x.E⟩)
def rsR (s : Nat) (x : RS) (s' : Nat) (y : RS) (p : ByteArray) (th : Bool) : Int × RS := rsRec s x (ybp s x.cm (ybb p x.E)) (ybp s' y.cm (ybb p y.E)) p th
end Go.Proofs.YtaelaldmibgibaaGreat
