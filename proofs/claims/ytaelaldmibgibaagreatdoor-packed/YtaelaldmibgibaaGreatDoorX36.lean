/- The program's net: Write, Remove, Read, of replicas that the. -/
import Derived.Test.YtaelaldmibgibaaGreatDoorX35

set_option linter.all false
set_option maxHeartbeats 600000

namespace Go.Proofs.K
open Go.RowKit
variable {nb pb : Nat} {L : List (Nat × Nat)} {S : List RS} {w : World} {x : Nat × Nat} {s : RS}
def wrR (s : Nat) (x : RS) (p t : ByteArray) : Int × RS :=
 if (decide (1000000000 ≤ x.cm s) || noRoom (ybk s x.cm (ybh p x.E)) x.E) = true then (5, x)
 else (0, ⟨nxG s x.cm, yce (nxG s x.cm) p (yio s (x.cm s + 1) t (ybk s x.cm (ybh p x.E))) x.E⟩)
theorem rwrite_any (rb s mb : Nat) (x : RS) (w : World) (h : Rg w rb s x.cm mb x.E) (hl : x.E.length < 999999) (p t : ByteArray) (hp : p.size ≤ 1000000000000) (ht : t.size ≤ 1000000000000) :
  Calls Tryz.prog 62 #[.pointer (some ⟨rb, 0, none⟩), .string p, .string t] w fun e w' => e = .returned (.int .i64 (wrR s x p t).1) ∧ Rg w' rb s (wrR s x p t).2.cm mb (wrR s x p t).2.E ∧ Fr (fun k => k = rb ∨ k = mb) w w' := by
 unfold wrR
 split
 ·next hc =>
  rw [Bool.or_eq_true, decide_eq_true_eq] at hc
  exact rwrite_full rb s x.cm mb x.E w h p t hp hc
 ·next hc =>
  rw [Bool.or_eq_true, decide_eq_true_eq, not_or] at hc
  exact rwrite_ok rb s x.cm mb x.E w h hl p t hp ht (by omega) (by simpa using hc.2)
def rmR (s : Nat) (x : RS) (p : ByteArray) : Int × RS :=
 if (decide (0 < (ybk s x.cm (ybh p x.E)).bn)) = false then (4, x)
 else if (decide (1000000000 ≤ x.cm s)) = true then (5, x)
 else (0, ⟨nxG s x.cm, yce (nxG s x.cm) p (yvf s (x.cm s + 1) (ybk s x.cm (ybh p x.E))) x.E⟩)
theorem rremove_any (rb s mb : Nat) (x : RS) (w : World) (h : Rg w rb s x.cm mb x.E) (hl : x.E.length < 999999) (p : ByteArray) (hp : p.size ≤ 1000000000000) :
  Calls Tryz.prog 64 #[.pointer (some ⟨rb, 0, none⟩), .string p] w fun e w' => e = .returned (.int .i64 (rmR s x p).1) ∧ Rg w' rb s (rmR s x p).2.cm mb (rmR s x p).2.E ∧ Fr (fun k => k = rb ∨ k = mb) w w' := by
 unfold rmR
 split
 ·next hc => exact yyb rb s x.cm mb x.E w h p hp (by simpa using hc)
 ·next hc =>
  split
  ·next hd => exact yya rb s x.cm mb x.E w h p hp (by simpa using hc) (by simpa using hd)
  ·next hd => exact rremove_ok rb s x.cm mb x.E w h p hp (by simpa using hc) hl (by simp at hd; omega)
def rdR (s : Nat) (x : RS) (p : ByteArray) : ByteArray × Int :=
 if (decide (0 < (ybk s x.cm (ybh p x.E)).bn)) = true then ((ybk s x.cm (ybh p x.E)).text, 0) else (⟨#[]⟩, 4)
theorem rread_any (rb s mb : Nat) (x : RS) (w : World) (h : Rg w rb s x.cm mb x.E) (p : ByteArray) (hp : p.size ≤ maxLen) :
  Calls Tryz.prog 63 #[.pointer (some ⟨rb, 0, none⟩), .string p] w fun e w' => e = .returned (.tuple #[.string (rdR s x p).1, .int .i64 (rdR s x p).2]) ∧ Below w.heap.size w w' := by
 unfold rdR
 split
 ·next hc => exact rread_some rb s x.cm mb x.E w h p hp (by simpa using hc)
 ·next hc => exact rread_none rb s x.cm mb x.E w h p hp (by simpa using hc)
theorem nwrite_any (h : Nt w nb pb L S) (r : Nat) (hx : L[r]? = some x) (hs : S[r]? = some s) (hl : s.E.length < 999999) (p t : ByteArray) (hp : ybm p = true) (hpm : p.size ≤ 1000000) (ht : t.size ≤ 60) :
  Calls Tryz.prog 29 #[.pointer (some ⟨nb, 0, none⟩), .int .i64 r, .string p, .string t] w fun e w' => e = .returned (.int .i64 (wrR r s p t).1) ∧ Nt w' nb pb L (S.set r (wrR r s p t).2) ∧ Fr (fun k => k = x.1 ∨ k = x.2) w w' := by
 have C := yab (yjz nb S.length pb (L.map (·.1)) r x.1 p w h.net (by rw [List.getElem?_map, hx]; rfl) hp (by unfold maxLen; omega))
 have W1 := yab (rwrite_any x.1 r x.2 s w (h.rep r x s hx hs) hl p t (by omega) (by omega))
 have FN : Hid (∀ w', Rg w' x.1 r (wrR r s p t).2.cm x.2 (wrR r s p t).2.E → Fr (fun k => k = x.1 ∨ k = x.2) w w' → Nt w' nb pb L (S.set r (wrR r s p t).2)) := fun w' h1 h2 => h.turn hx h2 h1
 have d1 : decide ((60 : Int) < (t.size : Int)) = false := by simp; omega
 clear h hx hs hp hpm ht hl
 go_enter Tryz.func29, Tryz.ntmps29
 go_wp2_with (first
  |(go_at_call 61; refine C.out.mono ?_; rintro e w1 ⟨rfl, rfl⟩)
  |(go_at_call 62; refine W1.out.mono ?_; rintro e w2 ⟨rfl, hRr, hFr⟩; have HR := yab hRr; have HF := yab hFr; clear hRr hFr))
 go_ret
 exact ⟨rfl, FN.out _ HR.out HF.out, HF.out⟩
theorem nremove_any (h : Nt w nb pb L S) (r : Nat) (hx : L[r]? = some x) (hs : S[r]? = some s) (hl : s.E.length < 999999) (p : ByteArray) (hp : ybm p = true) (hpm : p.size ≤ 1000000) :
  Calls Tryz.prog 33 #[.pointer (some ⟨nb, 0, none⟩), .int .i64 r, .string p] w fun e w' => e = .returned (.int .i64 (rmR r s p).1) ∧ Nt w' nb pb L (S.set r (rmR r s p).2) ∧ Fr (fun k => k = x.1 ∨ k = x.2) w w' := by
 have C := yab (yjz nb S.length pb (L.map (·.1)) r x.1 p w h.net (by rw [List.getElem?_map, hx]; rfl) hp (by unfold maxLen; omega))
 have W1 := yab (rremove_any x.1 r x.2 s w (h.rep r x s hx hs) hl p (by omega))
 have FN : Hid (∀ w', Rg w' x.1 r (rmR r s p).2.cm x.2 (rmR r s p).2.E → Fr (fun k => k = x.1 ∨ k = x.2) w w' → Nt w' nb pb L (S.set r (rmR r s p).2)) := fun w' h1 h2 => h.turn hx h2 h1
 clear h hx hs hp hpm hl
 go_enter Tryz.func33, Tryz.ntmps33
 go_wp2_with (first
  |(go_at_call 61; refine C.out.mono ?_; rintro e w1 ⟨rfl, rfl⟩)
  |(go_at_call 64; refine W1.out.mono ?_; rintro e w2 ⟨rfl, hRr, hFr⟩; have HR := yab hRr; have HF := yab hFr; clear hRr hFr))
 go_ret
 exact ⟨rfl, FN.out _ HR.out HF.out, HF.out⟩
theorem nread_any (h : Nt w nb pb L S) (r : Nat) (hx : L[r]? = some x) (hs : S[r]? = some s) (p : ByteArray) (hp : ybm p = true) (hpm : p.size ≤ 1000000) :
  Calls Tryz.prog 30 #[.pointer (some ⟨nb, 0, none⟩), .int .i64 r, .string p] w fun e w' => e = .returned (.tuple #[.string (rdR r s p).1, .int .i64 (rdR r s p).2]) ∧ Nt w' nb pb L S ∧ Below w.heap.size w w' := by
 have C := yab (yjz nb S.length pb (L.map (·.1)) r x.1 p w h.net (by rw [List.getElem?_map, hx]; rfl) hp (by unfold maxLen; omega))
 have W1 := yab (rread_any x.1 r x.2 s w (h.rep r x s hx hs) p (by unfold maxLen; omega))
 have FN : Hid (∀ w', Below w.heap.size w w' → Nt w' nb pb L S) := fun w' hb => h.below hb
 clear h hx hs hp hpm
 go_enter Tryz.func30, Tryz.ntmps30
 go_wp2_with (first
  |(go_at_call 61; refine C.out.mono ?_; rintro e w1 ⟨rfl, rfl⟩)
  |(go_at_call 63; refine W1.out.mono ?_; rintro e w2 ⟨rfl, hBr⟩; have HB := yab hBr; clear hBr))
 go_ret2
 exact ⟨rfl, FN.out _ HB.out, HB.out⟩
end Go.Proofs.K

namespace Go.Proofs.K
open Go.RowKit
def hasB (R : Rec) (k : Nat → Int) : Bool := decide (R.bn ≤ k R.br.toNat)
theorem ykj (R : Rec) (k : Nat → Int) (hR : ykr R) (w : World) :
  Calls Tryz.prog 200 #[.agg #[.int .i64 (k 0), .int .i64 (k 1), .int .i64 (k 2), .int .i64 (k 3), .int .i64 (k 4), .int .i64 (k 5)], ybb R] w fun e w' => e = .returned (.bool (hasB R k)) ∧ Below w.heap.size w w' := by
 obtain ⟨r, hr, hb⟩ := hR
 unfold ybb hasB
 rw [hb]
 have HA := yab (fun V => Has_any k r R.bn hr V)
 unfold ygt at HA
 rw [show ((r : Int).toNat) = r from rfl]
 generalize decide (R.bn ≤ k r) = z at *
 go_enter Tryz.func200, Tryz.ntmps200
 go_wp2_with (go_at_call 224; refine (HA.out _).mono ?_; rintro e w1 ⟨rfl, hb1⟩)
 go_ret
 exact ⟨rfl, (((Below.refl _ _).alloc (Nat.le_refl _) _).alloc (by simp) _).trans (hb1.mono (by simp; omega))⟩
def isVer (a b : Rec) : Bool := (a.br == b.br && a.bn == b.bn) && eqT a.ch b.ch
theorem yyf (x y u v : Int) (w : World) : (Op.equalIn 10000 191 (.agg #[.int .i64 x, .int .i64 y]) (.agg #[.int .i64 u, .int .i64 v])).run Tryz.prog w = .ok (x == u && y == v) w := by
 go_simp
 by_cases h1 : x = u <;> by_cases h2 : y = v <;> simp [h1, h2]
def eqEv (x y : Value) : Sem Value := binOp .eql 191 x y
theorem eqEvent (x y : Value) : binOp .eql 191 x y = eqEv x y := rfl
theorem run_eqEv (x y u v : Int) (w : World) : (eqEv (.agg #[.int .i64 x, .int .i64 y]) (.agg #[.int .i64 u, .int .i64 v])).run Tryz.prog w = .ok (.bool (x == u && y == v)) w := by
 unfold eqEv
 rw [run_eql_struct, yyf]
 rfl
attribute [local go_sem ↓] eqTime eqEvent
attribute [local go_sem] yvi run_eqEv
theorem yug (a b : Rec) (w : World) :
  Calls Tryz.prog 225 #[ybb a, ybb b] w fun e w' => e = .returned (.bool (isVer a b)) ∧ Below w.heap.size w w' := by
 unfold ybb isVer
 cases hd : (a.br == b.br && a.bn == b.bn)
 all_goals
  go_enter Tryz.func225, Tryz.ntmps225
  go_wp2
  go_ret
  exact ⟨rfl, ((Below.refl _ _).alloc (Nat.le_refl _) _).alloc (by simp) _⟩
end Go.Proofs.K
