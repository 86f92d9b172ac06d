/- A replica of the program's: Remove, whatever it knows. The program's net, whatever its replicas know: its Write, Remove, Read. The program's net: Write, Remove, Read, of replicas that there are. Two records of one path: what a pull does with them; the program's functions. -/
import Derived.Test.YtaelaldmibgibaaGreatDoorT18
import Derived.Test.YtaelaldmibgibaaGreatDoorT10
import Derived.BigQuiet
import Derived.Deep.QuietTactic
import Derived.Test.YtaelaldmibgibaaGreatDoorT16
import Derived.Laws.StructEq

set_option linter.unusedVariables false
set_option linter.unusedSimpArgs false
set_option linter.unusedSectionVars false
set_option maxHeartbeats 2000000
set_option maxRecDepth 100000

namespace Go.Proofs.YtaelaldmibgibaaGreatDoor
open Go.RowKit Go.Maps
def yqw (s : Nat) (x : Int) (R : Rec) : Rec := ⟨⟨#[]⟩, 0, 0, fun _ => 0, yab R.kn (tf s x)⟩
theorem ytj (rb s : Nat) (cm : Nat → Int) (mb : Nat) (E : yat) (w : World) (h : Rg w rb s cm mb E) (p : ByteArray) (hp : p.size ≤ 1000000000000) (hn : ¬ 0 < (yay s cm (yas p E)).bn) :
  Calls Tryz.prog 64 #[.pointer (some ⟨rb, 0, none⟩), .string p] w fun e w' => e = .returned (.int .i64 4) ∧ Rg w' rb s cm mb E ∧ Fr (fun k => k = rb ∨ k = mb) w w' := by
 have C := yai rb s cm mb E w h.rep h.own p (by unfold maxLen; omega)
 have fin : Hid (∀ V b R eb eo, Sg w V rb s mb b cm E R eb eo → Rg V rb s cm mb E ∧ Fr (fun k => k = rb ∨ k = mb) w V) := fun V b R eb eo S => ⟨⟨S.rep, S.own, h.ris, h.bn, h.len, h.c0⟩, S.fr⟩
 have H := yac h
 generalize yay s cm (yas p E) = R1 at C hn
 have hth : decide (0 < R1.bn) = false := by simp [hn]
 simp only [yae] at C
 have CH := yac C
 clear C h hn
 go_enter Tryz.func64, Tryz.ntmps64
 go_wp2_with (first
  |(go_at_call 104; refine CH.out.mono ?_; rintro e w1 ⟨rfl, hb1r⟩; have S1 := yac (Sg.start H.out hb1r R1); clear hb1r)
  |(go_at_call 113; refine S1.out.there.mono ?_; rintro e w3 ⟨rfl, S3r⟩; have S3 := yac S3r; clear S3r))
 go_ret
 exact ⟨rfl, fin.out _ _ _ _ _ S3.out⟩
theorem yti (rb s : Nat) (cm : Nat → Int) (mb : Nat) (E : yat) (w : World) (h : Rg w rb s cm mb E) (p : ByteArray) (hp : p.size ≤ 1000000000000) (hn : 0 < (yay s cm (yas p E)).bn) (hc : 1000000000 ≤ cm s) :
  Calls Tryz.prog 64 #[.pointer (some ⟨rb, 0, none⟩), .string p] w fun e w' => e = .returned (.int .i64 5) ∧ Rg w' rb s cm mb E ∧ Fr (fun k => k = rb ∨ k = mb) w w' := by
 have C := yai rb s cm mb E w h.rep h.own p (by unfold maxLen; omega)
 have fin : Hid (∀ V b R eb eo, Sg w V rb s mb b cm E R eb eo → Rg V rb s cm mb E ∧ Fr (fun k => k = rb ∨ k = mb) w V) := fun V b R eb eo S => ⟨⟨S.rep, S.own, h.ris, h.bn, h.len, h.c0⟩, S.fr⟩
 have H := yac h
 generalize yay s cm (yas p E) = R1 at C hn
 have hth : decide (0 < R1.bn) = true := by simp [hn]
 simp only [yae] at C
 have CH := yac C
 have hd : decide (1000000000 ≤ cm s) = true := by simp [hc]
 clear C h hn
 go_enter Tryz.func64, Tryz.ntmps64
 go_wp2_with (first
  |(go_at_call 104; refine CH.out.mono ?_; rintro e w1 ⟨rfl, hb1r⟩; have S1 := yac (Sg.start H.out hb1r R1); clear hb1r)
  |(go_at_call 113; refine S1.out.there.mono ?_; rintro e w3 ⟨rfl, S3r⟩; have S3 := yac S3r; clear S3r)
  |(go_at_call 105; refine S3.out.full.mono ?_; rintro e w2 ⟨rfl, S2r⟩; have S2 := yac S2r; clear S2r))
 go_ret
 exact ⟨rfl, fin.out _ _ _ _ _ S2.out⟩
theorem rremove_ok (rb s : Nat) (cm : Nat → Int) (mb : Nat) (E : yat) (w : World) (h : Rg w rb s cm mb E) (p : ByteArray) (hp : p.size ≤ 1000000000000) (hn : 0 < (yay s cm (yas p E)).bn) (hl : E.length < 999999) (hc : cm s < 1000000000) :
  Calls Tryz.prog 64 #[.pointer (some ⟨rb, 0, none⟩), .string p] w fun e w' => e = .returned (.int .i64 0) ∧ Rg w' rb s (nxG s cm) mb (ybn (nxG s cm) p (yqw s (cm s + 1) (yay s cm (yas p E))) E) ∧ Fr (fun k => k = rb ∨ k = mb) w w' := by
 have C := yai rb s cm mb E w h.rep h.own p (by unfold maxLen; omega)
 have H := yac h
 have hc0 := h.c0
 have hs := h.rep.hs
 have hns := ydj s hs cm hc0
 generalize hR1 : yay s cm (yas p E) = R1 at C hn ⊢
 clear hR1
 have hth : decide (0 < R1.bn) = true := by simp [hn]
 simp only [yae] at C
 have CH := yac C
 have hd : decide (1000000000 ≤ cm s) = false := by simp; omega
 have KO : Hid (∀ V b eb eo, Sg w V rb s mb b (yab cm (tf s (cm s + 1))) E ⟨⟨#[]⟩, 0, 0, fun _ => 0, yab R1.kn (tf s (cm s + 1))⟩ eb eo → Calls Tryz.prog 112 #[.pointer (some ⟨rb, 0, none⟩), .string p, .agg #[.string ⟨#[]⟩, .int .i64 0, .int .i64 0, .int .i64 0, .int .i64 0, .int .i64 0, .int .i64 0, .int .i64 0, .int .i64 0, .int .i64 (yab R1.kn (tf s (cm s + 1)) 0), .int .i64 (yab R1.kn (tf s (cm s + 1)) 1), .int .i64 (yab R1.kn (tf s (cm s + 1)) 2), .int .i64 (yab R1.kn (tf s (cm s + 1)) 3), .int .i64 (yab R1.kn (tf s (cm s + 1)) 4), .int .i64 (yab R1.kn (tf s (cm s + 1)) 5)]] V fun e w' => e = .returned (.tuple #[]) ∧ Rg w' rb s (nxG s cm) mb (ybn (nxG s cm) p (yqw s (cm s + 1) R1) E) ∧ Fr (fun k => k = rb ∨ k = mb) w w') :=
  fun V b eb eo S => S.keepAll H.out (by show 0 ≤ nxG s cm s; rw [hns]; omega) p hp (Int.le_refl 0) ⟨0, by omega, rfl⟩ hl
 clear C h hn hns hl
 go_enter Tryz.func64, Tryz.ntmps64
 go_wp2_with (first
  |(go_at_call 104; refine CH.out.mono ?_; rintro e w1 ⟨rfl, hb1r⟩; have S1 := yac (Sg.start H.out hb1r R1); clear hb1r)
  |(go_at_call 113; refine S1.out.there.mono ?_; rintro e w3 ⟨rfl, S3r⟩; have S3 := yac S3r; clear S3r)
  |(go_at_call 105; refine S3.out.full.mono ?_; rintro e w2 ⟨rfl, S2r⟩; have S2 := yac S2r; clear S2r)
  |(go_at_call 107; refine (S2.out.next hc0 hc).mono ?_; rintro e w5 ⟨rfl, S5r⟩; have S5 := yac S5r; have SE := yac (S5r.alloc_ev (.cells #[.int .i64 s, .int .i64 (cm s + 1)] 191)); clear S5r)
  |(go_at_call 114; refine SE.out.remove.mono ?_; rintro e w7 ⟨rfl, S7r⟩; have S7 := yac S7r; obtain ⟨g0, g1⟩ := S7r.evCells; clear S7r)
  |(go_at_call 111; refine (S7.out.alone (cm s + 1)).mono ?_; rintro e w8 ⟨rfl, S8r⟩; have S8 := yac S8r; clear S8r)
  |(go_at_call 110; refine (S8.out.hear (tf s (cm s + 1)) _).mono ?_; rintro e w9 ⟨rfl, S9r⟩; have S9 := yac S9r; obtain ⟨k0, k1, k2, k3, k4, k5, k6, k7, k8, k9, k10, k11, k12, k13, k14⟩ := S9r.rc.cells; dsimp only at k0 k1 k2 k3 k4 k5 k6 k7 k8 k9 k10 k11 k12 k13 k14; clear S9r)
  |(go_at_call 112; refine (KO.out _ _ _ _ S9.out).mono ?_; rintro e w10 ⟨rfl, hPr, hFr⟩; have HP := yac hPr; have HF := yac hFr; clear hPr hFr))
 go_ret
 exact ⟨rfl, HP.out, HF.out⟩
open Go.RowKit
theorem ymv (nb n pb : Nat) (rbs : List Nat) (a b : Nat) (ra rb : Nat) (p : ByteArray) (w : World) (h : ypr w nb n pb rbs) (hn : nb < w.heap.size) (hp : pb < w.heap.size) (ha : rbs[a]? = some ra) (hb : rbs[b]? = some rb) (hab : a ≠ b) (hpo : ycw p = true) (hs : p.size ≤ maxLen) :
  Calls Tryz.prog 65 #[.pointer (some ⟨nb, 0, none⟩), .int .i64 a, .int .i64 b, .string p] w fun e w' => e = .returned (.tuple #[.pointer (some ⟨ra, 0, none⟩), .pointer (some ⟨rb, 0, none⟩), .int .i64 0]) ∧ Below w.heap.size w w' := by
 have hal : a < n := by have := (List.getElem?_eq_some_iff.1 ha).1; have := h.len; omega
 have hbl : b < n := by have := (List.getElem?_eq_some_iff.1 hb).1; have := h.len; omega
 have hok : okP n a b = true := by
  unfold okP
  simp only [Bool.and_eq_true, decide_eq_true_eq, Bool.not_eq_true', beq_eq_false_iff_ne]
  omega
 have B1 : Hid (Below w.heap.size w (w.alloc (.cells #[.int .i64 a, .int .i64 b] 47))) := (Below.refl _ _).alloc (Nat.le_refl _) _
 have AP := yac (ykt nb n pb rbs w.heap.size 1 a b (w.alloc (.cells #[.int .i64 a, .int .i64 b] 47)) (h.below hn hp B1.out) (by simp; omega) (by simp; omega) (by simp) (by simp [go_sem]) (by simp [go_sem]))
 rw [hok] at AP
 have PO : Hid (∀ V, Below w.heap.size w V → Calls Tryz.prog 61 #[.pointer (some ⟨nb, 0, none⟩), .int .i64 a, .string p] V fun e w' => e = .returned (.tuple #[.pointer (some ⟨ra, 0, none⟩), .int .i64 0]) ∧ w' = V) := fun V hV => yhz nb n pb rbs a ra p V (h.below hn hp hV) ha hpo hs
 have NC : Hid (∀ V, Below w.heap.size w V → (∃ cap, V.cell? ⟨nb, 0, none⟩ = some (.slice (some ⟨pb, 0, none⟩) n cap)) ∧ V.cell? ⟨pb, b, none⟩ = some (.pointer (some ⟨rb, 0, none⟩))) := fun V hV => by
  have q := h.below hn hp hV
  obtain ⟨cap, hc⟩ := q.blk
  exact ⟨⟨cap, by simp [World.cell?, hc]⟩, q.row b rb hb⟩
 have hn6 := h.n6
 clear h hok ha hb hpo hs
 go_enter Tryz.func65, Tryz.ntmps65
 go_wp2_with (first
  |(go_at_call 40; refine AP.out.mono ?_; rintro e w1 ⟨rfl, hb1⟩; have B2 := yac (B1.out.trans (hb1.mono (by simp))); clear hb1)
  |(go_at_call 61; refine (PO.out _ B2.out).mono ?_; rintro e w2 ⟨rfl, rfl⟩; obtain ⟨⟨cap, c0⟩, cr⟩ := NC.out _ B2.out))
 go_quiet (fail)
 go_wp2
 go_ret3
 exact ⟨rfl, B2.out.os, B2.out.tape, B2.out.output, B2.out.size, B2.out.block⟩
structure RS where
 cm : Nat → Int
 E : yat
structure Nt (w : World) (nb pb : Nat) (L : List (Nat × Nat)) (S : List RS) : Prop where
 net : ypr w nb S.length pb (L.map (·.1))
 rep : ∀ (i : Nat) x s, L[i]? = some x → S[i]? = some s → Rg w x.1 i s.cm x.2 s.E
 nlt : nb < w.heap.size
 plt : pb < w.heap.size
 apart : (nb :: pb :: (L.map (·.1) ++ L.map (·.2))).Nodup
 pbk : ∃ cur, w.heap[pb]? = some (.cells cur 92 (0, 0))
theorem Nt.below {w w' : World} {nb pb : Nat} {L : List (Nat × Nat)} {S : List RS} (h : Nt w nb pb L S) (hb : Below w.heap.size w w') : Nt w' nb pb L S :=
 ⟨h.net.below h.nlt h.plt hb, fun i x s h1 h2 => (h.rep i x s h1 h2).below hb, Nat.lt_of_lt_of_le h.nlt hb.size, Nat.lt_of_lt_of_le h.plt hb.size, h.apart, h.pbk.imp fun cur hc => (hb.block _ h.plt).trans hc⟩
theorem Nt.len {w : World} {nb pb : Nat} {L : List (Nat × Nat)} {S : List RS} (h : Nt w nb pb L S) : L.length = S.length := by
 have := h.net.len
 simpa using this
theorem Nt.ne {w : World} {nb pb : Nat} {L : List (Nat × Nat)} {S : List RS} (h : Nt w nb pb L S) {i : Nat} {x : Nat × Nat} (hi : L[i]? = some x) : nb ≠ x.1 ∧ nb ≠ x.2 ∧ pb ≠ x.1 ∧ pb ≠ x.2 := by
 have hm := List.mem_of_getElem? hi
 have h1 := h.apart
 simp only [List.nodup_cons, List.mem_cons, List.mem_append, not_or, List.mem_map] at h1
 obtain ⟨⟨_, n1, n2⟩, ⟨p1, p2⟩, _⟩ := h1
 exact ⟨fun e => n1 ⟨x, hm, e.symm⟩, fun e => n2 ⟨x, hm, e.symm⟩, fun e => p1 ⟨x, hm, e.symm⟩, fun e => p2 ⟨x, hm, e.symm⟩⟩
theorem Nt.ne2 {w : World} {nb pb : Nat} {L : List (Nat × Nat)} {S : List RS} (h : Nt w nb pb L S) {i j : Nat} {x y : Nat × Nat} (hi : L[i]? = some x) (hj : L[j]? = some y) (hij : i ≠ j) : x.1 ≠ y.1 ∧ x.1 ≠ y.2 ∧ x.2 ≠ y.1 ∧ x.2 ≠ y.2 := by
 have h1 := h.apart
 simp only [List.nodup_cons, List.nodup_append] at h1
 obtain ⟨_, _, d1, d2, d3⟩ := h1
 have mx := List.mem_of_getElem? hi
 have my := List.mem_of_getElem? hj
 have key : ∀ (f : Nat × Nat → Nat), (L.map f).Nodup → f x ≠ f y := by
  intro f hf e
  have a1 : (L.map f)[i]? = some (f x) := by rw [List.getElem?_map, hi]; rfl
  have a2 : (L.map f)[j]? = some (f y) := by rw [List.getElem?_map, hj]; rfl
  exact ypa hf a1 a2 hij e
 refine ⟨key _ d1, fun e => ?_, fun e => ?_, key _ d2⟩
 ·exact d3 x.1 (List.mem_map.2 ⟨x, mx, rfl⟩) y.2 (List.mem_map.2 ⟨y, my, rfl⟩) e
 ·exact d3 y.1 (List.mem_map.2 ⟨y, my, rfl⟩) x.2 (List.mem_map.2 ⟨x, mx, rfl⟩) e.symm
theorem Nt.turn {w w' : World} {nb pb : Nat} {L : List (Nat × Nat)} {S : List RS} (h : Nt w nb pb L S) {i : Nat} {x : Nat × Nat} (hi : L[i]? = some x) (hf : Fr (fun k => k = x.1 ∨ k = x.2) w w') {s' : RS} (hr : Rg w' x.1 i s'.cm x.2 s'.E) : Nt w' nb pb L (S.set i s') := by
 obtain ⟨e1, e2, e3, e4⟩ := h.ne hi
 refine ⟨?_, fun j y s hj hs => ?_, Nat.lt_of_lt_of_le h.nlt hf.size, Nat.lt_of_lt_of_le h.plt hf.size, h.apart, h.pbk.imp fun cur hc => (hf.block pb h.plt (by rintro (e | e); exact e3 e; exact e4 e)).trans hc⟩
 ·rw [List.length_set]
  obtain ⟨cap, hc⟩ := h.net.blk
  refine ⟨⟨cap, by rw [hf.block nb h.nlt (by rintro (e | e); exact e1 e; exact e2 e)]; exact hc⟩, h.net.len, fun r b hr => ?_, h.net.n6⟩
  rw [World.cell?_of_block (w := w) (hf.block pb h.plt (by rintro (e | e); exact e3 e; exact e4 e))]
  exact h.net.row r b hr
 ·by_cases hij : i = j
  ·subst hij
   rw [hi] at hj
   cases hj
   have hlt : i < S.length := by have := (List.getElem?_eq_some_iff.1 hi).1; have := h.len; omega
   rw [List.getElem?_set_self hlt] at hs
   cases hs
   exact hr
  ·rw [List.getElem?_set_ne hij] at hs
   have q := h.rep j y s hj hs
   obtain ⟨n1, n2, n3, n4⟩ := h.ne2 hi hj hij
   exact q.keep (hf.block _ q.rep.lt (by rintro (e | e); exact n1 e.symm; exact n3 e.symm)) (hf.block _ q.own.lt (by rintro (e | e); exact n2 e.symm; exact n4 e.symm))
def wrR (s : Nat) (x : RS) (p t : ByteArray) : Int × RS :=
 if (decide (1000000000 ≤ x.cm s) || noRoom (yay s x.cm (yas p x.E)) x.E) = true then (5, x)
 else (0, ⟨nxG s x.cm, ybn (nxG s x.cm) p (ygv s (x.cm s + 1) t (yay s x.cm (yas p x.E))) x.E⟩)
theorem rwrite_any (rb s mb : Nat) (x : RS) (w : World) (h : Rg w rb s x.cm mb x.E) (hl : x.E.length < 999999) (p t : ByteArray) (hp : p.size ≤ 1000000000000) (ht : t.size ≤ 1000000000000) :
  Calls Tryz.prog 62 #[.pointer (some ⟨rb, 0, none⟩), .string p, .string t] w fun e w' => e = .returned (.int .i64 (wrR s x p t).1) ∧ Rg w' rb s (wrR s x p t).2.cm mb (wrR s x p t).2.E ∧ Fr (fun k => k = rb ∨ k = mb) w w' := by
 unfold wrR
 split
 ·next hc =>
  rw [Bool.or_eq_true, decide_eq_true_eq] at hc
  exact ywi rb s x.cm mb x.E w h p t hp hc
 ·next hc =>
  rw [Bool.or_eq_true, decide_eq_true_eq, not_or] at hc
  exact rwrite_ok rb s x.cm mb x.E w h hl p t hp ht (by omega) (by simpa using hc.2)
def rmR (s : Nat) (x : RS) (p : ByteArray) : Int × RS :=
 if (decide (0 < (yay s x.cm (yas p x.E)).bn)) = false then (4, x)
 else if (decide (1000000000 ≤ x.cm s)) = true then (5, x)
 else (0, ⟨nxG s x.cm, ybn (nxG s x.cm) p (yqw s (x.cm s + 1) (yay s x.cm (yas p x.E))) x.E⟩)
theorem ywf (rb s mb : Nat) (x : RS) (w : World) (h : Rg w rb s x.cm mb x.E) (hl : x.E.length < 999999) (p : ByteArray) (hp : p.size ≤ 1000000000000) :
  Calls Tryz.prog 64 #[.pointer (some ⟨rb, 0, none⟩), .string p] w fun e w' => e = .returned (.int .i64 (rmR s x p).1) ∧ Rg w' rb s (rmR s x p).2.cm mb (rmR s x p).2.E ∧ Fr (fun k => k = rb ∨ k = mb) w w' := by
 unfold rmR
 split
 ·next hc => exact ytj rb s x.cm mb x.E w h p hp (by simpa using hc)
 ·next hc =>
  split
  ·next hd => exact yti rb s x.cm mb x.E w h p hp (by simpa using hc) (by simpa using hd)
  ·next hd => exact rremove_ok rb s x.cm mb x.E w h p hp (by simpa using hc) hl (by simp at hd; omega)
def rdR (s : Nat) (x : RS) (p : ByteArray) : ByteArray × Int :=
 if (decide (0 < (yay s x.cm (yas p x.E)).bn)) = true then ((yay s x.cm (yas p x.E)).text, 0) else (⟨#[]⟩, 4)
theorem rread_any (rb s mb : Nat) (x : RS) (w : World) (h : Rg w rb s x.cm mb x.E) (p : ByteArray) (hp : p.size ≤ maxLen) :
  Calls Tryz.prog 63 #[.pointer (some ⟨rb, 0, none⟩), .string p] w fun e w' => e = .returned (.tuple #[.string (rdR s x p).1, .int .i64 (rdR s x p).2]) ∧ Below w.heap.size w w' := by
 unfold rdR
 split
 ·next hc => exact rread_some rb s x.cm mb x.E w h p hp (by simpa using hc)
 ·next hc => exact rread_none rb s x.cm mb x.E w h p hp (by simpa using hc)
theorem nwrite_any {nb pb : Nat} {L : List (Nat × Nat)} {S : List RS} {w : World} (h : Nt w nb pb L S) (r : Nat) {x : Nat × Nat} {s : RS} (hx : L[r]? = some x) (hs : S[r]? = some s) (hl : s.E.length < 999999) (p t : ByteArray) (hp : ycw p = true) (hpm : p.size ≤ 1000000) (ht : t.size ≤ 60) :
  Calls Tryz.prog 29 #[.pointer (some ⟨nb, 0, none⟩), .int .i64 r, .string p, .string t] w fun e w' => e = .returned (.int .i64 (wrR r s p t).1) ∧ Nt w' nb pb L (S.set r (wrR r s p t).2) ∧ Fr (fun k => k = x.1 ∨ k = x.2) w w' := by
 have C := yac (yhz nb S.length pb (L.map (·.1)) r x.1 p w h.net (by rw [List.getElem?_map, hx]; rfl) hp (by unfold maxLen; omega))
 have W1 := yac (rwrite_any x.1 r x.2 s w (h.rep r x s hx hs) hl p t (by omega) (by omega))
 have FN : Hid (∀ w', Rg w' x.1 r (wrR r s p t).2.cm x.2 (wrR r s p t).2.E → Fr (fun k => k = x.1 ∨ k = x.2) w w' → Nt w' nb pb L (S.set r (wrR r s p t).2)) := fun w' h1 h2 => h.turn hx h2 h1
 have d1 : decide ((60 : Int) < (t.size : Int)) = false := by simp; omega
 clear h hx hs hp hpm ht hl
 go_enter Tryz.func29, Tryz.ntmps29
 go_wp2_with (first
  |(go_at_call 61; refine C.out.mono ?_; rintro e w1 ⟨rfl, rfl⟩)
  |(go_at_call 62; refine W1.out.mono ?_; rintro e w2 ⟨rfl, hRr, hFr⟩; have HR := yac hRr; have HF := yac hFr; clear hRr hFr))
 go_ret
 exact ⟨rfl, FN.out _ HR.out HF.out, HF.out⟩
theorem yvk {nb pb : Nat} {L : List (Nat × Nat)} {S : List RS} {w : World} (h : Nt w nb pb L S) (r : Nat) {x : Nat × Nat} {s : RS} (hx : L[r]? = some x) (hs : S[r]? = some s) (hl : s.E.length < 999999) (p : ByteArray) (hp : ycw p = true) (hpm : p.size ≤ 1000000) :
  Calls Tryz.prog 33 #[.pointer (some ⟨nb, 0, none⟩), .int .i64 r, .string p] w fun e w' => e = .returned (.int .i64 (rmR r s p).1) ∧ Nt w' nb pb L (S.set r (rmR r s p).2) ∧ Fr (fun k => k = x.1 ∨ k = x.2) w w' := by
 have C := yac (yhz nb S.length pb (L.map (·.1)) r x.1 p w h.net (by rw [List.getElem?_map, hx]; rfl) hp (by unfold maxLen; omega))
 have W1 := yac (ywf x.1 r x.2 s w (h.rep r x s hx hs) hl p (by omega))
 have FN : Hid (∀ w', Rg w' x.1 r (rmR r s p).2.cm x.2 (rmR r s p).2.E → Fr (fun k => k = x.1 ∨ k = x.2) w w' → Nt w' nb pb L (S.set r (rmR r s p).2)) := fun w' h1 h2 => h.turn hx h2 h1
 clear h hx hs hp hpm hl
 go_enter Tryz.func33, Tryz.ntmps33
 go_wp2_with (first
  |(go_at_call 61; refine C.out.mono ?_; rintro e w1 ⟨rfl, rfl⟩)
  |(go_at_call 64; refine W1.out.mono ?_; rintro e w2 ⟨rfl, hRr, hFr⟩; have HR := yac hRr; have HF := yac hFr; clear hRr hFr))
 go_ret
 exact ⟨rfl, FN.out _ HR.out HF.out, HF.out⟩
theorem nread_any {nb pb : Nat} {L : List (Nat × Nat)} {S : List RS} {w : World} (h : Nt w nb pb L S) (r : Nat) {x : Nat × Nat} {s : RS} (hx : L[r]? = some x) (hs : S[r]? = some s) (p : ByteArray) (hp : ycw p = true) (hpm : p.size ≤ 1000000) :
  Calls Tryz.prog 30 #[.pointer (some ⟨nb, 0, none⟩), .int .i64 r, .string p] w fun e w' => e = .returned (.tuple #[.string (rdR r s p).1, .int .i64 (rdR r s p).2]) ∧ Nt w' nb pb L S ∧ Below w.heap.size w w' := by
 have C := yac (yhz nb S.length pb (L.map (·.1)) r x.1 p w h.net (by rw [List.getElem?_map, hx]; rfl) hp (by unfold maxLen; omega))
 have W1 := yac (rread_any x.1 r x.2 s w (h.rep r x s hx hs) p (by unfold maxLen; omega))
 have FN : Hid (∀ w', Below w.heap.size w w' → Nt w' nb pb L S) := fun w' hb => h.below hb
 clear h hx hs hp hpm
 go_enter Tryz.func30, Tryz.ntmps30
 go_wp2_with (first
  |(go_at_call 61; refine C.out.mono ?_; rintro e w1 ⟨rfl, rfl⟩)
  |(go_at_call 63; refine W1.out.mono ?_; rintro e w2 ⟨rfl, hBr⟩; have HB := yac hBr; clear hBr))
 go_ret2
 exact ⟨rfl, FN.out _ HB.out, HB.out⟩
def hasB (R : Rec) (k : Nat → Int) : Bool := decide (R.bn ≤ k R.br.toNat)
theorem yii (R : Rec) (k : Nat → Int) (hR : yfv R) (w : World) :
  Calls Tryz.prog 200 #[.agg #[.int .i64 (k 0), .int .i64 (k 1), .int .i64 (k 2), .int .i64 (k 3), .int .i64 (k 4), .int .i64 (k 5)], ybs R] w fun e w' => e = .returned (.bool (hasB R k)) ∧ Below w.heap.size w w' := by
 obtain ⟨r, hr, hb⟩ := hR
 unfold ybs hasB
 rw [hb]
 have HA := yac (fun V => Has_any k r R.bn hr V)
 unfold ywq at HA
 rw [show ((r : Int).toNat) = r from rfl]
 generalize decide (R.bn ≤ k r) = z at *
 go_enter Tryz.func200, Tryz.ntmps200
 go_wp2_with (go_at_call 224; refine (HA.out _).mono ?_; rintro e w1 ⟨rfl, hb1⟩)
 go_ret
 exact ⟨rfl, (((Below.refl _ _).alloc (Nat.le_refl _) _).alloc (by simp) _).trans (hb1.mono (by simp; omega))⟩
def yqg (a b : Rec) : Bool := (a.br == b.br && a.bn == b.bn) && eqT a.ch b.ch
theorem ytm (x y u v : Int) (w : World) : (Op.equalIn 10000 191 (.agg #[.int .i64 x, .int .i64 y]) (.agg #[.int .i64 u, .int .i64 v])).run Tryz.prog w = .ok (x == u && y == v) w := by
 go_simp
 by_cases h1 : x = u <;> by_cases h2 : y = v <;> simp [h1, h2]
def eqEv (x y : Value) : Sem Value := binOp .eql 191 x y
theorem eqEvent (x y : Value) : binOp .eql 191 x y = eqEv x y := rfl
theorem run_eqEv (x y u v : Int) (w : World) : (eqEv (.agg #[.int .i64 x, .int .i64 y]) (.agg #[.int .i64 u, .int .i64 v])).run Tryz.prog w = .ok (.bool (x == u && y == v)) w := by
 unfold eqEv
 rw [run_eql_struct, ytm]
 rfl
attribute [local go_sem ↓] eqTime eqEvent
attribute [local go_sem] yqz run_eqEv
theorem yqh (a b : Rec) (w : World) :
  Calls Tryz.prog 225 #[ybs a, ybs b] w fun e w' => e = .returned (.bool (yqg a b)) ∧ Below w.heap.size w w' := by
 unfold ybs yqg
 cases hd : (a.br == b.br && a.bn == b.bn)
 all_goals
  go_enter Tryz.func225, Tryz.ntmps225
  go_wp2
  go_ret
  exact ⟨rfl, ((Below.refl _ _).alloc (Nat.le_refl _) _).alloc (by simp) _⟩
end Go.Proofs.YtaelaldmibgibaaGreatDoor
