/- The program's ReadLines: the walk. -/
import Derived.Test.YtaelaldmibgibaaGreatDoorX34

set_option linter.all false
set_option maxHeartbeats 2000000
set_option maxRecDepth 100000

namespace Go.Proofs.K
open Go.RowKit Go.Lib Go.Maps
structure RL (w W : World) (rb s mb : Nat) (cm : Nat → Int) (E : yau) : Prop where
 rp : Rp W rb s cm mb E
 bel : Below w.heap.size w W
 lr : w.heap.size ≤ rb
 lm : w.heap.size ≤ mb
section
variable {w W W' : World} {rb s mb : Nat} {cm : Nat → Int} {E E' : yau}
theorem RL.more (h : RL w W rb s mb cm E) (hb : Below W.heap.size W W') : RL w W' rb s mb cm E := ⟨h.rp.below hb, h.bel.trans (hb.mono h.bel.size), h.lr, h.lm⟩
theorem RL.time (h : RL w W rb s mb cm E) (f : Nat → Int) : RL w (W.setCells rb 1 [.int .i64 (f 0), .int .i64 (f 1), .int .i64 (f 2), .int .i64 (f 3), .int .i64 (f 4), .int .i64 (f 5)]) rb s mb f E :=
 ⟨⟨h.rp.rep.setTime f, ybf h.rp.own (yfy _ _ _ _ _ (fun e => h.rp.rep.ne h.rp.own e.symm)), h.rp.ris⟩, Below.setCells h.bel h.lr _ _, h.lr, h.lm⟩
theorem RL.fr (h : RL w W rb s mb cm E) (hr : Rp W' rb s cm mb E') (hf : Fr (fun k => k = mb) W W') : RL w W' rb s mb cm E' :=
 ⟨hr, h.bel.trans ((hf.mono (T := fun k => w.heap.size ≤ k) (fun k _ e => by rw [e]; exact h.lm)).below h.bel.size), h.lr, h.lm⟩
theorem RL.frb (h : RL w W rb s mb cm E) (hf : Fr (fun k => k = mb) W W') : Below w.heap.size w W' :=
 h.bel.trans ((hf.mono (T := fun k => w.heap.size ≤ k) (fun k _ e => by rw [e]; exact h.lm)).below h.bel.size)
end
attribute [local go_sem ↓] ykp
attribute [local go_sem] ygs
theorem ytm (t : ByteArray) (ht : t.size ≤ 10000000) (s : Nat) (hs : s < 6) (n : Nat) (h1 : 1 ≤ n) (h6 : n ≤ 6) (w : World) (hg : yez w) :
  Calls Tryz.prog 81 #[.string t, .int .i64 s, .int .i64 n] w fun e w' => LAns (yrl n s (bs t)) w' s w.heap.size e ∧ Below w.heap.size w w' := by
 have CL := yab (yoy t ht w hg)
 have NO : Hid (yrl n s (bs t) = none → ∀ W, Below w.heap.size w W → LAns (yrl n s (bs t)) W s w.heap.size (.returned (.tuple #[.pointer none, .string ⟨#[]⟩, .bool false])) ∧ Below w.heap.size w W) := fun e W hW => by
  rw [e]
  exact ⟨rfl, hW⟩
 by_cases hl : (yak (bs t)).length = 2
 ·obtain ⟨a, b, hf⟩ : ∃ a b, yak (bs t) = [a, b] := by
   match hq : yak (bs t), hl with
   |[a, b], _ => exact ⟨a, b, rfl⟩
  have er : yrl n s (bs t) = if a = yly then (yby n b).bind fun c => (ygr n s (lfn c) ((ybi (bs t)).length + 1) (ybi (bs t)) ⟨#[]⟩).bind fun x => if yiq x.2 ≤ 20 then some (x.1, ⟨c, x.2⟩) else none else none := by
   unfold yrl
   rw [hf]
  have hsz : ∀ q ∈ [a, b], q.length ≤ 10000000 := fun q hq => by
   have h1 := ykc 32 (yak (bs t)) q (by rw [hf]; exact hq)
   rw [yht] at h1
   have h2 := (yhr 10 (bs t)).1
   rw [yax] at h2
   unfold ydb at h1
   omega
  have hrs : (yaf (ybi (bs t))).size ≤ 10000000 := by
   rw [yal]
   have h2 := (yhr 10 (bs t)).2
   rw [yax] at h2
   unfold ybi
   omega
  rw [hf] at CL
  have FP : Hid (∀ (W : World) (B : Nat), Flds W B [a, b] → W.cell? ⟨B, 0, none⟩ = some (.string (yaf a)) ∧ W.cell? ⟨B, 1, none⟩ = some (.string (yaf b))) := fun W B hF => ⟨hF.pc 0 a rfl, hF.pc 1 b rfl⟩
  have HQ : Hid (((yaf a).toList == [114, 101, 112, 108, 105, 99, 97]) = decide (a = yly)) := by
   unfold Hid
   rw [ByteArray.toList_eq]
   show ((bs (yaf a)) == yly) = _
   rw [yah]
   by_cases e : a = yly
   ·rw [e]; decide
   ·rw [decide_eq_false e]; simpa using e
  simp only [List.length_cons, List.length_nil] at CL
  by_cases ha : a = yly
  ·rw [if_pos ha] at er
   have hq : ((yaf a).toList == [114, 101, 112, 108, 105, 99, 97]) = true := HQ.out.trans (decide_eq_true ha)
   have NW := yab (fun W => yuz s hs W)
   have RTm : Hid (∀ W, Below w.heap.size w W → Calls Tryz.prog 146 #[.string (yaf b), .int .i64 n] W fun e w' => e = .returned (.tuple #[ygt (lfn ((yby n b).getD [])), .bool (yby n b).isSome]) ∧ Below W.heap.size W w') := fun W hW => by
    have := yiv (yaf b) (by rw [yal]; exact hsz b (by simp)) n h1 h6 W (hg.below hW)
    rw [yah] at this
    exact this
   unfold ygt at RTm
   have NL : Hid (∀ w1 w2 : World, Below w.heap.size w w1 → PRep w2 (w1.heap.size + 1) s w1.heap.size 0 [] → Below w1.heap.size w1 w2 → RL w w2 (w1.heap.size + 1) s w1.heap.size (tf s 0) []) := fun w1 w2 hb hp hb2 => ⟨⟨hp.rep, hp.own, hp.ris⟩, hb.trans (hb2.mono hb.size), by have := hb.size; omega, hb.size⟩
   have FK : Hid (∀ (w1 w2 : World) (B : Nat), Flds w1 B [a, b] → Below w1.heap.size w1 w2 → w2.cell? ⟨B, 1, none⟩ = some (.string (yaf b))) := fun w1 w2 B hF hb => (hF.below hb).pc 1 b rfl
   cases htm : yby n b with
   |none =>
    rw [htm] at er RTm
    have NO' := yab (NO.out er)
    simp only [Option.isSome_none] at RTm
    generalize lfn ((none : Option (List Nat)).getD []) = f at *
    generalize yaf (ybi (bs t)) = rs at *
    generalize yrl n s (bs t) = RR at *
    clear hg NO er HQ
    generalize yaf a = sa at *
    generalize yaf b = sb at *
    go_enter Tryz.func81, Tryz.ntmps81
    go_wp2_with (first
     |(go_at_call 145; refine CL.out.mono ?_; rintro e w1 ⟨B, C, rfl, hF, hB, hb1, hcp⟩; have HB := yab hb1; have HF := yab hF; obtain ⟨f0, f1⟩ := FP.out w1 B hF; clear hF hB hb1 hcp)
     |(go_at_call 48; refine (NW.out _).mono ?_; rintro e w2 ⟨rfl, hp2, hb2, hz2⟩; have L2 := yab (NL.out w1 w2 HB.out hp2 hb2); have f1' := FK.out w1 w2 B HF.out hb2; clear hp2 hb2 hz2)
     |(go_at_call 146; refine (RTm.out _ L2.out.bel).mono ?_; rintro e w3 ⟨rfl, hb3⟩; have L3 := yab (L2.out.more hb3); clear hb3; have th3 := L3.out.rp.rep.there; have L4 := yab (L3.out.time f)))
    go_ret3
    exact NO'.out _ L4.out.bel
   |some c =>
    rw [htm] at er RTm
    simp only [Option.isSome_some, Option.getD_some] at RTm
    have RD : Hid (∀ (W : World) (rb mb : Nat), RL w W rb s mb (lfn c) [] → Calls Tryz.prog 147 #[.pointer (some ⟨rb, 0, none⟩), .string (yaf (ybi (bs t))), .int .i64 n] W fun e w' => RAns (ygr n s (lfn c) ((ybi (bs t)).length + 1) (ybi (bs t)) ⟨#[]⟩) w' rb s (lfn c) mb e ∧ Fr (fun k => k = mb) W w') := fun W rb mb hL => by
     have := ypx rb s (lfn c) mb (yaf (ybi (bs t))) hrs n h1 h6 W (hg.below hL.bel) hL.rp (by have := hg.sz; have := hL.lm; omega)
     rw [yal, yah] at this
     exact this
    simp only [Option.bind_some] at er
    cases hrc : ygr n s (lfn c) ((ybi (bs t)).length + 1) (ybi (bs t)) ⟨#[]⟩ with
    |none =>
     rw [hrc] at er RD
     have NO' := yab (NO.out er)
     generalize lfn c = f at *
     generalize yaf (ybi (bs t)) = rs at *
     generalize yrl n s (bs t) = RR at *
     clear hg NO er HQ hrc
     generalize yaf a = sa at *
     generalize yaf b = sb at *
     go_enter Tryz.func81, Tryz.ntmps81
     go_wp2_with (first
      |(go_at_call 145; refine CL.out.mono ?_; rintro e w1 ⟨B, C, rfl, hF, hB, hb1, hcp⟩; have HB := yab hb1; have HF := yab hF; obtain ⟨f0, f1⟩ := FP.out w1 B hF; clear hF hB hb1 hcp)
      |(go_at_call 48; refine (NW.out _).mono ?_; rintro e w2 ⟨rfl, hp2, hb2, hz2⟩; have L2 := yab (NL.out w1 w2 HB.out hp2 hb2); have f1' := FK.out w1 w2 B HF.out hb2; clear hp2 hb2 hz2)
      |(go_at_call 146; refine (RTm.out _ L2.out.bel).mono ?_; rintro e w3 ⟨rfl, hb3⟩; have L3 := yab (L2.out.more hb3); clear hb3; have th3 := L3.out.rp.rep.there; have L4 := yab (L3.out.time f))
      |(go_at_call 147; refine (RD.out _ _ _ L4.out).mono ?_; rintro e w5 ⟨hA, hf5⟩; obtain rfl := hA; have F5 := yab (L4.out.frb hf5); clear hf5))
     go_ret3
     exact NO'.out _ F5.out
    |some x =>
     obtain ⟨R, D⟩ := x
     rw [hrc] at er RD
     simp only [Option.bind_some] at er
     obtain ⟨m1, m2, m3, m4⟩ := ysr n s h1 h6 (lfn c) _ _ _ _ hrc
     simp only at m1 m2 m3 m4
     have hDl : D.length ≤ 10000000 := by rw [yal] at hrs; omega
     have FI : Hid (∀ (W : World) (rb mb : Nat), RL w W rb s mb (lfn c) (toE D) → Calls Tryz.prog 129 #[.pointer (some ⟨rb, 0, none⟩)] W fun e w' => e = .returned (.int .i64 (yiq D)) ∧ RL w w' rb s mb (lfn c) (toE D)) := fun W rb mb hL => by
      have := yfo rb s (lfn c) mb W hL.rp.rep (toE D) hL.rp.ris (by rw [toE_len]; omega) hL.rp.own
      rw [toE_there D m1] at this
      exact this.mono fun e w' h => ⟨h.1, hL.more h.2⟩
     by_cases h20 : yiq D ≤ 20
     ·rw [if_pos h20] at er
      have d20 : decide ((20 : Int) < (yiq D : Int)) = false := by simp; omega
      have YES : Hid (∀ (W : World) (rb mb : Nat), RL w W rb s mb (lfn c) (toE D) → LAns (yrl n s (bs t)) W s w.heap.size (.returned (.tuple #[.pointer (some ⟨rb, 0, none⟩), .string (yaf R), .bool true])) ∧ Below w.heap.size w W) := fun W rb mb hL => by
       rw [er]
       exact ⟨⟨rb, mb, rfl, hL.rp, hL.lr, hL.lm⟩, hL.bel⟩
      generalize yiq D = F at *
      generalize lfn c = f at *
      generalize yaf (ybi (bs t)) = rs at *
      generalize yrl n s (bs t) = RR at *
      clear hg NO er HQ hrc m1 m2 m3 m4
      generalize yaf a = sa at *
      generalize yaf b = sb at *
      go_enter Tryz.func81, Tryz.ntmps81
      go_wp2_with (first
       |(go_at_call 145; refine CL.out.mono ?_; rintro e w1 ⟨B, C, rfl, hF, hB, hb1, hcp⟩; have HB := yab hb1; have HF := yab hF; obtain ⟨f0, f1⟩ := FP.out w1 B hF; clear hF hB hb1 hcp)
       |(go_at_call 48; refine (NW.out _).mono ?_; rintro e w2 ⟨rfl, hp2, hb2, hz2⟩; have L2 := yab (NL.out w1 w2 HB.out hp2 hb2); have f1' := FK.out w1 w2 B HF.out hb2; clear hp2 hb2 hz2)
       |(go_at_call 146; refine (RTm.out _ L2.out.bel).mono ?_; rintro e w3 ⟨rfl, hb3⟩; have L3 := yab (L2.out.more hb3); clear hb3; have th3 := L3.out.rp.rep.there; have L4 := yab (L3.out.time f))
       |(go_at_call 147; refine (RD.out _ _ _ L4.out).mono ?_; rintro e w5 ⟨hA, hf5⟩; obtain ⟨rfl, hr5⟩ := hA; have L5 := yab (L4.out.fr hr5 hf5); clear hf5 hr5)
       |(go_at_call 129; refine (FI.out _ _ _ L5.out).mono ?_; rintro e w6 ⟨rfl, hl6⟩; have L6 := yab hl6; clear hl6))
      go_ret3
      exact YES.out _ _ _ L6.out
     ·rw [if_neg h20] at er
      have NO' := yab (NO.out er)
      have d20 : decide ((20 : Int) < (yiq D : Int)) = true := by simp; omega
      generalize yiq D = F at *
      generalize lfn c = f at *
      generalize yaf (ybi (bs t)) = rs at *
      generalize yrl n s (bs t) = RR at *
      clear hg NO er HQ hrc m1 m2 m3 m4
      generalize yaf a = sa at *
      generalize yaf b = sb at *
      go_enter Tryz.func81, Tryz.ntmps81
      go_wp2_with (first
       |(go_at_call 145; refine CL.out.mono ?_; rintro e w1 ⟨B, C, rfl, hF, hB, hb1, hcp⟩; have HB := yab hb1; have HF := yab hF; obtain ⟨f0, f1⟩ := FP.out w1 B hF; clear hF hB hb1 hcp)
       |(go_at_call 48; refine (NW.out _).mono ?_; rintro e w2 ⟨rfl, hp2, hb2, hz2⟩; have L2 := yab (NL.out w1 w2 HB.out hp2 hb2); have f1' := FK.out w1 w2 B HF.out hb2; clear hp2 hb2 hz2)
       |(go_at_call 146; refine (RTm.out _ L2.out.bel).mono ?_; rintro e w3 ⟨rfl, hb3⟩; have L3 := yab (L2.out.more hb3); clear hb3; have th3 := L3.out.rp.rep.there; have L4 := yab (L3.out.time f))
       |(go_at_call 147; refine (RD.out _ _ _ L4.out).mono ?_; rintro e w5 ⟨hA, hf5⟩; obtain ⟨rfl, hr5⟩ := hA; have L5 := yab (L4.out.fr hr5 hf5); clear hf5 hr5)
       |(go_at_call 129; refine (FI.out _ _ _ L5.out).mono ?_; rintro e w6 ⟨rfl, hl6⟩; have L6 := yab hl6; clear hl6))
      go_ret3
      exact NO'.out _ L6.out.bel
  ·rw [if_neg ha] at er
   have NO' := yab (NO.out er)
   have hq : ((yaf a).toList == [114, 101, 112, 108, 105, 99, 97]) = false := HQ.out.trans (decide_eq_false ha)
   generalize yaf (ybi (bs t)) = rs at *
   generalize yrl n s (bs t) = RR at *
   clear hg NO er HQ
   generalize yaf a = sa at *
   generalize yaf b = sb at *
   go_enter Tryz.func81, Tryz.ntmps81
   go_wp2_with (go_at_call 145; refine CL.out.mono ?_; rintro e w1 ⟨B, C, rfl, hF, hB, hb1, hcp⟩; have HB := yab hb1; have HF := yab hF; obtain ⟨f0, f1⟩ := FP.out w1 B hF; clear hF hB hb1 hcp)
   go_ret3
   exact NO'.out _ HB.out
 ·have er : yrl n s (bs t) = none := by
   unfold yrl
   split
   ·rename_i a b hf; rw [hf] at hl; simp at hl
   ·rfl
  have NO' := yab (NO.out er)
  have d2 : (((yak (bs t)).length : Int) != 2) = true := by simp; omega
  have d3 : ¬ ((yak (bs t)).length : Int) = 2 := by omega
  generalize (yak (bs t)).length = L at *
  generalize yak (bs t) = fs at *
  generalize yaf (ybi (bs t)) = rs at *
  generalize yrl n s (bs t) = RR at *
  clear hg NO er
  go_enter Tryz.func81, Tryz.ntmps81
  go_wp2_with (go_at_call 145; refine CL.out.mono ?_; rintro e w1 ⟨B, C, rfl, hF, hB, hb1, hcp⟩; have HB := yab hb1; clear hF hB hb1 hcp)
  go_ret3
  exact NO'.out _ HB.out
end Go.Proofs.K

namespace Go.Proofs.K
open Go.RowKit Go.Lib Go.Maps
theorem repR_len (n s : Nat) (hn : 1 ≤ n) (h6 : n ≤ 6) (t : Bs) (x : Bs × DR) (h : yrl n s t = some x) : x.1.length ≤ t.length ∧ x.2.recs.length ≤ t.length := by
 unfold yrl at h
 split at h
 ·split at h
  ·obtain ⟨c, _, h⟩ := Option.bind_eq_some_iff.1 h
   obtain ⟨y, hy, h⟩ := Option.bind_eq_some_iff.1 h
   split at h
   ·cases h
    have := (ysr n s hn h6 _ _ _ _ _ hy).2.2.2
    have h2 := (yhr 10 t).2
    unfold ybi at this
    simp only
    omega
   ·cases h
  ·cases h
 ·cases h
section
variable {w wr w2 : World} {nb pb n : Nat} {rbs mbs : List Nat} {acc : List DR}
end
end Go.Proofs.K

namespace Go.Proofs.K
open Go.RowKit Go.Lib Go.Maps
open Go.RowKit
theorem ymk.below {w w' : World} {nb n pb : Nat} {rbs : List Nat} (h : ymk w nb n pb rbs) (hn : nb < w.heap.size) (hp : pb < w.heap.size) (hb : Below w.heap.size w w') : ymk w' nb n pb rbs := by
 obtain ⟨cap, hc⟩ := h.blk
 exact ⟨⟨cap, by rw [hb.block nb hn]; exact hc⟩, h.len, fun r b hr => (hb.cell (p := ⟨pb, r, none⟩) hp).trans (h.row r b hr), h.n6⟩
def okP (n : Nat) (a b : Int) : Bool := (decide (0 ≤ a ∧ a < n) && decide (0 ≤ b ∧ b < n)) && !(a == b)
theorem ynk (nb n pb : Nat) (rbs : List Nat) (g cap : Nat) (a b : Int) (w : World) (h : ymk w nb n pb rbs) (hn : nb < w.heap.size) (hp : pb < w.heap.size) (hg : g < w.heap.size) (g0 : w.cell? ⟨g, 0, none⟩ = some (.int .i64 a)) (g1 : w.cell? ⟨g, 1, none⟩ = some (.int .i64 b)) :
  Calls Tryz.prog 40 #[.pointer (some ⟨nb, 0, none⟩), .slice (some ⟨g, 0, none⟩) 1 cap] w fun e w' => e = .returned (.bool (okP n a b)) ∧ Below w.heap.size w w' := by
 have HA : Hid (∀ V r, Below w.heap.size w V → Calls Tryz.prog 36 #[.pointer (some ⟨nb, 0, none⟩), .int .i64 r] V fun e w' => e = .returned (.bool (decide (0 ≤ r ∧ r < n))) ∧ w' = V) := fun V r hb => has_any nb n pb rbs r V (h.below hn hp hb)
 have BB : Hid (∀ o, Below w.heap.size w (w.alloc o)) := fun o => (Below.refl _ _).alloc (Nat.le_refl _) o
 unfold okP
 clear h hn hp
 generalize hz1 : decide (0 ≤ a ∧ a < n) = z1
 generalize hz2 : decide (0 ≤ b ∧ b < n) = z2
 generalize hz3 : (a == b) = z3
 obtain ⟨zz, hzz⟩ : ∃ zz, zz = ((z1 && z2) && !z3) := ⟨_, rfl⟩
 rw [← hzz]
 cases z1 <;> cases z2 <;> cases z3
 all_goals
  have HZ := yab hzz
  clear hzz
  go_enter Tryz.func40, Tryz.ntmps40
  go_wp2
  go_loopw [9] (fun i wi => (i = .int .i64 0 ∧ wi = w) ∨ (i = .int .i64 1 ∧ Hid (zz = true) ∧ Hid (Below w.heap.size w wi))) (fun i _ => 1 - (intOf i).toNat)
  case atStart => exact .inl ⟨rfl, rfl⟩
  case round =>
   rcases hrel with ⟨rfl, rfl⟩ | ⟨rfl, hzt, hb⟩
   ·go_wp2_with (go_at_call 36; refine (HA.out _ _ (BB.out _)).mono ?_; rintro e wn ⟨rfl, rfl⟩)
    first
     |(go_ret; exact ⟨by rw [HZ.out]; rfl, BB.out _⟩)
     |exact ⟨.inr ⟨rfl, HZ.out, BB.out _⟩, by simp [intOf]⟩
   ·go_wp2
    go_ret
    exact ⟨by rw [hzt.out]; rfl, hb.out⟩
theorem ywh (g cap : Nat) (a b : Nat) (ha : a < 6) (hb : b < 6) (w : World) (hg : g < w.heap.size) (g0 : w.cell? ⟨g, 0, none⟩ = some (.int .i64 a)) (g1 : w.cell? ⟨g, 1, none⟩ = some (.int .i64 b)) :
  Calls Tryz.prog 41 #[.slice (some ⟨g, 0, none⟩) 1 cap] w fun e w' => e = .returned (.bool true) ∧ Below w.heap.size w w' := by
 have la : ∀ h, ([Value.bool false, Value.bool false, Value.bool false, Value.bool false, Value.bool false, Value.bool false])[a]'h = .bool false := by
  intro h
  match a, ha with
  |0, _ | 1, _ | 2, _ | 3, _ | 4, _ | 5, _ => rfl
 have lb : ∀ h, ([Value.bool false, Value.bool false, Value.bool false, Value.bool false, Value.bool false, Value.bool false])[b]'h = .bool false := by
  intro h
  match b, hb with
  |0, _ | 1, _ | 2, _ | 3, _ | 4, _ | 5, _ => rfl
 have BB : Hid (∀ o o', Below w.heap.size w ((w.alloc o).alloc o').drew) := fun o o' => ((((Below.refl _ _).alloc (Nat.le_refl _) o)).alloc (by simp) o').drew
 go_enter Tryz.func41, Tryz.ntmps41
 go_wp2
 go_loopw [8] (fun i wi => (i = .int .i64 0 ∧ wi = w.alloc (.cells #[.bool false, .bool false, .bool false, .bool false, .bool false, .bool false] 140)) ∨ (i = .int .i64 1 ∧ Hid (Below w.heap.size w wi))) (fun i _ => 1 - (intOf i).toNat)
 case atStart => exact .inl ⟨rfl, rfl⟩
 case round =>
  rcases hrel with ⟨rfl, rfl⟩ | ⟨rfl, hb⟩
  ·go_wp2
   go_region
   all_goals
    go_wp2
    refine ⟨.inr ⟨rfl, ?_⟩, by simp [intOf]⟩
    exact BB.out _ _
  ·go_wp2
   go_ret
   exact ⟨rfl, hb.out⟩
open Go.RowKit Go.Maps
structure Sg (w V : World) (rb s mb b : Nat) (cm : Nat → Int) (E : yau) (R : Rec) (eb : Nat) (eo : Option Obj) : Prop where
 rc : yap V b R
 rep : ybs V rb s cm mb
 own : V.ownsMap Tryz.prog 9 yar mb E.length (ycb E)
 fr : Fr (fun k => k = rb ∨ k = mb) w V
 rlt : rb < w.heap.size
 mlt : mb < w.heap.size
 bge : w.heap.size ≤ b
 ev : ∀ o, eo = some o → V.heap[eb]? = some o ∧ eb ≠ b ∧ w.heap.size ≤ eb
section
variable {w V V' : World} {rb s mb b : Nat} {cm : Nat → Int} {E : yau} {R R' : Rec} {eb : Nat} {eo : Option Obj}
theorem Sg.elt (S : Sg w V rb s mb b cm E R eb eo) (o : Obj) (ho : eo = some o) : eb < V.heap.size := (Array.getElem?_eq_some_iff.1 (S.ev o ho).1).1
theorem Sg.below (S : Sg w V rb s mb b cm E R eb eo) (hb : Below V.heap.size V V') : Sg w V' rb s mb b cm E R eb eo :=
 ⟨S.rc.more hb, S.rep.keep (hb.block _ S.rep.lt), ybf S.own (hb.block _ S.own.lt), S.fr.trans (Fr.of_below hb), S.rlt, S.mlt, S.bge, fun o ho => ⟨by rw [hb.block _ (S.elt o ho)]; exact (S.ev o ho).1, (S.ev o ho).2⟩⟩
theorem Sg.drewN (S : Sg w V rb s mb b cm E R eb eo) (k : Nat) : Sg w (V.drewN k) rb s mb b cm E R eb eo := S.below ⟨rfl, rfl, rfl, Nat.le_refl _, fun _ _ => rfl⟩
theorem Sg.onRec (S : Sg w V rb s mb b cm E R eb eo) (hf : Fr (fun k => k = b) V V') (hr : yap V' b R') : Sg w V' rb s mb b cm E R' eb eo := by
 have h1 : rb ≠ b := by have := S.rlt; have := S.bge; omega
 have h2 : mb ≠ b := by have := S.mlt; have := S.bge; omega
 refine ⟨hr, S.rep.keep (hf.block _ S.rep.lt h1), ybf S.own (hf.block _ S.own.lt h2), S.fr.trans' hf (fun i hi e => by have := S.bge; omega), S.rlt, S.mlt, S.bge, fun o ho => ?_⟩
 obtain ⟨e1, e2, e3⟩ := S.ev o ho
 exact ⟨by rw [hf.block _ (S.elt o ho) e2]; exact e1, e2, e3⟩
theorem Sg.alloc_ev (S : Sg w V rb s mb b cm E R eb eo) (o : Obj) : Sg w (V.alloc o) rb s mb b cm E R V.heap.size (some o) := by
 have hb : Below V.heap.size V (V.alloc o) := (Below.refl _ _).alloc (Nat.le_refl _) o
 refine ⟨S.rc.more hb, S.rep.keep (hb.block _ S.rep.lt), ybf S.own (hb.block _ S.own.lt), S.fr.trans (Fr.of_below hb), S.rlt, S.mlt, S.bge, fun o' ho => ?_⟩
 cases ho
 exact ⟨heap_alloc_new _ _, by have := S.rc.lt; omega, S.fr.size⟩
theorem Sg.start {w1 : World} (h : Rg w rb s cm mb E) (hb : Below w.heap.size w w1) (R : Rec) :
  Sg w (w1.alloc (.cells #[.string R.text, .int .i64 R.br, .int .i64 R.bn, .int .i64 (R.ch 0), .int .i64 (R.ch 1), .int .i64 (R.ch 2), .int .i64 (R.ch 3), .int .i64 (R.ch 4), .int .i64 (R.ch 5), .int .i64 (R.kn 0), .int .i64 (R.kn 1), .int .i64 (R.kn 2), .int .i64 (R.kn 3), .int .i64 (R.kn 4), .int .i64 (R.kn 5)] 197)) rb s mb w1.heap.size cm E R 0 none := by
 have h1 := h.below hb
 have hz := hb.size
 exact ⟨⟨heap_alloc_new _ _⟩, h1.rep.keep (Below.heap_alloc _ _ _ h1.rep.lt), ybf h1.own (Below.heap_alloc _ _ _ h1.own.lt), (Fr.of_below hb).alloc _, h.rep.lt, h.own.lt, hz, fun o ho => by cases ho⟩
theorem Sg.full (S : Sg w V rb s mb b cm E R eb eo) : Calls Tryz.prog 105 #[.pointer (some ⟨rb, 0, none⟩)] V fun e w' => e = .returned (.bool (decide (1000000000 ≤ cm s))) ∧ Sg w w' rb s mb b cm E R eb eo := by
 refine (yix rb s cm mb V S.rep).mono ?_
 rintro e w' ⟨rfl, nq, rfl⟩
 exact ⟨rfl, S.drewN nq⟩
theorem Sg.there (S : Sg w V rb s mb b cm E R eb eo) : Calls Tryz.prog 113 #[.agg #[.string R.text, .int .i64 R.br, .int .i64 R.bn, .int .i64 (R.ch 0), .int .i64 (R.ch 1), .int .i64 (R.ch 2), .int .i64 (R.ch 3), .int .i64 (R.ch 4), .int .i64 (R.ch 5)]] V fun e w' => e = .returned (.bool (decide (0 < R.bn))) ∧ Sg w w' rb s mb b cm E R eb eo := by
 refine (yaw _ _ _ _ _ _ _ _ _ V).mono ?_
 rintro e w' ⟨rfl, hb⟩
 exact ⟨rfl, S.below hb⟩
theorem Sg.files (S : Sg w V rb s mb b cm E R eb eo) (h : Rg w rb s cm mb E) : Calls Tryz.prog 129 #[.pointer (some ⟨rb, 0, none⟩)] V fun e w' => e = .returned (.int .i64 (ybw E).length) ∧ Sg w w' rb s mb b cm E R eb eo := by
 refine (yfo rb s cm mb V S.rep E h.ris (by have := h.len; omega) S.own).mono ?_
 rintro e w' ⟨rfl, hb⟩
 exact ⟨rfl, S.below hb⟩
theorem Sg.next (S : Sg w V rb s mb b cm E R eb eo) (h0 : 0 ≤ cm s) (hc : cm s < 1000000000) : Calls Tryz.prog 107 #[.pointer (some ⟨rb, 0, none⟩)] V fun e w' => e = .returned (.agg #[.int .i64 s, .int .i64 (cm s + 1)]) ∧ Sg w w' rb s mb b (yac cm (tf s (cm s + 1))) E R eb eo := by
 refine (next_any rb s cm mb V S.rep h0 hc).mono ?_
 rintro e w' ⟨rfl, hr, hf⟩
 have h1 : b ≠ rb := by have := S.rlt; have := S.bge; omega
 have h2 := (S.rep.ne S.own).symm
 refine ⟨rfl, S.rc.keep (hf.block _ S.rc.lt h1), hr, ybf S.own (hf.block _ S.own.lt h2), S.fr.trans (hf.mono (fun k _ e => .inl e)), S.rlt, S.mlt, S.bge, fun o ho => ?_⟩
 obtain ⟨e1, e2, e3⟩ := S.ev o ho
 have := S.rlt
 exact ⟨by rw [hf.block _ (S.elt o ho) (by omega)]; exact e1, e2, e3⟩
theorem Sg.clone (S : Sg w V rb s mb b cm E R eb eo) (t : ByteArray) (ht : t.size ≤ 1000000000000) : Calls Tryz.prog 109 #[.string t] V fun e w' => e = .returned (.string t) ∧ Sg w w' rb s mb b cm E R eb eo := by
 refine (yox t V ht).mono ?_
 rintro e w' ⟨rfl, hb⟩
 exact ⟨rfl, S.below hb⟩
theorem Sg.write (S : Sg w V rb s mb b cm E R eb eo) (x : Int) (t : ByteArray) (hbn : 0 ≤ R.bn) : Calls Tryz.prog 108 #[.pointer (some ⟨b, 0, none⟩), .string t, .agg #[.int .i64 s, .int .i64 x]] V fun e w' => e = .returned (.tuple #[]) ∧ Sg w w' rb s mb b cm E (yea s x t R) eb eo := by
 refine (write_rec b s x t R S.rep.hs V S.rc hbn).mono ?_
 rintro e w' ⟨rfl, hr, hf⟩
 exact ⟨rfl, S.onRec hf hr⟩
theorem Sg.remove (S : Sg w V rb s mb b cm E R eb eo) : Calls Tryz.prog 114 #[.pointer (some ⟨b, 0, none⟩)] V fun e w' => e = .returned (.tuple #[]) ∧ Sg w w' rb s mb b cm E ⟨⟨#[]⟩, 0, 0, fun _ => 0, R.kn⟩ eb eo := by
 refine (yss b R V S.rc).mono ?_
 rintro e w' ⟨rfl, hr, hf⟩
 exact ⟨rfl, S.onRec hf hr⟩
theorem Sg.alone (S : Sg w V rb s mb b cm E R eb eo) (x : Int) : Calls Tryz.prog 111 #[.agg #[.int .i64 s, .int .i64 x]] V fun e w' => e = .returned (.agg #[.int .i64 (tf s x 0), .int .i64 (tf s x 1), .int .i64 (tf s x 2), .int .i64 (tf s x 3), .int .i64 (tf s x 4), .int .i64 (tf s x 5)]) ∧ Sg w w' rb s mb b cm E R eb eo := by
 refine (yjs s x V S.rep.hs).mono ?_
 rintro e w' ⟨rfl, hb⟩
 exact ⟨rfl, S.below hb⟩
theorem Sg.hear (S : Sg w V rb s mb b cm E R eb eo) (u : Nat → Int) (ty : TypeId) : Calls Tryz.prog 110 #[.pointer (some ⟨b, 9, none⟩), .slice (some ⟨V.heap.size, 0, none⟩) 1 1] (V.alloc (.cells #[.int .i64 (u 0), .int .i64 (u 1), .int .i64 (u 2), .int .i64 (u 3), .int .i64 (u 4), .int .i64 (u 5)] ty)) fun e w' => e = .returned (.tuple #[]) ∧ Sg w w' rb s mb b cm E ⟨R.text, R.br, R.bn, R.ch, yac R.kn u⟩ eb eo := by
 have S' := S.below ((Below.refl _ _).alloc (Nat.le_refl _) (.cells #[.int .i64 (u 0), .int .i64 (u 1), .int .i64 (u 2), .int .i64 (u 3), .int .i64 (u 4), .int .i64 (u 5)] ty))
 refine (hear_rec b V.heap.size 1 u R _ S'.rc (by simp) (ynl V u ty)).mono ?_
 rintro e w' ⟨rfl, hr, hf⟩
 exact ⟨rfl, S'.onRec hf hr⟩
theorem Sg.room (S : Sg w V rb s mb b cm E R eb eo) (h : Rg w rb s cm mb E) (rm : Bool) (hrm : (!decide (0 < R.bn) && decide ((20 : Int) ≤ ((ybw E).length : Int))) = rm) : Calls Tryz.prog 106 #[.pointer (some ⟨rb, 0, none⟩), .agg #[.string R.text, .int .i64 R.br, .int .i64 R.bn, .int .i64 (R.ch 0), .int .i64 (R.ch 1), .int .i64 (R.ch 2), .int .i64 (R.ch 3), .int .i64 (R.ch 4), .int .i64 (R.ch 5), .int .i64 (R.kn 0), .int .i64 (R.kn 1), .int .i64 (R.kn 2), .int .i64 (R.kn 3), .int .i64 (R.kn 4), .int .i64 (R.kn 5)]] V fun e w' => e = .returned (.bool rm) ∧ Sg w w' rb s mb b cm E R eb eo := by
 have S1 := yab (S.below ((Below.refl _ _).alloc (Nat.le_refl _) (.cells #[.string R.text, .int .i64 R.br, .int .i64 R.bn, .int .i64 (R.ch 0), .int .i64 (R.ch 1), .int .i64 (R.ch 2), .int .i64 (R.ch 3), .int .i64 (R.ch 4), .int .i64 (R.ch 5), .int .i64 (R.kn 0), .int .i64 (R.kn 1), .int .i64 (R.kn 2), .int .i64 (R.kn 3), .int .i64 (R.kn 4), .int .i64 (R.kn 5)] 197)))
 have H := yab h
 obtain ⟨k0, k1, k2, k3, k4, k5, k6, k7, k8, _⟩ := (⟨heap_alloc_new V _⟩ : yap (V.alloc (.cells #[.string R.text, .int .i64 R.br, .int .i64 R.bn, .int .i64 (R.ch 0), .int .i64 (R.ch 1), .int .i64 (R.ch 2), .int .i64 (R.ch 3), .int .i64 (R.ch 4), .int .i64 (R.ch 5), .int .i64 (R.kn 0), .int .i64 (R.kn 1), .int .i64 (R.kn 2), .int .i64 (R.kn 3), .int .i64 (R.kn 4), .int .i64 (R.kn 5)] 197)) V.heap.size R).cells
 clear S h
 cases hd : decide (0 < R.bn)
 all_goals
  rw [hd] at hrm
  have HR := yab hrm
  clear hrm
  go_enter Tryz.func106, Tryz.ntmps106
  go_wp2_with (first
   |(go_at_call 113; refine S1.out.there.mono ?_; rintro e w3 ⟨rfl, S3r⟩; have S3 := yab S3r; clear S3r)
   |(go_at_call 129; refine (S3.out.files H.out).mono ?_; rintro e w4 ⟨rfl, S4r⟩; have S4 := yab S4r; clear S4r))
  go_ret
  refine ⟨?_, by first | exact S4.out | exact S3.out⟩
  rw [← HR.out]
  rfl
theorem Sg.keepAll (S : Sg w V rb s mb b cm E R eb eo) {cm0 : Nat → Int} (h : Rg w rb s cm0 mb E) (hc : 0 ≤ cm s) (p : ByteArray) (hp : p.size ≤ 1000000000000) (h0 : 0 ≤ R.bn) (hbr : ykr R) (hl : E.length < 999999) :
  Calls Tryz.prog 112 #[.pointer (some ⟨rb, 0, none⟩), .string p, .agg #[.string R.text, .int .i64 R.br, .int .i64 R.bn, .int .i64 (R.ch 0), .int .i64 (R.ch 1), .int .i64 (R.ch 2), .int .i64 (R.ch 3), .int .i64 (R.ch 4), .int .i64 (R.ch 5), .int .i64 (R.kn 0), .int .i64 (R.kn 1), .int .i64 (R.kn 2), .int .i64 (R.kn 3), .int .i64 (R.kn 4), .int .i64 (R.kn 5)]] V fun e w' => e = .returned (.tuple #[]) ∧ Rg w' rb s cm mb (yce cm p R E) ∧ Fr (fun k => k = rb ∨ k = mb) w w' := by
 refine (ypf rb s cm mb E V S.rep S.own h.ris (by have := h.len; unfold maxLen; omega) p hp R h0).mono ?_
 rintro e w' ⟨rfl, hr, ho, hf⟩
 refine ⟨rfl, ⟨hr, ho, yco cm p R E h.ris, fun x hx => ?_, ?_, hc⟩, S.fr.trans (hf.mono (fun k _ e => .inr e))⟩
 ·rcases yjg hx with rfl | hx
  ·exact ⟨h0, hbr⟩
  ·exact h.bn x hx
 ·have := ylo cm p R E
  omega
end
end Go.Proofs.K

namespace Go.Proofs.K
open Go.RowKit Go.Maps
variable {s : Nat} {R : Rec} {x : Int}
theorem rread_some (rb s : Nat) (cm : Nat → Int) (mb : Nat) (E : yau) (w : World) (h : Rg w rb s cm mb E) (p : ByteArray) (hp : p.size ≤ maxLen) (hg : 0 < (ybk s cm (ybh p E)).bn) :
  Calls Tryz.prog 63 #[.pointer (some ⟨rb, 0, none⟩), .string p] w fun e w' => e = .returned (.tuple #[.string (ybk s cm (ybh p E)).text, .int .i64 0]) ∧ Below w.heap.size w w' := by
 have C := yaz rb s cm mb E w h.rep h.own p hp
 generalize ybk s cm (ybh p E) = R at *
 have hd0 : decide (0 < R.bn) = true := by simp [hg]
 simp only [yad] at C
 have CH := yab C
 clear C hg h
 go_enter Tryz.func63, Tryz.ntmps63
 go_wp2_with (first
  |(go_at_call 104; refine CH.out.mono ?_; rintro e w1 ⟨rfl, hb1r⟩; have hb1 := yab hb1r; clear hb1r)
  |(go_at_call 113; refine (yaw _ _ _ _ _ _ _ _ _ _).mono ?_; rintro e w2 ⟨rfl, hb2r⟩; have t0 : w2.cell? ⟨w1.heap.size, 0, none⟩ = some (.string R.text) := (hb2r.cell (p := ⟨w1.heap.size, 0, none⟩) (by simp)).trans (by simp [go_sem]); have hb2 := yab (yru hb1.out hb2r); clear hb2r))
 go_ret2
 exact ⟨rfl, hb2.out⟩
theorem rread_none (rb s : Nat) (cm : Nat → Int) (mb : Nat) (E : yau) (w : World) (h : Rg w rb s cm mb E) (p : ByteArray) (hp : p.size ≤ maxLen) (hg : ¬ 0 < (ybk s cm (ybh p E)).bn) :
  Calls Tryz.prog 63 #[.pointer (some ⟨rb, 0, none⟩), .string p] w fun e w' => e = .returned (.tuple #[.string ⟨#[]⟩, .int .i64 4]) ∧ Below w.heap.size w w' := by
 have C := yaz rb s cm mb E w h.rep h.own p hp
 generalize ybk s cm (ybh p E) = R at *
 have hd0 : decide (0 < R.bn) = false := by simp [hg]
 simp only [yad] at C
 have CH := yab C
 clear C hg h
 go_enter Tryz.func63, Tryz.ntmps63
 go_wp2_with (first
  |(go_at_call 104; refine CH.out.mono ?_; rintro e w1 ⟨rfl, hb1r⟩; have hb1 := yab hb1r; clear hb1r)
  |(go_at_call 113; refine (yaw _ _ _ _ _ _ _ _ _ _).mono ?_; rintro e w2 ⟨rfl, hb2r⟩; have hb2 := yab (yru hb1.out hb2r); clear hb2r))
 go_ret2
 exact ⟨rfl, hb2.out⟩
theorem tf_self (s : Nat) (c : Int) (hs : s < 6) : tf s c s = c := by
 unfold tf one
 match s, hs with
 |0, _ | 1, _ | 2, _ | 3, _ | 4, _ | 5, _ => rfl
def nxG (s : Nat) (cm : Nat → Int) : Nat → Int := yac cm (tf s (cm s + 1))
def noRoom (R : Rec) (E : yau) : Bool := !decide (0 < R.bn) && decide ((20 : Int) ≤ ((ybw E).length : Int))
def yio (s : Nat) (x : Int) (t : ByteArray) (R : Rec) : Rec := ⟨t, (yea s x t R).br, (yea s x t R).bn, (yea s x t R).ch, yac R.kn (tf s x)⟩
theorem yoh (s : Nat) (hs : s < 6) (cm : Nat → Int) (h0 : 0 ≤ cm s) : nxG s cm s = cm s + 1 := by
 unfold nxG yac g1 zer
 rw [tf_self s _ hs]
 (repeat' split) <;> omega
theorem rwrite_full (rb s : Nat) (cm : Nat → Int) (mb : Nat) (E : yau) (w : World) (h : Rg w rb s cm mb E) (p t : ByteArray) (hp : p.size ≤ 1000000000000) (hf : 1000000000 ≤ cm s ∨ noRoom (ybk s cm (ybh p E)) E = true) :
  Calls Tryz.prog 62 #[.pointer (some ⟨rb, 0, none⟩), .string p, .string t] w fun e w' => e = .returned (.int .i64 5) ∧ Rg w' rb s cm mb E ∧ Fr (fun k => k = rb ∨ k = mb) w w' := by
 have C := yaz rb s cm mb E w h.rep h.own p (by unfold maxLen; omega)
 have fin : Hid (∀ V b R eb eo, Sg w V rb s mb b cm E R eb eo → Rg V rb s cm mb E ∧ Fr (fun k => k = rb ∨ k = mb) w V) := fun V b R eb eo S => ⟨⟨S.rep, S.own, h.ris, h.bn, h.len, h.c0⟩, S.fr⟩
 have H := yab h
 generalize ybk s cm (ybh p E) = R1 at C hf
 simp only [yad] at C
 have CH := yab C
 by_cases hc : 1000000000 ≤ cm s
 ·have hd : decide (1000000000 ≤ cm s) = true := by simp [hc]
  clear C h hf
  go_enter Tryz.func62, Tryz.ntmps62
  go_wp2_with (first
   |(go_at_call 104; refine CH.out.mono ?_; rintro e w1 ⟨rfl, hb1r⟩; have S1 := yab (Sg.start H.out hb1r R1); clear hb1r)
   |(go_at_call 105; refine S1.out.full.mono ?_; rintro e w2 ⟨rfl, S2r⟩; have S2 := yab S2r; clear S2r))
  go_ret
  exact ⟨rfl, fin.out _ _ _ _ _ S2.out⟩
 ·have hrm := hf.resolve_left hc
  unfold noRoom at hrm
  have hd : decide (1000000000 ≤ cm s) = false := by simp; omega
  have HRM := yab hrm
  clear C h hf hc hrm
  go_enter Tryz.func62, Tryz.ntmps62
  go_wp2_with (first
   |(go_at_call 104; refine CH.out.mono ?_; rintro e w1 ⟨rfl, hb1r⟩; have S1 := yab (Sg.start H.out hb1r R1); clear hb1r)
   |(go_at_call 105; refine S1.out.full.mono ?_; rintro e w2 ⟨rfl, S2r⟩; have S2 := yab S2r; obtain ⟨k0, k1, k2, k3, k4, k5, k6, k7, k8, k9, k10, k11, k12, k13, k14⟩ := S2r.rc.cells; clear S2r)
   |(go_at_call 106; refine (S2.out.room H.out true HRM.out).mono ?_; rintro e w4 ⟨rfl, S4r⟩; have S4 := yab S4r; clear S4r))
  go_ret
  exact ⟨rfl, fin.out _ _ _ _ _ S4.out⟩
theorem Sg.evCells {w V : World} {rb mb b : Nat} {cm : Nat → Int} {E : yau} {eb : Nat} (S : Sg w V rb s mb b cm E R eb (some (.cells #[.int .i64 s, .int .i64 x] 191))) :
  V.cell? ⟨eb, 0, none⟩ = some (.int .i64 s) ∧ V.cell? ⟨eb, 1, none⟩ = some (.int .i64 x) := by
 have h := (S.ev _ rfl).1
 constructor
 ·simp only [World.cell?, h]; rfl
 ·simp only [World.cell?, h]; rfl
theorem written_ok {t : ByteArray} (hs : s < 6) (hx : 0 < x) (h0 : 0 ≤ R.bn) (hb : ykr R) : 0 ≤ (yio s x t R).bn ∧ ykr (yio s x t R) := by
 unfold yio yea ykr
 constructor
 ·show 0 ≤ (if 0 < R.bn then R.bn else x)
  split <;> omega
 ·show ∃ r : Nat, r < 6 ∧ (if 0 < R.bn then R.br else (s : Int)) = r
  split
  ·exact hb
  ·exact ⟨s, hs, rfl⟩
theorem rwrite_ok (rb s : Nat) (cm : Nat → Int) (mb : Nat) (E : yau) (w : World) (h : Rg w rb s cm mb E) (hl : E.length < 999999) (p t : ByteArray) (hp : p.size ≤ 1000000000000) (ht : t.size ≤ 1000000000000) (hc : cm s < 1000000000) (hrm : noRoom (ybk s cm (ybh p E)) E = false) :
  Calls Tryz.prog 62 #[.pointer (some ⟨rb, 0, none⟩), .string p, .string t] w fun e w' => e = .returned (.int .i64 0) ∧ Rg w' rb s (nxG s cm) mb (yce (nxG s cm) p (yio s (cm s + 1) t (ybk s cm (ybh p E))) E) ∧ Fr (fun k => k = rb ∨ k = mb) w w' := by
 have C := yaz rb s cm mb E w h.rep h.own p (by unfold maxLen; omega)
 have H := yab h
 have hc0 := h.c0
 have hs := h.rep.hs
 have hns := yoh s hs cm hc0
 obtain ⟨hb0, hbr⟩ := yif h p
 have hd : decide (1000000000 ≤ cm s) = false := by simp; omega
 generalize ybk s cm (ybh p E) = R1 at *
 simp only [yad] at C
 have CH := yab C
 have HB0 := yab hb0
 have KI : Hid (∀ V b eb eo, Sg w V rb s mb b (yac cm (tf s (cm s + 1))) E ⟨(yea s (cm s + 1) t R1).text, (yea s (cm s + 1) t R1).br, (yea s (cm s + 1) t R1).bn, (yea s (cm s + 1) t R1).ch, yac (yea s (cm s + 1) t R1).kn (tf s (cm s + 1))⟩ eb eo → Calls Tryz.prog 112 #[.pointer (some ⟨rb, 0, none⟩), .string p, .agg #[.string (yea s (cm s + 1) t R1).text, .int .i64 (yea s (cm s + 1) t R1).br, .int .i64 (yea s (cm s + 1) t R1).bn, .int .i64 ((yea s (cm s + 1) t R1).ch 0), .int .i64 ((yea s (cm s + 1) t R1).ch 1), .int .i64 ((yea s (cm s + 1) t R1).ch 2), .int .i64 ((yea s (cm s + 1) t R1).ch 3), .int .i64 ((yea s (cm s + 1) t R1).ch 4), .int .i64 ((yea s (cm s + 1) t R1).ch 5), .int .i64 (yac (yea s (cm s + 1) t R1).kn (tf s (cm s + 1)) 0), .int .i64 (yac (yea s (cm s + 1) t R1).kn (tf s (cm s + 1)) 1), .int .i64 (yac (yea s (cm s + 1) t R1).kn (tf s (cm s + 1)) 2), .int .i64 (yac (yea s (cm s + 1) t R1).kn (tf s (cm s + 1)) 3), .int .i64 (yac (yea s (cm s + 1) t R1).kn (tf s (cm s + 1)) 4), .int .i64 (yac (yea s (cm s + 1) t R1).kn (tf s (cm s + 1)) 5)]] V fun e w' => e = .returned (.tuple #[]) ∧ Rg w' rb s (nxG s cm) mb (yce (nxG s cm) p (yio s (cm s + 1) t R1) E) ∧ Fr (fun k => k = rb ∨ k = mb) w w') := by
  intro V b eb eo S
  have hw := written_ok (t := t) hs (by omega : 0 < cm s + 1) hb0 hbr
  exact S.keepAll H.out (by show 0 ≤ nxG s cm s; rw [hns]; omega) p hp hw.1 hw.2 hl
 clear C h hb0 hbr hns hl
 unfold noRoom at hrm
 have HRM := yab hrm
 clear hrm
 generalize yce (nxG s cm) p (yio s (cm s + 1) t R1) E = E' at KI ⊢
 go_enter Tryz.func62, Tryz.ntmps62
 go_wp2_with (first
  |(go_at_call 104; refine CH.out.mono ?_; rintro e w1 ⟨rfl, hb1r⟩; have S1 := yab (Sg.start H.out hb1r R1); clear hb1r)
  |(go_at_call 105; refine S1.out.full.mono ?_; rintro e w2 ⟨rfl, S2r⟩; have S2 := yab S2r; obtain ⟨k0, k1, k2, k3, k4, k5, k6, k7, k8, k9, k10, k11, k12, k13, k14⟩ := S2r.rc.cells; clear S2r)
  |(go_at_call 106; refine (S2.out.room H.out false HRM.out).mono ?_; rintro e w4 ⟨rfl, S4r⟩; have S4 := yab S4r; clear S4r)
  |(go_at_call 107; refine (S4.out.next hc0 hc).mono ?_; rintro e w5 ⟨rfl, S5r⟩; have S5 := yab S5r; clear S5r))
 clear k0 k1 k2 k3 k4 k5 k6 k7 k8 k9 k10 k11 k12 k13 k14
 have SE := yab ((S5.out.alloc_ev (.cells #[.int .i64 s, .int .i64 (cm s + 1)] 191)).drewN 1)
 have hbn1 := HB0.out
 go_region_law (first
  |(go_simp; go_at_call 109; refine (SE.out.clone t ht).mono ?_; rintro e w6 ⟨rfl, S6r⟩; have S6 := yab S6r; obtain ⟨f0, f1⟩ := S6r.evCells; clear S6r; dsimp only)
  |(go_simp; go_at_call 108; refine (S6.out.write (cm s + 1) t hbn1).mono ?_; rintro e w7 ⟨rfl, S7r⟩; have S7 := yab S7r; obtain ⟨g0, g1⟩ := S7r.evCells; clear S7r; dsimp only))
 all_goals
  clear f0 f1
  go_wp2_with (first
   |(go_at_call 111; refine (S7.out.alone (cm s + 1)).mono ?_; rintro e w8 ⟨rfl, S8r⟩; have S8 := yab S8r; clear S8r)
   |(go_at_call 110; refine (S8.out.hear (tf s (cm s + 1)) _).mono ?_; rintro e w9 ⟨rfl, S9r⟩; have S9 := yab S9r; obtain ⟨k0, k1, k2, k3, k4, k5, k6, k7, k8, k9, k10, k11, k12, k13, k14⟩ := S9r.rc.cells; dsimp only at k0 k1 k2 k3 k4 k5 k6 k7 k8 k9 k10 k11 k12 k13 k14; clear S9r)
   |(go_at_call 112; refine (KI.out _ _ _ _ S9.out).mono ?_; rintro e w10 ⟨rfl, hPr, hFr⟩; have HP := yab hPr; have HF := yab hFr; clear hPr hFr))
  go_ret
  exact ⟨rfl, HP.out, HF.out⟩
end Go.Proofs.K

namespace Go.Proofs.K
open Go.RowKit Go.Maps
def yvf (s : Nat) (x : Int) (R : Rec) : Rec := ⟨⟨#[]⟩, 0, 0, fun _ => 0, yac R.kn (tf s x)⟩
theorem yyb (rb s : Nat) (cm : Nat → Int) (mb : Nat) (E : yau) (w : World) (h : Rg w rb s cm mb E) (p : ByteArray) (hp : p.size ≤ 1000000000000) (hn : ¬ 0 < (ybk s cm (ybh p E)).bn) :
  Calls Tryz.prog 64 #[.pointer (some ⟨rb, 0, none⟩), .string p] w fun e w' => e = .returned (.int .i64 4) ∧ Rg w' rb s cm mb E ∧ Fr (fun k => k = rb ∨ k = mb) w w' := by
 have C := yaz rb s cm mb E w h.rep h.own p (by unfold maxLen; omega)
 have fin : Hid (∀ V b R eb eo, Sg w V rb s mb b cm E R eb eo → Rg V rb s cm mb E ∧ Fr (fun k => k = rb ∨ k = mb) w V) := fun V b R eb eo S => ⟨⟨S.rep, S.own, h.ris, h.bn, h.len, h.c0⟩, S.fr⟩
 have H := yab h
 generalize ybk s cm (ybh p E) = R1 at C hn
 have hth : decide (0 < R1.bn) = false := by simp [hn]
 simp only [yad] at C
 have CH := yab C
 clear C h hn
 go_enter Tryz.func64, Tryz.ntmps64
 go_wp2_with (first
  |(go_at_call 104; refine CH.out.mono ?_; rintro e w1 ⟨rfl, hb1r⟩; have S1 := yab (Sg.start H.out hb1r R1); clear hb1r)
  |(go_at_call 113; refine S1.out.there.mono ?_; rintro e w3 ⟨rfl, S3r⟩; have S3 := yab S3r; clear S3r))
 go_ret
 exact ⟨rfl, fin.out _ _ _ _ _ S3.out⟩
theorem yya (rb s : Nat) (cm : Nat → Int) (mb : Nat) (E : yau) (w : World) (h : Rg w rb s cm mb E) (p : ByteArray) (hp : p.size ≤ 1000000000000) (hn : 0 < (ybk s cm (ybh p E)).bn) (hc : 1000000000 ≤ cm s) :
  Calls Tryz.prog 64 #[.pointer (some ⟨rb, 0, none⟩), .string p] w fun e w' => e = .returned (.int .i64 5) ∧ Rg w' rb s cm mb E ∧ Fr (fun k => k = rb ∨ k = mb) w w' := by
 have C := yaz rb s cm mb E w h.rep h.own p (by unfold maxLen; omega)
 have fin : Hid (∀ V b R eb eo, Sg w V rb s mb b cm E R eb eo → Rg V rb s cm mb E ∧ Fr (fun k => k = rb ∨ k = mb) w V) := fun V b R eb eo S => ⟨⟨S.rep, S.own, h.ris, h.bn, h.len, h.c0⟩, S.fr⟩
 have H := yab h
 generalize ybk s cm (ybh p E) = R1 at C hn
 have hth : decide (0 < R1.bn) = true := by simp [hn]
 simp only [yad] at C
 have CH := yab C
 have hd : decide (1000000000 ≤ cm s) = true := by simp [hc]
 clear C h hn
 go_enter Tryz.func64, Tryz.ntmps64
 go_wp2_with (first
  |(go_at_call 104; refine CH.out.mono ?_; rintro e w1 ⟨rfl, hb1r⟩; have S1 := yab (Sg.start H.out hb1r R1); clear hb1r)
  |(go_at_call 113; refine S1.out.there.mono ?_; rintro e w3 ⟨rfl, S3r⟩; have S3 := yab S3r; clear S3r)
  |(go_at_call 105; refine S3.out.full.mono ?_; rintro e w2 ⟨rfl, S2r⟩; have S2 := yab S2r; clear S2r))
 go_ret
 exact ⟨rfl, fin.out _ _ _ _ _ S2.out⟩
theorem rremove_ok (rb s : Nat) (cm : Nat → Int) (mb : Nat) (E : yau) (w : World) (h : Rg w rb s cm mb E) (p : ByteArray) (hp : p.size ≤ 1000000000000) (hn : 0 < (ybk s cm (ybh p E)).bn) (hl : E.length < 999999) (hc : cm s < 1000000000) :
  Calls Tryz.prog 64 #[.pointer (some ⟨rb, 0, none⟩), .string p] w fun e w' => e = .returned (.int .i64 0) ∧ Rg w' rb s (nxG s cm) mb (yce (nxG s cm) p (yvf s (cm s + 1) (ybk s cm (ybh p E))) E) ∧ Fr (fun k => k = rb ∨ k = mb) w w' := by
 have C := yaz rb s cm mb E w h.rep h.own p (by unfold maxLen; omega)
 have H := yab h
 have hc0 := h.c0
 have hs := h.rep.hs
 have hns := yoh s hs cm hc0
 generalize hR1 : ybk s cm (ybh p E) = R1 at C hn ⊢
 clear hR1
 have hth : decide (0 < R1.bn) = true := by simp [hn]
 simp only [yad] at C
 have CH := yab C
 have hd : decide (1000000000 ≤ cm s) = false := by simp; omega
 have KO : Hid (∀ V b eb eo, Sg w V rb s mb b (yac cm (tf s (cm s + 1))) E ⟨⟨#[]⟩, 0, 0, fun _ => 0, yac R1.kn (tf s (cm s + 1))⟩ eb eo → Calls Tryz.prog 112 #[.pointer (some ⟨rb, 0, none⟩), .string p, .agg #[.string ⟨#[]⟩, .int .i64 0, .int .i64 0, .int .i64 0, .int .i64 0, .int .i64 0, .int .i64 0, .int .i64 0, .int .i64 0, .int .i64 (yac R1.kn (tf s (cm s + 1)) 0), .int .i64 (yac R1.kn (tf s (cm s + 1)) 1), .int .i64 (yac R1.kn (tf s (cm s + 1)) 2), .int .i64 (yac R1.kn (tf s (cm s + 1)) 3), .int .i64 (yac R1.kn (tf s (cm s + 1)) 4), .int .i64 (yac R1.kn (tf s (cm s + 1)) 5)]] V fun e w' => e = .returned (.tuple #[]) ∧ Rg w' rb s (nxG s cm) mb (yce (nxG s cm) p (yvf s (cm s + 1) R1) E) ∧ Fr (fun k => k = rb ∨ k = mb) w w') :=
  fun V b eb eo S => S.keepAll H.out (by show 0 ≤ nxG s cm s; rw [hns]; omega) p hp (Int.le_refl 0) ⟨0, by omega, rfl⟩ hl
 clear C h hn hns hl
 go_enter Tryz.func64, Tryz.ntmps64
 go_wp2_with (first
  |(go_at_call 104; refine CH.out.mono ?_; rintro e w1 ⟨rfl, hb1r⟩; have S1 := yab (Sg.start H.out hb1r R1); clear hb1r)
  |(go_at_call 113; refine S1.out.there.mono ?_; rintro e w3 ⟨rfl, S3r⟩; have S3 := yab S3r; clear S3r)
  |(go_at_call 105; refine S3.out.full.mono ?_; rintro e w2 ⟨rfl, S2r⟩; have S2 := yab S2r; clear S2r)
  |(go_at_call 107; refine (S2.out.next hc0 hc).mono ?_; rintro e w5 ⟨rfl, S5r⟩; have S5 := yab S5r; have SE := yab (S5r.alloc_ev (.cells #[.int .i64 s, .int .i64 (cm s + 1)] 191)); clear S5r)
  |(go_at_call 114; refine SE.out.remove.mono ?_; rintro e w7 ⟨rfl, S7r⟩; have S7 := yab S7r; obtain ⟨g0, g1⟩ := S7r.evCells; clear S7r)
  |(go_at_call 111; refine (S7.out.alone (cm s + 1)).mono ?_; rintro e w8 ⟨rfl, S8r⟩; have S8 := yab S8r; clear S8r)
  |(go_at_call 110; refine (S8.out.hear (tf s (cm s + 1)) _).mono ?_; rintro e w9 ⟨rfl, S9r⟩; have S9 := yab S9r; obtain ⟨k0, k1, k2, k3, k4, k5, k6, k7, k8, k9, k10, k11, k12, k13, k14⟩ := S9r.rc.cells; dsimp only at k0 k1 k2 k3 k4 k5 k6 k7 k8 k9 k10 k11 k12 k13 k14; clear S9r)
  |(go_at_call 112; refine (KO.out _ _ _ _ S9.out).mono ?_; rintro e w10 ⟨rfl, hPr, hFr⟩; have HP := yab hPr; have HF := yab hFr; clear hPr hFr))
 go_ret
 exact ⟨rfl, HP.out, HF.out⟩
open Go.RowKit
theorem ypt (nb n pb : Nat) (rbs : List Nat) (a b : Nat) (ra rb : Nat) (p : ByteArray) (w : World) (h : ymk w nb n pb rbs) (hn : nb < w.heap.size) (hp : pb < w.heap.size) (ha : rbs[a]? = some ra) (hb : rbs[b]? = some rb) (hab : a ≠ b) (hpo : ybm p = true) (hs : p.size ≤ maxLen) :
  Calls Tryz.prog 65 #[.pointer (some ⟨nb, 0, none⟩), .int .i64 a, .int .i64 b, .string p] w fun e w' => e = .returned (.tuple #[.pointer (some ⟨ra, 0, none⟩), .pointer (some ⟨rb, 0, none⟩), .int .i64 0]) ∧ Below w.heap.size w w' := by
 have hal : a < n := by have := (List.getElem?_eq_some_iff.1 ha).1; have := h.len; omega
 have hbl : b < n := by have := (List.getElem?_eq_some_iff.1 hb).1; have := h.len; omega
 have hok : okP n a b = true := by
  unfold okP
  simp only [Bool.and_eq_true, decide_eq_true_eq, Bool.not_eq_true', beq_eq_false_iff_ne]
  omega
 have B1 : Hid (Below w.heap.size w (w.alloc (.cells #[.int .i64 a, .int .i64 b] 47))) := (Below.refl _ _).alloc (Nat.le_refl _) _
 have AP := yab (ynk nb n pb rbs w.heap.size 1 a b (w.alloc (.cells #[.int .i64 a, .int .i64 b] 47)) (h.below hn hp B1.out) (by simp; omega) (by simp; omega) (by simp) (by simp [go_sem]) (by simp [go_sem]))
 rw [hok] at AP
 have PO : Hid (∀ V, Below w.heap.size w V → Calls Tryz.prog 61 #[.pointer (some ⟨nb, 0, none⟩), .int .i64 a, .string p] V fun e w' => e = .returned (.tuple #[.pointer (some ⟨ra, 0, none⟩), .int .i64 0]) ∧ w' = V) := fun V hV => yjz nb n pb rbs a ra p V (h.below hn hp hV) ha hpo hs
 have NC : Hid (∀ V, Below w.heap.size w V → (∃ cap, V.cell? ⟨nb, 0, none⟩ = some (.slice (some ⟨pb, 0, none⟩) n cap)) ∧ V.cell? ⟨pb, b, none⟩ = some (.pointer (some ⟨rb, 0, none⟩))) := fun V hV => by
  have q := h.below hn hp hV
  obtain ⟨cap, hc⟩ := q.blk
  exact ⟨⟨cap, by simp [World.cell?, hc]⟩, q.row b rb hb⟩
 have hn6 := h.n6
 clear h hok ha hb hpo hs
 go_enter Tryz.func65, Tryz.ntmps65
 go_wp2_with (first
  |(go_at_call 40; refine AP.out.mono ?_; rintro e w1 ⟨rfl, hb1⟩; have B2 := yab (B1.out.trans (hb1.mono (by simp))); clear hb1)
  |(go_at_call 61; refine (PO.out _ B2.out).mono ?_; rintro e w2 ⟨rfl, rfl⟩; obtain ⟨⟨cap, c0⟩, cr⟩ := NC.out _ B2.out))
 go_quiet (fail)
 go_wp2
 go_ret3
 exact ⟨rfl, B2.out.os, B2.out.tape, B2.out.output, B2.out.size, B2.out.block⟩
structure RS where
 cm : Nat → Int
 E : yau
structure Nt (w : World) (nb pb : Nat) (L : List (Nat × Nat)) (S : List RS) : Prop where
 net : ymk w nb S.length pb (L.map (·.1))
 rep : ∀ (i : Nat) x s, L[i]? = some x → S[i]? = some s → Rg w x.1 i s.cm x.2 s.E
 nlt : nb < w.heap.size
 plt : pb < w.heap.size
 apart : (nb :: pb :: (L.map (·.1) ++ L.map (·.2))).Nodup
 pbk : ∃ cur, w.heap[pb]? = some (.cells cur 92 (0, 0))
variable {w w' : World} {i nb pb : Nat} {L : List (Nat × Nat)} {S : List RS} {x : Nat × Nat}
theorem Nt.below (h : Nt w nb pb L S) (hb : Below w.heap.size w w') : Nt w' nb pb L S :=
 ⟨h.net.below h.nlt h.plt hb, fun i x s h1 h2 => (h.rep i x s h1 h2).below hb, Nat.lt_of_lt_of_le h.nlt hb.size, Nat.lt_of_lt_of_le h.plt hb.size, h.apart, h.pbk.imp fun cur hc => (hb.block _ h.plt).trans hc⟩
theorem Nt.len (h : Nt w nb pb L S) : L.length = S.length := by
 have := h.net.len
 simpa using this
theorem Nt.ne (h : Nt w nb pb L S) (hi : L[i]? = some x) : nb ≠ x.1 ∧ nb ≠ x.2 ∧ pb ≠ x.1 ∧ pb ≠ x.2 := by
 have hm := List.mem_of_getElem? hi
 have h1 := h.apart
 simp only [List.nodup_cons, List.mem_cons, List.mem_append, not_or, List.mem_map] at h1
 obtain ⟨⟨_, n1, n2⟩, ⟨p1, p2⟩, _⟩ := h1
 exact ⟨fun e => n1 ⟨x, hm, e.symm⟩, fun e => n2 ⟨x, hm, e.symm⟩, fun e => p1 ⟨x, hm, e.symm⟩, fun e => p2 ⟨x, hm, e.symm⟩⟩
theorem Nt.ne2 (h : Nt w nb pb L S) {j : Nat} {y : Nat × Nat} (hi : L[i]? = some x) (hj : L[j]? = some y) (hij : i ≠ j) : x.1 ≠ y.1 ∧ x.1 ≠ y.2 ∧ x.2 ≠ y.1 ∧ x.2 ≠ y.2 := by
 have h1 := h.apart
 simp only [List.nodup_cons, List.nodup_append] at h1
 obtain ⟨_, _, d1, d2, d3⟩ := h1
 have mx := List.mem_of_getElem? hi
 have my := List.mem_of_getElem? hj
 have key : ∀ (f : Nat × Nat → Nat), (L.map f).Nodup → f x ≠ f y := by
  intro f hf e
  have a1 : (L.map f)[i]? = some (f x) := by rw [List.getElem?_map, hi]; rfl
  have a2 : (L.map f)[j]? = some (f y) := by rw [List.getElem?_map, hj]; rfl
  exact yse hf a1 a2 hij e
 refine ⟨key _ d1, fun e => ?_, fun e => ?_, key _ d2⟩
 ·exact d3 x.1 (List.mem_map.2 ⟨x, mx, rfl⟩) y.2 (List.mem_map.2 ⟨y, my, rfl⟩) e
 ·exact d3 y.1 (List.mem_map.2 ⟨y, my, rfl⟩) x.2 (List.mem_map.2 ⟨x, mx, rfl⟩) e.symm
theorem Nt.turn (h : Nt w nb pb L S) (hi : L[i]? = some x) (hf : Fr (fun k => k = x.1 ∨ k = x.2) w w') {s' : RS} (hr : Rg w' x.1 i s'.cm x.2 s'.E) : Nt w' nb pb L (S.set i s') := by
 obtain ⟨e1, e2, e3, e4⟩ := h.ne hi
 refine ⟨?_, fun j y s hj hs => ?_, Nat.lt_of_lt_of_le h.nlt hf.size, Nat.lt_of_lt_of_le h.plt hf.size, h.apart, h.pbk.imp fun cur hc => (hf.block pb h.plt (by rintro (e | e); exact e3 e; exact e4 e)).trans hc⟩
 ·rw [List.length_set]
  obtain ⟨cap, hc⟩ := h.net.blk
  refine ⟨⟨cap, by rw [hf.block nb h.nlt (by rintro (e | e); exact e1 e; exact e2 e)]; exact hc⟩, h.net.len, fun r b hr => ?_, h.net.n6⟩
  rw [World.cell?_of_block (w := w) (hf.block pb h.plt (by rintro (e | e); exact e3 e; exact e4 e))]
  exact h.net.row r b hr
 ·by_cases hij : i = j
  ·subst hij
   rw [hi] at hj
   cases hj
   have hlt : i < S.length := by have := (List.getElem?_eq_some_iff.1 hi).1; have := h.len; omega
   rw [List.getElem?_set_self hlt] at hs
   cases hs
   exact hr
  ·rw [List.getElem?_set_ne hij] at hs
   have q := h.rep j y s hj hs
   obtain ⟨n1, n2, n3, n4⟩ := h.ne2 hi hj hij
   exact q.keep (hf.block _ q.rep.lt (by rintro (e | e); exact n1 e.symm; exact n3 e.symm)) (hf.block _ q.own.lt (by rintro (e | e); exact n2 e.symm; exact n4 e.symm))
end Go.Proofs.K
