/- The program's IsWithin: of all that is known. -/
import Derived.Test.YtaelaldmibgibaaGreatDoorX33

set_option linter.all false
set_option maxHeartbeats 4000000
set_option maxRecDepth 100000

namespace Go.Proofs.K
open Go.RowKit Go.Lib Go.Maps
variable {C b : Nat → Int} {R R' : Rec} {left : Lit → Bool} {E : yau} {x : ByteArray}
attribute [local go_sem ↓] eqTime
attribute [local go_sem] yvi
structure W1 (w V : World) (b : Nat → Int) : Prop where
 b : ∀ j, j < 6 → V.cell? ⟨w.heap.size, j, none⟩ = some (.int .i64 (b j))
 bel : Below w.heap.size w V
 lt : w.heap.size < V.heap.size
theorem W1.more {w V V' : World} (h : W1 w V b) (hb : Below V.heap.size V V') : W1 w V' b :=
 ⟨fun j hj => (hb.cell (p := ⟨w.heap.size, j, none⟩) h.lt).trans (h.b j hj), h.bel.trans (hb.mono h.bel.size), Nat.lt_of_lt_of_le h.lt hb.size⟩
theorem recDat_kn (h : yct R = yct R') : ∀ j, j < 6 → R.kn j = R'.kn j := by
 simp only [yct, DataW.agg.injEq, List.cons.injEq, DataW.lit.injEq, Lit.string.injEq, Lit.int.injEq, true_and, and_true] at h
 obtain ⟨_, _, _, _, _, _, _, _, _, h0, h1, h2, h3, h4, h5⟩ := h
 intro j hj
 match j, hj with
 |0, _ => exact h0
 |1, _ => exact h1
 |2, _ => exact h2
 |3, _ => exact h3
 |4, _ => exact h4
 |5, _ => exact h5
theorem leB_congr {a a' : Nat → Int} (h : ∀ j, j < 6 → a j = a' j) : leB a b = leB a' b := by
 unfold leB eqT yac g1
 rw [h 0 (by omega), h 1 (by omega), h 2 (by omega), h 3 (by omega), h 4 (by omega), h 5 (by omega)]
def cameB (C : Nat → Int) (left : Lit → Bool) (E : yau) : Prop := ∀ x ∈ E, left (key x.1) = false → leB x.2.kn C = true
theorem cameB_start (C : Nat → Int) (E : yau) : cameB C (Maps.has (ycb E)) E := fun x hx h => by
 rw [yjc, yln hx] at h
 cases h
theorem cameB_end (h : cameB C left E) (hl : ∀ kl, left kl = false) : E.all (fun x => leB x.2.kn C) = true := by
 rw [List.all_eq_true]
 exact fun x hx => h x hx (hl _)
theorem ysv (hE : yav E) (h : (x, R) ∈ E) (h' : (x, R') ∈ E) : R = R' := by
 induction E with
 |nil => simp at h
 |cons z E ih =>
  obtain ⟨p1, p2⟩ := List.pairwise_cons.1 hE
  rcases List.mem_cons.1 h with a1 | a1
  ·rcases List.mem_cons.1 h' with b1 | b1
   ·have := a1.trans b1.symm; simpa using this
   ·rw [← a1] at p1
    have q := yjq (p1 (x, R') b1)
    exact absurd rfl q
  ·rcases List.mem_cons.1 h' with b1 | b1
   ·rw [← b1] at p1
    have q := yjq (p1 (x, R) a1)
    exact absurd rfl q
   ·exact ih p2 a1 b1
theorem cameB_step (hE : yav E) (h : cameB C left E) (hx : (x, R) ∈ E) (hR : leB R.kn C = true) : cameB C (fun z => left z && !z.sameKey (key x)) E := fun y hy hl' => by
 have hl : (left (key y.1) && !(key y.1).sameKey (key x)) = false := hl'
 rw [yfi] at hl
 cases e : left (key y.1) with
 |false => exact h y hy e
 |true =>
  rw [e] at hl
  simp at hl
  have := (ydm _ _).1 hl
  obtain ⟨y1, y2⟩ := y
  simp only at this
  subst this
  rw [ysv hE hy hx]
  exact hR
theorem ywb (rb s : Nat) (cm : Nat → Int) (mb : Nat) (E : yau) (C : Nat → Int) (w : World) (h : Rp w rb s cm mb E) :
  Calls Tryz.prog 149 #[.pointer (some ⟨rb, 0, none⟩), .agg #[.int .i64 (C 0), .int .i64 (C 1), .int .i64 (C 2), .int .i64 (C 3), .int .i64 (C 4), .int .i64 (C 5)]] w fun e w' => e = .returned (.bool (E.all (fun x => leB x.2.kn C) && leB cm C)) ∧ Below w.heap.size w w' := by
 have T0 : Hid (W1 w (w.alloc (.cells #[.int .i64 (C 0), .int .i64 (C 1), .int .i64 (C 2), .int .i64 (C 3), .int .i64 (C 4), .int .i64 (C 5)] 186)) C) := ⟨fun j hj => ynl w C _ j hj, (Below.refl _ _).alloc (Nat.le_refl _) _, by simp⟩
 have hlt := h.rep.lt
 have hml := h.own.lt
 have hne : rb ≠ w.heap.size := by omega
 have c7 := h.rep.c7
 have hown := h.own.alloc (.cells #[.int .i64 (C 0), .int .i64 (C 1), .int .i64 (C 2), .int .i64 (C 3), .int .i64 (C 4), .int .i64 (C 5)] 186)
 have HR := yab h
 have WI := yab (fun a V => yrr a C V)
 clear h
 go_enter Tryz.func149, Tryz.ntmps149
 go_wp2_with (first
  |(at_range; refine wpList_range_own _ rfl _ 184 rfl 9 197 lawS Tryz.underlying184 _ mb E.length _ rfl hown ?_; intro w0 hrg0 hg0 hs0)
  |go_in)
 have ez : (w.alloc (.cells #[.int .i64 (C 0), .int .i64 (C 1), .int .i64 (C 2), .int .i64 (C 3), .int .i64 (C 4), .int .i64 (C 5)] 186)).heap.size = w.heap.size + 1 := by simp
 rw [ez] at hrg0 ⊢
 go_frame
 have hb0 : Hid (W1 w w0 C) := T0.out.more ((Below.refl _ _).grown hg0 (Nat.le_refl _) (fun j hj => by cases hj))
 clear hown hg0 hs0
 go_loopw [4] (fun v wr => v = .bool false ∧ ∃ (left : Lit → Bool) (cnt : Nat), wr.ranges Tryz.prog 9 yar mb (w.heap.size + 1) E.length (ycb E) left cnt ∧ Hid (cameB C left E) ∧ Hid (W1 w wr C)) (fun _ wr => wr.rangeLeft mb (w.heap.size + 1))
 case atStart => exact ⟨rfl, _, _, hrg0, cameB_start C E, hb0⟩
 case round =>
  obtain ⟨rfl, left, cnt, hrg, hcm, hbw⟩ := hrel
  clear hrg0 hb0
  go_wp2_with (first
   |(at_next; refine wpList_next_ranges _ rfl _ rfl 9 lawS yar Value.string yad (fun key kl h => Maps.keyOf_string_inv Tryz.underlying9 h) recInv mb (w.heap.size + 1) E.length (ycb E) left cnt rfl hrg ?_ ?_)
   |go_in)
  ·intro hc0 hl0
   have hall := cameB_end hcm.out hl0
   have RB := yab (HR.out.below hbw.out.bel)
   clear hrg hcm
   have HA := yab hall
   clear hall
   have r1 := RB.out.rep.ct 0 (by omega)
   have r2 := RB.out.rep.ct 1 (by omega)
   have r3 := RB.out.rep.ct 2 (by omega)
   have r4 := RB.out.rep.ct 3 (by omega)
   have r5 := RB.out.rep.ct 4 (by omega)
   have r6 := RB.out.rep.ct 5 (by omega)
   simp only [Nat.reduceAdd] at r1 r2 r3 r4 r5 r6
   have b0 := hbw.out.b 0 (by omega)
   have b1 := hbw.out.b 1 (by omega)
   have b2 := hbw.out.b 2 (by omega)
   have b3 := hbw.out.b 3 (by omega)
   have b4 := hbw.out.b 4 (by omega)
   have b5 := hbw.out.b 5 (by omega)
   have WC := yab (fun V => WI.out cm V)
   have BD : Hid (W1 w wr.drew C) := hbw.out.more ⟨rfl, rfl, rfl, Nat.le_refl _, fun _ _ => rfl⟩
   go_wp2_with fail
   go_region_law (first
    |(go_simp; go_at_call 198; refine (WC.out _).mono ?_; rintro e w2 ⟨rfl, hb2⟩; have B2 := yab (BD.out.more hb2); clear hb2; dsimp only))
   all_goals
    go_wp2
    go_ret
    exact ⟨by rw [HA.out]; rfl, B2.out.bel⟩
  ·intro x R kl yd yp w1 cnt1 hkey hlk hv hat hrg1 hltm hg1 hs1 hen
   obtain ⟨rfl, _⟩ := key_of hkey
   obtain ⟨R', hm, hd⟩ := rec_at hat
   have hyd : yd = yct R := by rw [yhg] at hv; have := Option.some.inj hv; simp at this; exact this.1.symm
   have hkn : leB R.kn C = leB R'.kn C := leB_congr (recDat_kn (hyd.symm.trans hd))
   have HB1 : Hid (W1 w w1 C) := by
    have hz := hbw.out.lt
    have hb : Below (w.heap.size + 1) wr w1 := (Below.refl _ _).grown hg1 (by omega) (fun j hj => by cases hj; exact Nat.le_refl _)
    exact ⟨fun j hj => (hb.cell (p := ⟨w.heap.size, j, none⟩) (by simp only; omega)).trans (hbw.out.b j hj), hbw.out.bel.trans (hb.mono (by omega)), Nat.lt_of_lt_of_le hz hb.size⟩
   have RG := yab hrg
   have RG1 := yab hrg1
   have WR := yab (fun V => WI.out R.kn V)
   cases hz : leB R.kn C with
   |false =>
    have hall : E.all (fun x => leB x.2.kn C) = false := by
     rw [List.all_eq_false]
     exact ⟨_, hm, by rw [← hkn, hz]; simp⟩
    have HA := yab hall
    rw [hz] at WR
    have b0 : ∀ o : Obj, (w1.alloc o).cell? ⟨w.heap.size, 0, none⟩ = some (.int .i64 (C 0)) := fun o => (World.cell?_alloc_old _ _ _ (Nat.ne_of_lt HB1.out.lt)).trans (HB1.out.b 0 (by omega))
    have b1 : ∀ o : Obj, (w1.alloc o).cell? ⟨w.heap.size, 1, none⟩ = some (.int .i64 (C 1)) := fun o => (World.cell?_alloc_old _ _ _ (Nat.ne_of_lt HB1.out.lt)).trans (HB1.out.b 1 (by omega))
    have b2 : ∀ o : Obj, (w1.alloc o).cell? ⟨w.heap.size, 2, none⟩ = some (.int .i64 (C 2)) := fun o => (World.cell?_alloc_old _ _ _ (Nat.ne_of_lt HB1.out.lt)).trans (HB1.out.b 2 (by omega))
    have b3 : ∀ o : Obj, (w1.alloc o).cell? ⟨w.heap.size, 3, none⟩ = some (.int .i64 (C 3)) := fun o => (World.cell?_alloc_old _ _ _ (Nat.ne_of_lt HB1.out.lt)).trans (HB1.out.b 3 (by omega))
    have b4 : ∀ o : Obj, (w1.alloc o).cell? ⟨w.heap.size, 4, none⟩ = some (.int .i64 (C 4)) := fun o => (World.cell?_alloc_old _ _ _ (Nat.ne_of_lt HB1.out.lt)).trans (HB1.out.b 4 (by omega))
    have b5 : ∀ o : Obj, (w1.alloc o).cell? ⟨w.heap.size, 5, none⟩ = some (.int .i64 (C 5)) := fun o => (World.cell?_alloc_old _ _ _ (Nat.ne_of_lt HB1.out.lt)).trans (HB1.out.b 5 (by omega))
    clear hkey hat hv hyd hd hm hg1 hrg hrg1 hkn hcm hall hz
    simp only [yad] at hen ⊢
    go_wp2_with (go_at_call 198; refine (WR.out _).mono ?_; rintro e w2 ⟨rfl, hb2⟩; have B2 := yab ((HB1.out.more ((Below.refl _ _).alloc (Nat.le_refl _) _)).more hb2); clear hb2)
    go_ret
    exact ⟨by rw [HA.out]; rfl, B2.out.bel⟩
   |true =>
    have CS := yab (cameB_step HR.out.ris hcm.out hm (by rw [← hkn]; exact hz))
    rw [hz] at WR
    have b0 : ∀ o : Obj, (w1.alloc o).cell? ⟨w.heap.size, 0, none⟩ = some (.int .i64 (C 0)) := fun o => (World.cell?_alloc_old _ _ _ (Nat.ne_of_lt HB1.out.lt)).trans (HB1.out.b 0 (by omega))
    have b1 : ∀ o : Obj, (w1.alloc o).cell? ⟨w.heap.size, 1, none⟩ = some (.int .i64 (C 1)) := fun o => (World.cell?_alloc_old _ _ _ (Nat.ne_of_lt HB1.out.lt)).trans (HB1.out.b 1 (by omega))
    have b2 : ∀ o : Obj, (w1.alloc o).cell? ⟨w.heap.size, 2, none⟩ = some (.int .i64 (C 2)) := fun o => (World.cell?_alloc_old _ _ _ (Nat.ne_of_lt HB1.out.lt)).trans (HB1.out.b 2 (by omega))
    have b3 : ∀ o : Obj, (w1.alloc o).cell? ⟨w.heap.size, 3, none⟩ = some (.int .i64 (C 3)) := fun o => (World.cell?_alloc_old _ _ _ (Nat.ne_of_lt HB1.out.lt)).trans (HB1.out.b 3 (by omega))
    have b4 : ∀ o : Obj, (w1.alloc o).cell? ⟨w.heap.size, 4, none⟩ = some (.int .i64 (C 4)) := fun o => (World.cell?_alloc_old _ _ _ (Nat.ne_of_lt HB1.out.lt)).trans (HB1.out.b 4 (by omega))
    have b5 : ∀ o : Obj, (w1.alloc o).cell? ⟨w.heap.size, 5, none⟩ = some (.int .i64 (C 5)) := fun o => (World.cell?_alloc_old _ _ _ (Nat.ne_of_lt HB1.out.lt)).trans (HB1.out.b 5 (by omega))
    clear hkey hat hv hyd hd hm hg1 hrg hrg1 hkn hcm hz
    simp only [yad] at hen ⊢
    go_wp2_with (go_at_call 198; refine (WR.out _).mono ?_; rintro e w2 ⟨rfl, hb2⟩; have B2 := yab ((HB1.out.more ((Below.refl _ _).alloc (Nat.le_refl _) _)).more hb2); have RG2 := yab (ranges_more RG1.out hb2); clear hb2)
    go_roundw
    case rel => exact ⟨rfl, _, cnt1, RG2.out, CS, B2⟩
    case measure => rw [RG2.out.left_eq, RG.out.left_eq]; exact hltm
end Go.Proofs.K

namespace Go.Proofs.K
open Go.RowKit Go.Maps
variable {w w' : World} {mb rb s : Nat} {cm : Nat → Int} {E : yau}
theorem yru {w1 w2 : World} {o : Obj} (h : Below w.heap.size w w1) (hb : Below (w1.alloc o).heap.size (w1.alloc o) w2) : Below w.heap.size w w2 :=
 (h.alloc h.size _).trans (hb.mono (by have := h.size; simp; omega))
def ykr (R : Rec) : Prop := ∃ r : Nat, r < 6 ∧ R.br = r
structure Rg (w : World) (rb s : Nat) (cm : Nat → Int) (mb : Nat) (E : yau) : Prop where
 rep : ybs w rb s cm mb
 own : w.ownsMap Tryz.prog 9 yar mb E.length (ycb E)
 ris : yav E
 bn : ∀ x ∈ E, 0 ≤ x.2.bn ∧ ykr x.2
 len : E.length < 1000000
 c0 : 0 ≤ cm s
theorem Rg.keep (h : Rg w rb s cm mb E) (h1 : w'.heap[rb]? = w.heap[rb]?) (h2 : w'.heap[mb]? = w.heap[mb]?) : Rg w' rb s cm mb E :=
 ⟨h.rep.keep h1, ybf h.own h2, h.ris, h.bn, h.len, h.c0⟩
theorem Rg.below (h : Rg w rb s cm mb E) (hb : Below w.heap.size w w') : Rg w' rb s cm mb E := h.keep (hb.block _ h.rep.lt) (hb.block _ h.own.lt)
def ybk (s : Nat) (cm : Nat → Int) : Option Rec → Rec
 |some R => ⟨R.text, R.br, R.bn, R.ch, upT R.kn s (cm s)⟩
 |none => ⟨⟨#[]⟩, 0, 0, fun _ => 0, cm⟩
theorem yaz (rb s : Nat) (cm : Nat → Int) (mb : Nat) (E : yau) (w : World) (h : ybs w rb s cm mb) (ho : w.ownsMap Tryz.prog 9 yar mb E.length (ycb E)) (p : ByteArray) (hp : p.size ≤ maxLen) :
  Calls Tryz.prog 104 #[.pointer (some ⟨rb, 0, none⟩), .string p] w fun e w' => e = .returned (yad (ybk s cm (ybh p E))) ∧ Below w.heap.size w w' := by
 cases hg : ybh p E with
 |some R => exact yve rb s cm mb w h E.length (ycb E) ho p hp R (by have := yjc p E; rw [hg] at this; exact this) (by have := yhq p E (yct rec0); rw [hg] at this; exact this)
 |none => exact yxu rb s cm mb w h E.length (ycb E) ho p hp (by have := yjc p E; rw [hg] at this; exact this) (by have := yhq p E (yct rec0); rw [hg] at this; exact this)
theorem yif (h : Rg w rb s cm mb E) (p : ByteArray) : 0 ≤ (ybk s cm (ybh p E)).bn ∧ ykr (ybk s cm (ybh p E)) := by
 cases hg : ybh p E with
 |none => exact ⟨Int.le_refl 0, 0, by omega, rfl⟩
 |some R => exact h.bn _ (ylq hg)
def yce (cm : Nat → Int) (p : ByteArray) (R : Rec) (E : yau) : yau := if (decide (0 < R.bn) || !eqT R.kn cm) = true then yoj p R E else yyz p E
theorem len_putE (E : yau) (p : ByteArray) (R : Rec) : (yoj p R E).length ≤ E.length + 1 := by
 unfold yoj
 have : (E.filter (fun x => slt x.1 p)).length + (E.filter (fun x => slt p x.1)).length ≤ E.length := by
  induction E with
  |nil => simp
  |cons y E ih =>
   rw [List.filter_cons, List.filter_cons]
   cases h1 : slt y.1 p <;> cases h2 : slt p y.1 <;> simp <;> first | omega | skip
   exact absurd (ydx h1 h2) (by rw [ycc]; simp)
 simp only [List.length_append, List.length_cons]
 omega
theorem ypf (rb s : Nat) (cm : Nat → Int) (mb : Nat) (E : yau) (w : World) (h : ybs w rb s cm mb) (ho : w.ownsMap Tryz.prog 9 yar mb E.length (ycb E)) (hE : yav E) (hl : E.length < maxLen) (p : ByteArray) (hp : p.size ≤ 1000000000000) (R : Rec) (h0 : 0 ≤ R.bn) :
  Calls Tryz.prog 112 #[.pointer (some ⟨rb, 0, none⟩), .string p, yad R] w fun e w' => e = .returned (.tuple #[]) ∧ ybs w' rb s cm mb ∧ w'.ownsMap Tryz.prog 9 yar mb (yce cm p R E).length (ycb (yce cm p R E)) ∧ Fr (fun k => k = mb) w w' := by
 unfold yce
 split
 ·next hk =>
  refine (ywy rb s cm mb w E ⟨h, ho, hE⟩ hl p hp R h0 hk).mono ?_
  rintro e w' ⟨rfl, h1, h2⟩
  exact ⟨rfl, h1.rep, h1.own, h2⟩
 ·next hk =>
  simp only [Bool.or_eq_true, decide_eq_true_eq, not_or] at hk
  unfold yad
  exact keep_out rb s cm mb w h E hE ho p hp R (by omega) (by simpa using hk.2)
theorem yco (cm : Nat → Int) (p : ByteArray) (R : Rec) (E : yau) (h : yav E) : yav (yce cm p R E) := by
 unfold yce
 split
 ·exact ynb p R E h
 ·exact rising_del p E h
theorem yjg {p : ByteArray} {R : Rec} {x : ByteArray × Rec} (h : x ∈ yce cm p R E) : x = (p, R) ∨ x ∈ E := by
 unfold yce at h
 split at h
 ·exact mem_putE h
 ·exact .inr (mem_delE h)
theorem ylo (cm : Nat → Int) (p : ByteArray) (R : Rec) (E : yau) : (yce cm p R E).length ≤ E.length + 1 := by
 unfold yce
 split
 ·exact len_putE E p R
 ·have := len_putE E p R
  unfold yoj at this
  unfold yyz
  simp only [List.length_append, List.length_cons] at *
  omega
end Go.Proofs.K

namespace Go.Proofs.K
open Go.RowKit Go.Maps
attribute [local go_sem ↓] yvt
attribute [local go_sem] yih
theorem plook_gen (rb s : Nat) (cm : Nat → Int) (mb : Nat) (E : yau) (w : World) (h : Rp w rb s cm mb E) (hl : E.length < 100000000) :
  Calls Tryz.prog 148 #[.pointer (some ⟨rb, 0, none⟩)] w fun e w' => e = .returned (.agg #[.int .i64 (cm s), .int .i64 (ybw E).length, .int .i64 E.length]) ∧ Below w.heap.size w w' := by
 have MB : Hid (ycj w w.heap.size 3 ((w.alloc (.cells #[.int .i64 0, .int .i64 0, .int .i64 0] 166)).drewN 1)) := yhb (ycj.made' w #[.int .i64 0, .int .i64 0, .int .i64 0] 166 (n := 3) rfl) 1
 have CN : Hid (∀ V, ycj w w.heap.size 3 V → Calls Tryz.prog 168 #[.pointer (some ⟨rb, 0, none⟩)] V fun e w' => e = .returned (.int .i64 (cm s)) ∧ ycj w w.heap.size 3 w') := by
  intro V hM
  have := ygx rb s cm mb V (h.below hM.below).rep
  refine this.mono ?_
  rintro e w' ⟨rfl, nq, rfl⟩
  exact ⟨rfl, yhb hM nq⟩
 have FN : Hid (∀ V, ycj w w.heap.size 3 V → Calls Tryz.prog 129 #[.pointer (some ⟨rb, 0, none⟩)] V fun e w' => e = .returned (.int .i64 (ybw E).length) ∧ ycj w w.heap.size 3 w') := by
  intro V hM
  have hV := h.below hM.below
  refine (yfo rb s _ mb V hV.rep E h.ris hl hV.own).mono ?_
  rintro e w' ⟨rfl, hb⟩
  exact ⟨rfl, ycj.call (p := True) ⟨hM, trivial⟩ hb⟩
 have ON : Hid (∀ V, ycj w w.heap.size 3 V → V.ownsMap Tryz.prog 9 yar mb E.length (ycb E)) := fun V hM => (h.below hM.below).own
 have C7 : Hid (∀ V, ycj w w.heap.size 3 V → V.cell? ⟨rb, 7, none⟩ = some (.map (some mb))) := fun V hM => (h.below hM.below).rep.c7
 have hlt := h.rep.lt
 have hne : rb ≠ w.heap.size := by omega
 have c7 := h.rep.c7
 have ez := ytb E
 have EZ := yab ez
 clear h ez
 go_enter Tryz.func148, Tryz.ntmps148
 go_wp2
 go_region_law (first
  |(go_simp; go_at_call 168; refine (CN.out _ (by first | exact MF.out | exact MB.out)).mono ?_; rintro e w1 ⟨rfl, M1r⟩; have MC := yab M1r; have d7 := C7.out w1 M1r; have dth := M1r.there; clear M1r; dsimp only)
  |(go_simp; go_at_call 129; refine (FN.out _ (by first | exact MC.out | exact MB.out)).mono ?_; rintro e w2 ⟨rfl, M2r⟩; have MF := yab M2r; have f7 := C7.out w2 M2r; have fth := M2r.there; clear M2r; dsimp only)
  |(refine yyr rfl _ _ rfl 9 197 Tryz.underlying184 yar mb E.length (ycb E) rfl (by first | exact ON.out _ MB.out | exact ON.out _ MC.out | exact ON.out _ MF.out) _ EZ.out ?_; dsimp only))
 all_goals
  go_wp2
  first
   |exact bodyPost_ret (yxz Tryz.results148 (a := ⟨w.heap.size, 0, none⟩) rfl (yan (cs := [_, _, _]) MF.out.there Tryz.underlying166 rfl yne)) rfl ⟨rfl, (ycj.setCells (p := True) ⟨MF.out, trivial⟩ 0 _).below⟩
   |exact bodyPost_ret (yxz Tryz.results148 (a := ⟨w.heap.size, 0, none⟩) rfl (yan (cs := [_, _, _]) MC.out.there Tryz.underlying166 rfl yne)) rfl ⟨rfl, (ycj.setCells (p := True) ⟨MC.out, trivial⟩ 0 _).below⟩
end Go.Proofs.K

namespace Go.Proofs.K
open Go.RowKit Go.Lib Go.Maps
variable {V w : World} {nb pb : Nat} {mbs rbs : List Nat} {m : List DR} {C : Nat → Int}
structure UNet (w : World) (nb pb : Nat) (rbs mbs : List Nat) (m : List DR) : Prop where
 net : ymk w nb m.length pb rbs
 ml : mbs.length = m.length
 rep : ∀ (r rb mb : Nat) d, rbs[r]? = some rb → mbs[r]? = some mb → m[r]? = some d → Rp w rb r (lfn d.com) mb (toE d.recs)
 lt : nb < w.heap.size ∧ pb < w.heap.size
theorem UNet.below {w' : World} (h : UNet w nb pb rbs mbs m) (hb : Below w.heap.size w w') : UNet w' nb pb rbs mbs m :=
 ⟨h.net.keep (hb.block _ h.lt.1) (hb.block _ h.lt.2), h.ml, fun r rb mb d h1 h2 h3 => (h.rep r rb mb d h1 h2 h3).below hb, by have := h.lt; have := hb.size; omega⟩
theorem UNet.at (h : UNet w nb pb rbs mbs m) (r : Nat) (hr : r < m.length) : ∃ rb mb d, m[r]? = some d ∧ rbs[r]? = some rb ∧ w.cell? ⟨pb, r, none⟩ = some (.pointer (some ⟨rb, 0, none⟩)) ∧ Rp w rb r (lfn d.com) mb (toE d.recs) := by
 have h1 : r < rbs.length := by rw [h.net.len]; exact hr
 have h2 : r < mbs.length := by rw [h.ml]; exact hr
 exact ⟨rbs[r], mbs[r], m[r], List.getElem?_eq_getElem hr, List.getElem?_eq_getElem h1, h.net.row r _ (List.getElem?_eq_getElem h1), h.rep r _ _ _ (List.getElem?_eq_getElem h1) (List.getElem?_eq_getElem h2) (List.getElem?_eq_getElem hr)⟩
structure CT (w wr : World) (C : Nat → Int) : Prop where
 b : ∀ j, j < 6 → wr.cell? ⟨w.heap.size, j, none⟩ = some (.int .i64 (C j))
 fz : ∀ j, wr.frozen? ⟨w.heap.size, j, none⟩ = false
 bel : Below w.heap.size w wr
 lt : w.heap.size < wr.heap.size
theorem CT.more {V' : World} (h : CT w V C) (hb : Below V.heap.size V V') : CT w V' C :=
 ⟨fun j hj => (hb.cell (p := ⟨w.heap.size, j, none⟩) h.lt).trans (h.b j hj), fun j => (hb.frozen (p := ⟨w.heap.size, j, none⟩) h.lt).trans (h.fz j), h.bel.trans (hb.mono h.bel.size), Nat.lt_of_lt_of_le h.lt hb.size⟩
theorem CT.put (h : CT w V C) (i : Nat) (hi : i < 6) (x : Int) : CT w (V.setCell ⟨w.heap.size, i, none⟩ (.int .i64 x)) (fun j => if j = i then x else C j) := by
 refine ⟨fun j hj => ?_, fun j => ?_, ?_, ?_⟩
 ·by_cases e : j = i
  ·subst e
   rw [if_pos rfl]
   exact World.cell?_setCell_same _ _ _ (h.b j hj)
  ·rw [if_neg e]
   exact (World.cell?_setCell_other _ _ _ _ (by simp <;> omega)).trans (h.b j hj)
 ·rw [World.frozen?_setCell]; exact h.fz j
 ·have := Below.setCells h.bel (Nat.le_refl w.heap.size) [.int .i64 x] i
  exact this
 ·simpa [World.setCell] using h.lt
theorem toE_all (D : Drs) (C : Nat → Int) : (toE D).all (fun x => leB x.2.kn C) = D.all (fun y => leB (lfn y.2.known) C) := by
 unfold toE
 rw [List.all_map]
 rfl
def fdM (x : Value) : Sem Value := Instr.field 166 x 0
theorem fdEq (x : Value) : Instr.field 166 x 0 = fdM x := rfl
theorem run_fd (a b c : Int) (w : World) : (fdM (.agg #[.int .i64 a, .int .i64 b, .int .i64 c])).run Tryz.prog w = .ok (.int .i64 a) w := by
 unfold fdM
 simp [Instr.field, run_underlying Tryz.underlying166, asAgg, part, isAgg, run_underlying Tryz.underlying3]
attribute [local go_sem ↓] fdEq
attribute [local go_sem] run_fd
theorem yjf (nb pb : Nat) (rbs mbs : List Nat) (m : List DR) (w : World) (h : UNet w nb pb rbs mbs m) (h1 : 1 ≤ m.length) (h6 : m.length ≤ 6) (hr : ∀ d ∈ m, d.recs.length < 100000000) :
  Calls Tryz.prog 82 #[.pointer (some ⟨nb, 0, none⟩)] w fun e w' => e = .returned (.bool (m.all (inB (ylf m)))) ∧ Below w.heap.size w w' := by
 obtain ⟨cap, hb⟩ := h.net.blk
 have hn6 := h.net.n6
 have C0 : Hid (CT w (w.alloc (.cells #[.int .i64 0, .int .i64 0, .int .i64 0, .int .i64 0, .int .i64 0, .int .i64 0] 186)) (fun j => if j < 0 then ylf m j else 0)) := ⟨fun j hj => by rw [if_neg (by omega)]; exact ynl w (fun _ => 0) _ j hj, fun j => by simp only [World.frozen?, heap_alloc_new]; simp, (Below.refl _ _).alloc (Nat.le_refl _) _, by simp⟩
 have c0 : ∀ V, Below w.heap.size w V → V.cell? ⟨nb, 0, none⟩ = some (.slice (some ⟨pb, 0, none⟩) m.length cap) := fun V hV => by
  rw [hV.cell (p := ⟨nb, 0, none⟩) h.lt.1]
  simp [World.cell?, hb]
 have HC := yab c0
 have c00 := c0 _ C0.out.bel
 have AT : Hid (∀ V, Below w.heap.size w V → ∀ r, r < m.length → ∃ rb mb d, m[r]? = some d ∧ V.cell? ⟨pb, r, none⟩ = some (.pointer (some ⟨rb, 0, none⟩)) ∧ Rp V rb r (lfn d.com) mb (toE d.recs)) := fun V hV r hr => by
  obtain ⟨rb, mb, d, a1, _, a3, a4⟩ := (h.below hV).at r hr
  exact ⟨rb, mb, d, a1, a3, a4⟩
 have HN := yab hr
 generalize hn : m.length = n at *
 clear h hb c0 hr
 go_enter Tryz.func82, Tryz.ntmps82
 go_wp2
 go_loopw [13] (fun iv wr => ∃ i : Nat, i ≤ n ∧ iv = .int .i64 i ∧ Hid (CT w wr (fun j => if j < i then ylf m j else 0))) (fun iv _ => n - (Go.RowKit.intOf iv).toNat)
 case atStart => exact ⟨0, Nat.zero_le _, rfl, C0⟩
 case round =>
  obtain ⟨i, hi, rfl, hC⟩ := hrel
  clear C0 c00
  by_cases hlt : i < n
  ·obtain ⟨rb, mb, d, hd, hc, hR⟩ := AT.out wr hC.out.bel i hlt
   have LK := yab (plook_gen rb i (lfn d.com) mb (toE d.recs) wr hR (by rw [toE_len]; exact HN.out d (List.mem_of_getElem? hd)))
   have hcnt : lfn d.com i = ylf m i := by unfold ylf; rw [hd]
   rw [hcnt] at LK
   generalize (ybw (toE d.recs)).length = z1 at *
   generalize (toE d.recs).length = z2 at *
   have hi6 : (i : Int) < 6 := by omega
   have hi0 : (0 : Int) ≤ (i : Int) := by omega
   clear hR hcnt
   go_wp2_with (go_at_call 148; refine LK.out.mono ?_; rintro e w2 ⟨rfl, hb2⟩; have C2 := yab (hC.out.more hb2); clear hb2; have ci := C2.out.b i (by omega); have fi := C2.out.fz i)
   have C3 := yab (C2.out.put i (by omega) (ylf m i))
   have EQ : (fun j => if j = i then ylf m i else if j < i then ylf m j else 0) = (fun j => if j < i + 1 then ylf m j else 0) := by
    funext j
    by_cases e : j = i
    ·subst e; simp
    ·by_cases e2 : j < i
     ·simp [e, e2]; omega
     ·simp [e, e2]; omega
   rw [EQ] at C3
   go_roundw
   case rel => exact ⟨i + 1, by omega, by go_num, C3⟩
   case measure => simp [Go.RowKit.intOf]; omega
  ·have ei : i = n := by omega
   subst ei
   have C1 : Hid (CT w wr (ylf m)) := by
    have : (fun j => if j < i then ylf m j else 0) = ylf m := by
     funext j
     by_cases e : j < i
     ·rw [if_pos e]
     ·rw [if_neg e]; unfold ylf; rw [List.getElem?_eq_none (by omega)]
    rw [← this]
    exact hC
   have c01 := HC.out wr C1.out.bel
   clear hC
   go_wp2
   go_loopw [29] (fun iv wr2 => ∃ k : Nat, k ≤ i ∧ iv = .int .i64 k ∧ Hid (CT w wr2 (ylf m)) ∧ Hid ((m.take k).all (inB (ylf m)) = true)) (fun iv _ => i - (Go.RowKit.intOf iv).toNat)
   case atStart => exact ⟨0, Nat.zero_le _, rfl, C1, rfl⟩
   case round =>
    obtain ⟨k, hk, rfl, hC, hA⟩ := hrel
    clear C1 c01
    have bC := hC.out.b
    by_cases hlt2 : k < i
    ·obtain ⟨rb, mb, d, hd, hc, hR⟩ := AT.out _ hC.out.bel k hlt2
     have IW := yab (ywb rb k (lfn d.com) mb (toE d.recs) (ylf m) _ hR)
     have ez : ((toE d.recs).all (fun x => leB x.2.kn (ylf m)) && leB (lfn d.com) (ylf m)) = inB (ylf m) d := by rw [toE_all]; rfl
     rw [ez] at IW
     have b0 := bC 0 (by omega)
     have b1 := bC 1 (by omega)
     have b2 := bC 2 (by omega)
     have b3 := bC 3 (by omega)
     have b4 := bC 4 (by omega)
     have b5 := bC 5 (by omega)
     clear hR ez bC
     cases hz : inB (ylf m) d with
     |false =>
      have HA : Hid (m.all (inB (ylf m)) = false) := by
       unfold Hid
       rw [List.all_eq_false]
       exact ⟨d, List.mem_of_getElem? hd, by rw [hz]; simp⟩
      rw [hz] at IW
      clear hz hd
      go_wp2_with (go_at_call 149; refine IW.out.mono ?_; rintro e w2 ⟨rfl, hb2⟩; have C2 := yab (hC.out.more hb2); clear hb2)
      go_ret
      exact ⟨by rw [HA.out]; rfl, C2.out.bel⟩
     |true =>
      have HA : Hid ((m.take (k + 1)).all (inB (ylf m)) = true) := by
       unfold Hid
       rw [List.take_add_one, hd, Option.toList_some, List.all_append, hA.out]
       simp [hz]
      rw [hz] at IW
      clear hz hd
      go_wp2_with (go_at_call 149; refine IW.out.mono ?_; rintro e w2 ⟨rfl, hb2⟩; have C2 := yab (hC.out.more hb2); clear hb2)
      go_roundw
      case rel => exact ⟨k + 1, by omega, by go_num, C2, HA⟩
      case measure => simp [Go.RowKit.intOf]; omega
    ·have ek : k = i := by omega
     subst ek
     have HA : Hid (m.all (inB (ylf m)) = true) := by
      have := hA.out
      rw [← hn, List.take_length] at this
      exact this
     go_wp2
     go_ret
     exact ⟨by rw [HA.out]; rfl, hC.out.bel⟩
end Go.Proofs.K

namespace Go.Proofs.K
open Go.RowKit Go.Lib Go.Maps
theorem yqa {t : Bs} (h : t ≠ []) : (ybi t).length < t.length := by
 have h0 : 0 < t.length := List.length_pos_iff.2 h
 rcases yfl t with ⟨_, q, _⟩ | ⟨q, _⟩
 ·rw [q]; exact h0
 ·have := congrArg List.length q
  simp at this
  omega
theorem ygz {t : Bs} (h : ¬ (yak t).length < 3) : t ≠ [] := by
 rintro rfl
 have := yms []
 simp [yeb] at this
 omega
theorem recsR_fuel (n s : Nat) (cm : Nat → Int) : ∀ (f g : Nat) (t : Bs) (last : ByteArray), t.length < f → t.length < g → ygr n s cm f t last = ygr n s cm g t last := by
 intro f
 induction f with
 |zero => intro g t last h; omega
 |succ f ih =>
  intro g t last hf hg
  cases g with
  |zero => omega
  |succ g =>
   unfold ygr
   by_cases h3 : (yak t).length < 3
   ·rw [if_pos h3, if_pos h3]
   ·rw [if_neg h3, if_neg h3]
    have hr := yqa (ygz h3)
    rw [ih g (ybi t) _ (by omega) (by omega)]
theorem recsR_step (n s : Nat) (cm : Nat → Int) (x : ByteArray) (last : ByteArray) (h3 : ¬ (yak (bs x)).length < 3) : ygr n s cm (x.size + 1) (bs x) last =
  (yxt n (yak (bs x)).tail).bind fun d => if (ybm (yaf ((yak (bs x)).headD [])) && slt last (yaf ((yak (bs x)).headD [])) && yfb s cm (ybl d)) = true then
    (ygr n s cm ((yaf (ybi (bs x))).size + 1) (bs (yaf (ybi (bs x)))) (yaf ((yak (bs x)).headD []))).map fun y => (y.1, (yaf ((yak (bs x)).headD []), d) :: y.2) else none := by
 have hr := yqa (ygz h3)
 rw [yax] at hr
 conv => lhs; unfold ygr
 rw [if_neg h3, yah, yal, recsR_fuel n s cm x.size ((ybi (bs x)).length + 1) (ybi (bs x)) _ (by omega) (by omega)]
theorem yxx (n s : Nat) (cm : Nat → Int) (x : ByteArray) (last : ByteArray) {p a : Bs} {fs : List Bs} (hf : yak (bs x) = p :: a :: fs) (h3 : 1 ≤ fs.length) : ygr n s cm (x.size + 1) (bs x) last =
  (yxt n (a :: fs)).bind fun d => if (ybm (yaf p) && slt last (yaf p) && yfb s cm (ybl d)) = true then
    (ygr n s cm ((yaf (ybi (bs x))).size + 1) (bs (yaf (ybi (bs x)))) (yaf p)).map fun y => (y.1, (yaf p, d) :: y.2) else none := by
 have := recsR_step n s cm x last (by rw [hf]; simp; omega)
 rw [hf] at this
 exact this
structure RI (w wr : World) (rb s : Nat) (cm : Nat → Int) (mb n : Nat) (A : Option (Bs × Drs)) (x last : ByteArray) (D : Drs) : Prop where
 rp : Rp wr rb s cm mb (toE D)
 fr : Fr (fun k => k = mb) w wr
 eq : A = (ygr n s cm (x.size + 1) (bs x) last).map (fun y => (y.1, D ++ y.2))
 len : D.length + x.size ≤ 10000000
 ord : ∀ y ∈ D, y.1 = last ∨ slt y.1 last = true
 rise : D.Pairwise (fun x y => slt x.1 y.1 = true)
section
variable {w wr : World} {rb s mb n : Nat} {cm : Nat → Int} {A : Option (Bs × Drs)} {x last : ByteArray} {D : Drs}
theorem RI.done (h : RI w wr rb s cm mb n A x last D) (h3 : (yak (bs x)).length < 3) : A = some (bs x, D) := by
 rw [h.eq]
 unfold ygr
 rw [if_pos h3]
 simp
theorem RI.stop (h : RI w wr rb s cm mb n A x last D) {p a : Bs} {fs : List Bs} (hf : yak (bs x) = p :: a :: fs) (h3 : 1 ≤ fs.length)
  (hbad : yxt n (a :: fs) = none ∨ ∃ d, yxt n (a :: fs) = some d ∧ (ybm (yaf p) && slt last (yaf p) && yfb s cm (ybl d)) = false) : A = none := by
 rw [h.eq, yxx n s cm x last hf h3]
 rcases hbad with e | ⟨d, e, hc⟩
 ·rw [e]; rfl
 ·rw [e]
  simp only [Option.bind_some]
  rw [if_neg (by rw [hc]; simp)]
  rfl
theorem RI.paths (h : RI w wr rb s cm mb n A x last D) {q : ByteArray} (hq : slt last q = true) : ∀ y ∈ D, slt y.1 q = true := fun y hy => by
 rcases h.ord y hy with e | e
 ·rw [e]; exact hq
 ·exact ydx e hq
theorem RI.next (h : RI w wr rb s cm mb n A x last D) {w5 : World} {p a : Bs} {fs : List Bs} {d : DS} (hf : yak (bs x) = p :: a :: fs) (h3 : 1 ≤ fs.length) (hd : yxt n (a :: fs) = some d)
  (hp : ybm (yaf p) = true) (hs : slt last (yaf p) = true) (hc : yfb s cm (ybl d) = true) (h5 : Rp w5 rb s cm mb (yoj (yaf p) (ybl d) (toE D))) (hfr : Fr (fun k => k = mb) w w5) :
  RI w w5 rb s cm mb n A (yaf (ybi (bs x))) (yaf p) (D ++ [(yaf p, d)]) := by
 have h3' : ¬ (yak (bs x)).length < 3 := by rw [hf]; simp; omega
 have hr := yqa (ygz h3')
 rw [yax] at hr
 rw [toE_put D _ d (h.paths hs)] at h5
 refine ⟨h5, hfr, ?_, ?_, ?_, ?_⟩
 ·rw [h.eq, yxx n s cm x last hf h3]
  rw [hd]
  simp only [Option.bind_some]
  rw [if_pos (by rw [hp, hs, hc]; rfl), Option.map_map]
  congr 1
  funext y
  simp
 ·have := h.len
  rw [yal]
  simp
  omega
 ·intro y hy
  rcases List.mem_append.1 hy with hy | hy
  ·exact .inr (h.paths hs y hy)
  ·simp only [List.mem_singleton] at hy
   rw [hy]
   exact .inl rfl
 ·rw [List.pairwise_append]
  refine ⟨h.rise, List.pairwise_singleton _ _, fun a ha b hb => ?_⟩
  simp only [List.mem_singleton] at hb
  rw [hb]
  exact h.paths hs a ha
end
def RAns (A : Option (Bs × Drs)) (w' : World) (rb s : Nat) (cm : Nat → Int) (mb : Nat) (e : Ending) : Prop := match A with
 |none => e = .returned (.tuple #[.string ⟨#[]⟩, .bool false])
 |some y => e = .returned (.tuple #[.string (yaf y.1), .bool true]) ∧ Rp w' rb s cm mb (toE y.2)
def strSz : Value → Nat
 |.string s => s.size
 |_ => 0
end Go.Proofs.K

namespace Go.Proofs.K
open Go.RowKit Go.Lib
variable {w : World} {mb rb s : Nat} {cm : Nat → Int}
structure Ck (w V : World) (rb s : Nat) (cm : Nat → Int) (mb : Nat) (R : Rec) : Prop where
 rc : yap V w.heap.size R
 rep : ybs V rb s cm mb
 bel : Below w.heap.size w V
 size : w.heap.size < V.heap.size
theorem Ck.more {V V' : World} {R : Rec} (h : Ck w V rb s cm mb R) (hb : Below V.heap.size V V') : Ck w V' rb s cm mb R :=
 ⟨⟨by rw [hb.block _ h.size]; exact h.rc.blk⟩, h.rep.keep (hb.block _ h.rep.lt), h.bel.trans (hb.mono h.bel.size), Nat.lt_of_lt_of_le h.size hb.size⟩
theorem Ck.made (h : ybs w rb s cm mb) (R : Rec) : Ck w (w.alloc (.cells #[.string R.text, .int .i64 R.br, .int .i64 R.bn, .int .i64 (R.ch 0), .int .i64 (R.ch 1), .int .i64 (R.ch 2), .int .i64 (R.ch 3), .int .i64 (R.ch 4), .int .i64 (R.ch 5), .int .i64 (R.kn 0), .int .i64 (R.kn 1), .int .i64 (R.kn 2), .int .i64 (R.kn 3), .int .i64 (R.kn 4), .int .i64 (R.kn 5)] 197)) rb s cm mb R :=
 ⟨⟨heap_alloc_new _ _⟩, h.keep (Below.heap_alloc _ _ _ h.lt), (Below.refl _ _).alloc (Nat.le_refl _) _, by simp⟩
theorem must_any (R : Rec) (u : Nat → Int) (w : World) :
  Calls Tryz.prog 170 #[.agg #[.string R.text, .int .i64 R.br, .int .i64 R.bn, .int .i64 (R.ch 0), .int .i64 (R.ch 1), .int .i64 (R.ch 2), .int .i64 (R.ch 3), .int .i64 (R.ch 4), .int .i64 (R.ch 5), .int .i64 (R.kn 0), .int .i64 (R.kn 1), .int .i64 (R.kn 2), .int .i64 (R.kn 3), .int .i64 (R.kn 4), .int .i64 (R.kn 5)], .agg #[.int .i64 (u 0), .int .i64 (u 1), .int .i64 (u 2), .int .i64 (u 3), .int .i64 (u 4), .int .i64 (u 5)]] w fun e w' => e = .returned (.bool (decide (0 < R.bn) || !eqT R.kn u)) ∧ Below w.heap.size w w' := by
 by_cases h : 0 < R.bn
 ·rw [decide_eq_true h, Bool.true_or]
  exact ykl R.text R.br R.bn R.ch R.kn u w h
 ·rw [decide_eq_false h, Bool.false_or]
  exact yhy R.text R.br R.bn R.ch R.kn u w h
theorem ytr (rb s : Nat) (cm : Nat → Int) (mb : Nat) (w : World) (h : ybs w rb s cm mb) (R : Rec) :
  Calls Tryz.prog 197 #[.pointer (some ⟨rb, 0, none⟩), yad R] w fun e w' => e = .returned (.bool (yfb s cm R)) ∧ Below w.heap.size w w' := by
 unfold yad
 have K0 := yab (Ck.made h R)
 have hs := h.hs
 have CN : Hid (∀ V, Ck w V rb s cm mb R → Calls Tryz.prog 168 #[.pointer (some ⟨rb, 0, none⟩)] V fun e w' => e = .returned (.int .i64 (cm s)) ∧ ∃ nq, w' = V.drewN nq) := fun V hV => ygx rb s cm mb V hV.rep
 have HC : Hid (∀ V, Calls Tryz.prog 223 #[.agg #[.int .i64 (R.kn 0), .int .i64 (R.kn 1), .int .i64 (R.kn 2), .int .i64 (R.kn 3), .int .i64 (R.kn 4), .int .i64 (R.kn 5)], .agg #[.string R.text, .int .i64 R.br, .int .i64 R.bn, .int .i64 (R.ch 0), .int .i64 (R.ch 1), .int .i64 (R.ch 2), .int .i64 (R.ch 3), .int .i64 (R.ch 4), .int .i64 (R.ch 5)]] V fun e w' => e = .returned (.bool (leB R.ch R.kn)) ∧ Below V.heap.size V w') := fun V => ycr R R.kn V
 have MK := yab (fun V => must_any R cm V)
 have EC : Hid (yfb s cm R = (decide (R.kn s = cm s) && (leB R.ch R.kn && (decide (0 < R.bn) || !eqT R.kn cm)))) := rfl
 rw [EC.out]
 generalize (decide (0 < R.bn) || !eqT R.kn cm) = z3 at *
 generalize leB R.ch R.kn = z2 at *
 clear EC h
 go_enter Tryz.func197, Tryz.ntmps197
 go_wp2_with fail
 generalize w.alloc (.cells #[.string R.text, .int .i64 R.br, .int .i64 R.bn, .int .i64 (R.ch 0), .int .i64 (R.ch 1), .int .i64 (R.ch 2), .int .i64 (R.ch 3), .int .i64 (R.ch 4), .int .i64 (R.ch 5), .int .i64 (R.kn 0), .int .i64 (R.kn 1), .int .i64 (R.kn 2), .int .i64 (R.kn 3), .int .i64 (R.kn 4), .int .i64 (R.kn 5)] 197) = V at *
 have c0 := K0.out.rep.c0
 have kq := K0.out.rc.kn s hs
 have hs1 : (0 : Int) ≤ (s : Int) := by omega
 have hs2 : (s : Int) < 6 := by omega
 go_quiet ((go_at_call 168; exact (CN.out _ (by exact K0.out.more ⟨rfl, rfl, rfl, Nat.le_refl _, fun _ _ => rfl⟩)).mono fun _ _ h => ⟨h.1, by obtain ⟨q, e⟩ := h.2; exact ⟨_, e.trans (by first | exact World.drewN_drewN _ _ _ | rfl)⟩⟩))
 have K1 : Hid (Ck w (V.drewN nq) rb s cm mb R) := K0.out.more ⟨rfl, rfl, rfl, Nat.le_refl _, fun _ _ => rfl⟩
 clear K0 c0 kq CN
 generalize V.drewN nq = U at *
 go_wp2_with fail
 have B1 : Hid (∀ k, Below w.heap.size w (U.drewN k)) := fun k => (K1.out.more (V' := U.drewN k) ⟨rfl, rfl, rfl, Nat.le_refl _, fun _ _ => rfl⟩).bel
 obtain ⟨k0, k1, k2, k3, k4, k5, k6, k7, k8, k9, k10, k11, k12, k13, k14⟩ := K1.out.rc.cells
 have r1 := K1.out.rep.ct 0 (by omega)
 have r2 := K1.out.rep.ct 1 (by omega)
 have r3 := K1.out.rep.ct 2 (by omega)
 have r4 := K1.out.rep.ct 3 (by omega)
 have r5 := K1.out.rep.ct 4 (by omega)
 have r6 := K1.out.rep.ct 5 (by omega)
 simp only [Nat.reduceAdd] at r1 r2 r3 r4 r5 r6
 by_cases hz : R.kn s = cm s
 ·simp only [hz, decide_true, Bool.true_and]
  cases z2 with
  |false =>
   first
    |(go_region_law (first
     |(go_simp; go_at_call 223; refine (HC.out _).mono ?_; rintro e w2 ⟨rfl, hb2⟩; have K2 := yab (K1.out.more ⟨hb2.os, hb2.tape, hb2.output, hb2.size, hb2.block⟩); clear hb2; dsimp only)))
    |fail
   all_goals
    go_wp2
    go_ret
    exact ⟨by rw [decide_eq_true hz]; rfl, K2.out.bel⟩
  |true =>
   go_region_law (first
    |(go_simp; go_at_call 223; refine (HC.out _).mono ?_; rintro e w2 ⟨rfl, hb2⟩; have K2 := yab (K1.out.more ⟨hb2.os, hb2.tape, hb2.output, hb2.size, hb2.block⟩); clear hb2; obtain ⟨q0, q1, q2, q3, q4, q5, q6, q7, q8, q9, q10, q11, q12, q13, q14⟩ := K2.out.rc.cells; have p1 := K2.out.rep.ct 0 (by omega); have p2 := K2.out.rep.ct 1 (by omega); have p3 := K2.out.rep.ct 2 (by omega); have p4 := K2.out.rep.ct 3 (by omega); have p5 := K2.out.rep.ct 4 (by omega); have p6 := K2.out.rep.ct 5 (by omega); simp only [Nat.reduceAdd] at p1 p2 p3 p4 p5 p6; dsimp only)
    |(go_simp; go_at_call 170; refine (MK.out _).mono ?_; rintro e w3 ⟨rfl, hb3⟩; have K3 := yab (K2.out.more hb3); clear hb3; dsimp only))
   all_goals
    go_wp2
    go_ret
    exact ⟨by rw [decide_eq_true hz]; rfl, K3.out.bel⟩
 ·have hq : (R.kn s == cm s) = false := by simp [hz]
  simp only [hq]
  first
   |go_region
   |fail
  all_goals
   go_wp2
   go_ret
   exact ⟨by rw [decide_eq_false hz]; rfl, K1.out.bel.drew⟩
end Go.Proofs.K

namespace Go.Proofs.K
open Go.RowKit Go.Lib Go.Maps
variable {W w wr : World} {mb rb s : Nat} {cm : Nat → Int} {D : Drs}
structure RJ (w wr W : World) (rb s : Nat) (cm : Nat → Int) (mb : Nat) (D : Drs) (b : Nat) (R : Rec) : Prop where
 rp : Rp W rb s cm mb (toE D)
 bel : Below wr.heap.size wr W
 rc : yap W b R
theorem RJ.more {W' : World} {b : Nat} {R : Rec} (h : RJ w wr W rb s cm mb D b R) (hb : Below W.heap.size W W') : RJ w wr W' rb s cm mb D b R :=
 ⟨h.rp.below hb, h.bel.trans (hb.mono h.bel.size), ⟨by rw [hb.block b (Array.getElem?_eq_some_iff.1 h.rc.blk).1]; exact h.rc.blk⟩⟩
theorem RJ.made (h : Rp wr rb s cm mb (toE D)) (hb : Below wr.heap.size wr W) (R : Rec) : RJ w wr (W.alloc (.cells #[.string R.text, .int .i64 R.br, .int .i64 R.bn, .int .i64 (R.ch 0), .int .i64 (R.ch 1), .int .i64 (R.ch 2), .int .i64 (R.ch 3), .int .i64 (R.ch 4), .int .i64 (R.ch 5), .int .i64 (R.kn 0), .int .i64 (R.kn 1), .int .i64 (R.kn 2), .int .i64 (R.kn 3), .int .i64 (R.kn 4), .int .i64 (R.kn 5)] 197)) rb s cm mb D W.heap.size R :=
 ⟨(h.below hb).below ((Below.refl _ _).alloc (Nat.le_refl _) _), hb.alloc hb.size _, ⟨heap_alloc_new _ _⟩⟩
theorem ypx (rb s : Nat) (cm : Nat → Int) (mb : Nat) (t0 : ByteArray) (ht0 : t0.size ≤ 10000000) (n : Nat) (h1 : 1 ≤ n) (h6 : n ≤ 6) (w : World) (hg : yez w) (h : Rp w rb s cm mb []) (hm8 : 8 ≤ mb) :
  Calls Tryz.prog 147 #[.pointer (some ⟨rb, 0, none⟩), .string t0, .int .i64 n] w fun e w' => RAns (ygr n s cm (t0.size + 1) (bs t0) ⟨#[]⟩) w' rb s cm mb e ∧ Fr (fun k => k = mb) w w' := by
 generalize hA : ygr n s cm (t0.size + 1) (bs t0) ⟨#[]⟩ = A
 have I0 : Hid (RI w w rb s cm mb n A t0 ⟨#[]⟩ []) := ⟨h, Fr.refl _ _, by rw [hA]; cases A <;> simp, by simpa using ht0, fun y hy => by simp at hy, List.Pairwise.nil⟩
 have GL : Hid (∀ wr, Fr (fun k => k = mb) w wr → yez wr) := fun wr hf => hg.fr hf (fun k hk e => by omega)
 clear hg h hA
 go_enter Tryz.func147, Tryz.ntmps147
 go_wp2
 go_loopw [1, 8] (fun tv lv wr => ∃ (x last : ByteArray) (D : Drs), tv = .string x ∧ lv = .string last ∧ Hid (RI w wr rb s cm mb n A x last D)) (fun tv _ _ => strSz tv)
 case atStart => exact ⟨t0, ⟨#[]⟩, [], rfl, rfl, I0⟩
 case round =>
  clear I0
  obtain ⟨x, last, D, rfl, rfl, hI⟩ := hrel
  have hxs : x.size ≤ 10000000 := by have := hI.out.len; omega
  have CL := yab (yoy x hxs wr (GL.out wr hI.out.fr))
  by_cases h3 : (yak (bs x)).length < 3
  ·have d3 : decide (((yak (bs x)).length : Int) < 3) = true := by simp; omega
   have e := hI.out.done h3
   subst e
   generalize hL : (yak (bs x)).length = L at *
   have RT : Hid (∀ W, Below wr.heap.size wr W → RAns (some (bs x, D)) W rb s cm mb (.returned (.tuple #[.string x, .bool true])) ∧ Fr (fun k => k = mb) w W) := fun W hW => ⟨⟨by rw [ofBs_bs], hI.out.rp.below hW⟩, hI.out.fr.trans (Fr.of_below hW)⟩
   generalize yak (bs x) = fs at *
   generalize yaf (ybi (bs x)) = rs at *
   clear hL
   go_wp2_with (go_at_call 145; refine CL.out.mono ?_; rintro e w1 ⟨B, C, rfl, hF, hB, hb1, hcp⟩; have HB := yab hb1; clear hF hB hb1 hcp)
   go_ret2
   exact RT.out _ HB.out
  ·obtain ⟨p, a, fs, hf, hfl, hfl4⟩ : ∃ p a fs, yak (bs x) = p :: a :: fs ∧ 1 ≤ fs.length ∧ fs.length ≤ 4 := by
    have hle := yms (bs x)
    match hq : yak (bs x) with
    |[] => rw [hq] at h3; simp at h3
    |[p] => rw [hq] at h3; simp at h3
    |p :: a :: fs => rw [hq] at h3 hle; simp at h3 hle; exact ⟨p, a, fs, rfl, by omega, by omega⟩
   have hsz : ∀ q ∈ p :: a :: fs, q.length ≤ 10000000 := fun q hq => by
    have h1 := ykc 32 (yak (bs x)) q (by rw [hf]; exact hq)
    rw [yht] at h1
    have h2 := (yhr 10 (bs x)).1
    rw [yax] at h2
    unfold ydb at h1
    omega
   have RR : Hid (∀ (W : World) (B C : Nat), Below wr.heap.size wr W → Flds W B (p :: a :: fs) → (p :: a :: fs).length ≤ C → Calls Tryz.prog 196 #[.slice (some ⟨B, 1, none⟩) (fs.length + 1) (C - 1), .int .i64 n] W fun e w' => ∃ R : Rec, e = .returned (.tuple #[yad R, .bool (yxt n (a :: fs)).isSome]) ∧ (∀ d, yxt n (a :: fs) = some d → R = ybl d) ∧ Below wr.heap.size wr w') := fun W B C hW hF hC => by
    refine (yrk B 1 (C - 1) a fs (by omega) hfl (by simp at hC; omega) (fun q hq => hsz q (List.mem_cons_of_mem _ hq)) n h1 h6 W ⟨fun j q hq => ?_, hF.lt⟩ ((GL.out wr hI.out.fr).below hW)).mono ?_
    ·have := hF.pc (j + 1) q (by simpa using hq)
     rw [show 1 + j = j + 1 by omega]
     exact this
    ·rintro e w' ⟨R, rfl, h2, h3⟩
     exact ⟨R, rfl, h2, hW.trans (h3.mono hW.size)⟩
   have hps : (yaf p).size ≤ 10000000 := by rw [yal]; exact hsz p (by simp)
   have HI := hI
   have STOP := yab (fun hb => hI.out.stop hf hfl hb)
   have NEXT := yab (fun (w5 : World) (d : DS) hd hp hs hc h5 hfr => hI.out.next (w5 := w5) (d := d) hf hfl hd hp hs hc h5 hfr)
   have BAD : Hid (A = none → ∀ W, Below wr.heap.size wr W → RAns A W rb s cm mb (.returned (.tuple #[.string ⟨#[]⟩, .bool false])) ∧ Fr (fun k => k = mb) w W) := fun e W hW => by
    subst e
    exact ⟨rfl, hI.out.fr.trans (Fr.of_below hW)⟩
   rw [hf] at CL
   have FP : Hid (∀ (W : World) (B : Nat), Flds W B (p :: a :: fs) → W.cell? ⟨B, 0, none⟩ = some (.string (yaf p))) := fun W B hF => hF.pc 0 p rfl
   have IP : Hid (∀ W : World, Calls Tryz.prog 103 #[.string (yaf p)] W fun e w' => e = .returned (.bool (ybm (yaf p))) ∧ w' = W) := fun W => ysj (yaf p) W (by unfold maxLen; omega)
   simp only [List.length_cons] at CL RR
   have m1 : ¬ ((fs.length : Int) + 1 + 1 < 3) := by omega
   have m2 : decide ((fs.length : Int) + 1 + 1 < 3) = false := by simp; omega
   generalize hm : fs.length = m at *
   have RSZ : Hid ((yaf (ybi (bs x))).size < x.size) := by
    unfold Hid
    rw [yal]
    have := yqa (ygz h3)
    rw [yax] at this
    exact this
   generalize yaf (ybi (bs x)) = rs at *
   cases hrec : yxt n (a :: fs) with
   |none =>
    have e := STOP.out (.inl hrec)
    rw [hrec] at RR
    simp only [Option.isSome_none] at RR
    go_wp2_with (first
     |(go_at_call 145; refine CL.out.mono ?_; rintro e w1 ⟨B, C, rfl, hF, hB, hb1, hcp⟩; have HB := yab hb1; have HF := yab hF; have f0 := FP.out w1 B hF; have hC1 : ¬ C = 1 := (by omega); clear hF hB hb1)
     |(go_at_call 196; refine (RR.out _ B C HB.out HF.out hcp).mono ?_; rintro e w2 ⟨R, rfl, _, hb2⟩; have HB2 := yab hb2; clear hb2; unfold yad; dsimp only))
    go_ret2
    exact BAD.out e _ (HB2.out.alloc HB2.out.size _)
   |some d =>
    have RR2 : Hid (∀ (W : World) (B C : Nat), Below wr.heap.size wr W → Flds W B (p :: a :: fs) → m + 1 + 1 ≤ C → Calls Tryz.prog 196 #[.slice (some ⟨B, 1, none⟩) (m + 1) (C - 1), .int .i64 n] W fun e w' => e = .returned (.tuple #[yad (ybl d), .bool true]) ∧ Below wr.heap.size wr w') := fun W B C a1 a2 a3 => by
     refine (RR.out W B C a1 a2 a3).mono ?_
     rintro e w' ⟨R, rfl, hR, hb⟩
     rw [hR d hrec, hrec]
     exact ⟨rfl, hb⟩
    have CK := yab (fun W (hW : ybs W rb s cm mb) => ytr rb s cm mb W hW (ybl d))
    have KP : Hid (yfb s cm (ybl d) = true → ∀ W, Rp W rb s cm mb (toE D) → Calls Tryz.prog 112 #[.pointer (some ⟨rb, 0, none⟩), .string (yaf p), yad (ybl d)] W fun e w' => e = .returned (.tuple #[]) ∧ Rp w' rb s cm mb (yoj (yaf p) (ybl d) (toE D)) ∧ Fr (fun k => k = mb) W w') := fun hc W hW => by
     have hk : (decide (0 < (ybl d).bn) || !eqT (ybl d).kn cm) = true := by
      unfold yfb at hc
      simp only [Bool.and_eq_true] at hc
      exact hc.2.2
     exact ywy rb s cm mb W (toE D) hW (by rw [toE_len]; have := HI.out.len; unfold maxLen; omega) (yaf p) (by omega) (ybl d) (by unfold ybl; simp only; omega) hk
    have ST1 : Hid ((ybm (yaf p) && slt last (yaf p) && yfb s cm (ybl d)) = false → A = none) := fun hb => STOP.out (.inr ⟨d, hrec, hb⟩)
    have NX := yab (fun (w5 : World) hp hs hc h5 hfr => NEXT.out w5 d hrec hp hs hc h5 hfr)
    have LE := le_slt (yaf p) last
    clear RR STOP NEXT hrec hsz
    generalize ybl d = R at *
    generalize yfb s cm R = z3 at *
    generalize hz2 : slt last (yaf p) = z2 at *
    generalize ybm (yaf p) = z1 at *
    unfold slt seq at LE
    clear hz2 hf h3
    generalize yaf p = q at *
    unfold yad at RR2 CK KP
    cases z1 with
    |false =>
     have e := ST1.out rfl
     go_wp2_with (first
      |(go_at_call 145; refine CL.out.mono ?_; rintro e w1 ⟨B, C, rfl, hF, hB, hb1, hcp⟩; have HB := yab hb1; have HF := yab hF; have f0 := FP.out w1 B hF; have hC1 : ¬ C = 1 := (by omega); clear hF hB hb1)
      |(go_at_call 196; refine (RR2.out _ B C HB.out HF.out hcp).mono ?_; rintro e w2 ⟨rfl, hb2⟩; have HB2 := yab hb2; have J2 := yab (RJ.made (w := w) HI.out.rp hb2 R); clear hb2; dsimp only)
      |(go_at_call 103; refine (IP.out _).mono ?_; rintro e w3 ⟨rfl, rfl⟩))
     go_ret2
     exact BAD.out e _ J2.out.bel
    |true =>
     cases z2 with
     |false =>
      have e := ST1.out rfl
      rw [Bool.not_false] at LE
      go_wp2_with (first
       |(go_at_call 145; refine CL.out.mono ?_; rintro e w1 ⟨B, C, rfl, hF, hB, hb1, hcp⟩; have HB := yab hb1; have HF := yab hF; have f0 := FP.out w1 B hF; have hC1 : ¬ C = 1 := (by omega); clear hF hB hb1)
       |(go_at_call 196; refine (RR2.out _ B C HB.out HF.out hcp).mono ?_; rintro e w2 ⟨rfl, hb2⟩; have HB2 := yab hb2; have J2 := yab (RJ.made (w := w) HI.out.rp hb2 R); clear hb2; dsimp only)
       |(go_at_call 103; refine (IP.out _).mono ?_; rintro e w3 ⟨rfl, rfl⟩))
      go_ret2
      exact BAD.out e _ J2.out.bel
     |true =>
      rw [Bool.not_true] at LE
      cases z3 with
      |false =>
       have e := ST1.out rfl
       go_wp2_with (first
        |(go_at_call 145; refine CL.out.mono ?_; rintro e w1 ⟨B, C, rfl, hF, hB, hb1, hcp⟩; have HB := yab hb1; have HF := yab hF; have f0 := FP.out w1 B hF; have hC1 : ¬ C = 1 := (by omega); clear hF hB hb1)
        |(go_at_call 196; refine (RR2.out _ B C HB.out HF.out hcp).mono ?_; rintro e w2 ⟨rfl, hb2⟩; have HB2 := yab hb2; have J2 := yab (RJ.made (w := w) HI.out.rp hb2 R); clear hb2; dsimp only)
        |(go_at_call 103; refine (IP.out _).mono ?_; rintro e w3 ⟨rfl, rfl⟩)
        |(go_at_call 197; refine (CK.out _ J2.out.rp.rep).mono ?_; rintro e w4 ⟨rfl, hb4⟩; have J4 := yab (J2.out.more hb4); clear hb4; obtain ⟨q0, q1, q2, q3, q4, q5, q6, q7, q8, q9, q10, q11, q12, q13, q14⟩ := J4.out.rc.cells))
       go_ret2
       exact BAD.out e _ J4.out.bel
      |true =>
       go_wp2_with (first
        |(go_at_call 145; refine CL.out.mono ?_; rintro e w1 ⟨B, C, rfl, hF, hB, hb1, hcp⟩; have HB := yab hb1; have HF := yab hF; have f0 := FP.out w1 B hF; have hC1 : ¬ C = 1 := (by omega); clear hF hB hb1)
        |(go_at_call 196; refine (RR2.out _ B C HB.out HF.out hcp).mono ?_; rintro e w2 ⟨rfl, hb2⟩; have HB2 := yab hb2; have J2 := yab (RJ.made (w := w) HI.out.rp hb2 R); clear hb2; dsimp only)
        |(go_at_call 103; refine (IP.out _).mono ?_; rintro e w3 ⟨rfl, rfl⟩)
        |(go_at_call 197; refine (CK.out _ J2.out.rp.rep).mono ?_; rintro e w4 ⟨rfl, hb4⟩; have J4 := yab (J2.out.more hb4); clear hb4; obtain ⟨q0, q1, q2, q3, q4, q5, q6, q7, q8, q9, q10, q11, q12, q13, q14⟩ := J4.out.rc.cells))
       go_at_call 112
       refine (KP.out trivial _ J4.out.rp).mono ?_
       rintro e w5 ⟨rfl, h5, hf5⟩
       have R5 := yab h5
       have F5 := yab hf5
       clear h5 hf5
       dsimp only
       go_wp2
       have N5 := yab (NX.out w5 trivial trivial trivial R5.out (HI.out.fr.trans ((Fr.of_below J4.out.bel).trans F5.out)))
       go_roundw
       case rel => exact ⟨_, _, _, rfl, rfl, N5⟩
       case measure => exact RSZ.out
end Go.Proofs.K

namespace Go.Proofs.K
open Go.RowKit Go.Lib Go.Maps
attribute [local go_sem ↓] ykp
attribute [local go_sem] ygs
theorem toE_there (D : Drs) (hD : ∀ y ∈ D, y.2.born ∧ (y.2.there = false → y.2.num = 0)) : (ybw (toE D)).length = yiq D := by
 unfold ybw toE yiq
 rw [List.filter_map, List.length_map]
 congr 1
 apply List.filter_congr
 intro y hy
 obtain ⟨h1, h2⟩ := hD y hy
 simp only [Function.comp, ybl]
 cases ht : y.2.there with
 |true => have := h1 ht; simp; omega
 |false => have := h2 ht; simp; omega
theorem ysr (n s : Nat) (hn : 1 ≤ n) (h6 : n ≤ 6) (cm : Nat → Int) : ∀ (f : Nat) (t : Bs) (last : ByteArray) (x : Bs × Drs), ygr n s cm f t last = some x → (∀ y ∈ x.2, y.2.born ∧ (y.2.there = false → y.2.num = 0)) ∧ (∀ y ∈ x.2, slt last y.1 = true) ∧ x.2.Pairwise (fun a b => slt a.1 b.1 = true) ∧ x.2.length + x.1.length ≤ t.length := by
 intro f
 induction f with
 |zero => intro t last x h; cases h
 |succ f ih =>
  intro t last x h
  unfold ygr at h
  by_cases h3 : (yak t).length < 3
  ·rw [if_pos h3] at h
   cases h
   exact ⟨by simp, by simp, List.Pairwise.nil, by simp⟩
  ·rw [if_neg h3] at h
   obtain ⟨d, hd, h⟩ := Option.bind_eq_some_iff.1 h
   split at h
   ·rename_i hc
    simp only [Bool.and_eq_true] at hc
    obtain ⟨y, hy, rfl⟩ := Option.map_eq_some_iff.1 h
    obtain ⟨i1, i2, i3, i4⟩ := ih _ _ y hy
    obtain ⟨r1, r2, _⟩ := (yvd n hn h6 _ d).1 hd
    have hr := yqa (ygz h3)
    refine ⟨fun z hz => ?_, fun z hz => ?_, ?_, by simp; omega⟩
    ·rcases List.mem_cons.1 hz with rfl | hz
     ·exact ⟨r2, fun q => (r1.none q).2.1⟩
     ·exact i1 z hz
    ·rcases List.mem_cons.1 hz with rfl | hz
     ·exact hc.1.2
     ·exact ydx hc.1.2 (i2 z hz)
    ·rw [List.pairwise_cons]
     exact ⟨fun z hz => i2 z hz, i3⟩
   ·cases h
def LAns (A : Option (Bs × DR)) (w' : World) (s lo : Nat) (e : Ending) : Prop := match A with
 |none => e = .returned (.tuple #[.pointer none, .string ⟨#[]⟩, .bool false])
 |some y => ∃ rb mb, e = .returned (.tuple #[.pointer (some ⟨rb, 0, none⟩), .string (yaf y.1), .bool true]) ∧ Rp w' rb s (lfn y.2.com) mb (toE y.2.recs) ∧ lo ≤ rb ∧ lo ≤ mb
end Go.Proofs.K
