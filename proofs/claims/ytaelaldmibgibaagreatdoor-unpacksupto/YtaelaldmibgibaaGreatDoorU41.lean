/- What reading records needs: a replica of the program's with any records. The program's IsWithin: of all that is known. The program's readRecords: what stands at each round. -/
import Derived.Test.YtaelaldmibgibaaGreatDoorU39
import Derived.Test.YtaelaldmibgibaaGreatDoorU22
import Derived.Test.YtaelaldmibgibaaGreatDoorU18
import Derived.Test.YtaelaldmibgibaaGreatDoorU40
import Derived.Test.YtaelaldmibgibaaGreatDoorU35

set_option linter.unusedVariables false
set_option linter.unusedSimpArgs false

namespace Go.Proofs.YtaelaldmibgibaaGreatDoor
open Go.RowKit Go.Lib Go.Maps

/-- a replica of the program's: its common time, its records -/
structure Rp (w : World) (rb s : Nat) (cm : Nat → Int) (mb : Nat) (E : Recs) : Prop where
  rep : RepAt w rb s cm mb
  own : w.ownsMap Tryz.prog 9 recElem mb E.length (datOf E)
  ris : RisingE E
section
variable {w w' : World} {rb s mb : Nat} {cm : Nat → Int} {E : Recs}
theorem Rp.keep (h : Rp w rb s cm mb E) (h1 : w'.heap[rb]? = w.heap[rb]?) (h2 : w'.heap[mb]? = w.heap[mb]?) : Rp w' rb s cm mb E := ⟨h.rep.keep h1, ownsMap_keep h.own h2, h.ris⟩
theorem Rp.below (h : Rp w rb s cm mb E) (hb : Below w.heap.size w w') : Rp w' rb s cm mb E := h.keep (hb.block _ h.rep.lt) (hb.block _ h.own.lt)
end
theorem Glob.fr {w w' : World} {S : Nat → Prop} (h : Glob w) (hf : Fr S w w') (hS : ∀ k, k < 8 → ¬ S k) : Glob w' := by
  have hsz := h.sz
  refine ⟨?_, ?_, ?_, ?_, Nat.le_trans h.sz hf.size⟩
  · obtain ⟨m, q⟩ := h.max; exact ⟨m, (hf.cell (p := ⟨0, 0, none⟩) (by simp only; omega) (hS 0 (by omega))).trans q⟩
  · obtain ⟨a, b, q⟩ := h.syn; exact ⟨a, b, (hf.cell (p := ⟨2, 0, none⟩) (by simp only; omega) (hS 2 (by omega))).trans q⟩
  · obtain ⟨a, b, q⟩ := h.rng; exact ⟨a, b, (hf.cell (p := ⟨3, 0, none⟩) (by simp only; omega) (hS 3 (by omega))).trans q⟩
  · have h1 := h.tab
    unfold Lib.TabIs World.var? at *
    rw [glob_pow] at *
    simp only [Option.bind_eq_bind, Option.bind_some] at *
    rw [hf.block 1 (by omega) (hS 1 (by omega))]
    exact h1
theorem le_slt (p q : ByteArray) : (slt p q || seq p q) = !slt q p := by
  cases e : slt q p with
  | true =>
    rw [slt_asymm e, seq_false (fun h => slt_ne e h.symm)]
    rfl
  | false =>
    cases e' : slt p q with
    | true => rfl
    | false => rw [(seq_iff p q).2 (slt_tri e' e)]; rfl
theorem toE_put (D : Drs) (p : ByteArray) (d : DS) (h : ∀ y ∈ D, slt y.1 p = true) : putE p (toRec d) (toE D) = toE (D ++ [(p, d)]) := by
  unfold putE
  rw [filter_all _ _ (fun x hx => ?_), filter_none _ _ (fun x hx => ?_)]
  · simp [toE]
  · obtain ⟨y, hy, rfl⟩ := List.mem_map.1 hx
    exact slt_asymm (h y hy)
  · obtain ⟨y, hy, rfl⟩ := List.mem_map.1 hx
    exact h y hy
theorem toE_len (D : Drs) : (toE D).length = D.length := by simp [toE]
theorem toE_rise {D : Drs} (h : D.Pairwise (fun x y => slt x.1 y.1 = true)) : RisingE (toE D) := by
  unfold RisingE toE
  rw [List.pairwise_map]
  exact h

/-- keep of a record that must be kept -/
theorem keep_must (rb s : Nat) (cm : Nat → Int) (mb : Nat) (w : World) (E : Recs) (h : Rp w rb s cm mb E) (hl : E.length < maxLen) (p : ByteArray) (hp : p.size ≤ 1000000000000) (R : Rec) (h0 : 0 ≤ R.bn) (hk : (decide (0 < R.bn) || !eqT R.kn cm) = true) :
    Calls Tryz.prog 112 #[.pointer (some ⟨rb, 0, none⟩), .string p, recVal R] w fun e w' => e = .returned (.tuple #[]) ∧ Rp w' rb s cm mb (putE p R E) ∧ Fr (fun k => k = mb) w w' := by
  unfold recVal
  by_cases hb : 0 < R.bn
  · refine (keep_in rb s cm mb w h.rep E h.ris hl h.own p hp R hb).mono ?_
    rintro e w' ⟨rfl, h1, h2, h3⟩
    exact ⟨rfl, ⟨h1, h2, rising_put p R E h.ris⟩, h3⟩
  · refine (keep_kn rb s cm mb w h.rep E h.ris hl h.own p hp R (by omega) (by simpa [hb] using hk)).mono ?_
    rintro e w' ⟨rfl, h1, h2, h3⟩
    exact ⟨rfl, ⟨h1, h2, rising_put p R E h.ris⟩, h3⟩

end Go.Proofs.YtaelaldmibgibaaGreatDoor

namespace Go.Proofs.YtaelaldmibgibaaGreatDoor
open Go.RowKit Go.Lib Go.Maps

attribute [local go_sem ↓] eqTime
attribute [local go_sem] run_eqM

/-- a time's copy in a new block -/
structure W1 (w V : World) (b : Nat → Int) : Prop where
  b : ∀ j, j < 6 → V.cell? ⟨w.heap.size, j, none⟩ = some (.int .i64 (b j))
  bel : Below w.heap.size w V
  lt : w.heap.size < V.heap.size
theorem W1.more {w V V' : World} {b : Nat → Int} (h : W1 w V b) (hb : Below V.heap.size V V') : W1 w V' b :=
  ⟨fun j hj => (hb.cell (p := ⟨w.heap.size, j, none⟩) h.lt).trans (h.b j hj), h.bel.trans (hb.mono h.bel.size), Nat.lt_of_lt_of_le h.lt hb.size⟩
theorem recDat_kn {R R' : Rec} (h : recDat R = recDat R') : ∀ j, j < 6 → R.kn j = R'.kn j := by
  simp only [recDat, DataW.agg.injEq, List.cons.injEq, DataW.lit.injEq, Lit.string.injEq, Lit.int.injEq, true_and, and_true] at h
  obtain ⟨_, _, _, _, _, _, _, _, _, h0, h1, h2, h3, h4, h5⟩ := h
  intro j hj
  match j, hj with
  | 0, _ => exact h0
  | 1, _ => exact h1
  | 2, _ => exact h2
  | 3, _ => exact h3
  | 4, _ => exact h4
  | 5, _ => exact h5
theorem leB_congr {a a' b : Nat → Int} (h : ∀ j, j < 6 → a j = a' j) : leB a b = leB a' b := by
  unfold leB eqT gboth g1
  rw [h 0 (by omega), h 1 (by omega), h 2 (by omega), h 3 (by omega), h 4 (by omega), h 5 (by omega)]

/-- those that have come so far are within -/
def cameB (C : Nat → Int) (left : Lit → Bool) (E : Recs) : Prop := ∀ x ∈ E, left (key x.1) = false → leB x.2.kn C = true
theorem cameB_start (C : Nat → Int) (E : Recs) : cameB C (Maps.has (datOf E)) E := fun x hx h => by
  rw [has_datOf, getE_mem hx] at h
  cases h
theorem cameB_end {C : Nat → Int} {left : Lit → Bool} {E : Recs} (h : cameB C left E) (hl : ∀ kl, left kl = false) : E.all (fun x => leB x.2.kn C) = true := by
  rw [List.all_eq_true]
  exact fun x hx => h x hx (hl _)
theorem rising_one {E : Recs} (hE : RisingE E) {x : ByteArray} {R R' : Rec} (h : (x, R) ∈ E) (h' : (x, R') ∈ E) : R = R' := by
  induction E with
  | nil => simp at h
  | cons z E ih =>
    obtain ⟨p1, p2⟩ := List.pairwise_cons.1 hE
    rcases List.mem_cons.1 h with a1 | a1
    · rcases List.mem_cons.1 h' with b1 | b1
      · have := a1.trans b1.symm; simpa using this
      · rw [← a1] at p1
        have q := slt_ne (p1 (x, R') b1)
        exact absurd rfl q
    · rcases List.mem_cons.1 h' with b1 | b1
      · rw [← b1] at p1
        have q := slt_ne (p1 (x, R) a1)
        exact absurd rfl q
      · exact ih p2 a1 b1
theorem cameB_step {C : Nat → Int} {left : Lit → Bool} {E : Recs} (hE : RisingE E) (h : cameB C left E) {x : ByteArray} {R : Rec} (hx : (x, R) ∈ E) (hR : leB R.kn C = true) : cameB C (fun z => left z && !z.sameKey (key x)) E := fun y hy hl' => by
  have hl : (left (key y.1) && !(key y.1).sameKey (key x)) = false := hl'
  rw [same_key] at hl
  cases e : left (key y.1) with
  | false => exact h y hy e
  | true =>
    rw [e] at hl
    simp at hl
    have := (seq_iff _ _).1 hl
    obtain ⟨y1, y2⟩ := y
    simp only at this
    subst this
    rw [rising_one hE hy hx]
    exact hR

set_option maxRecDepth 100000 in
set_option maxHeartbeats 2000000 in
theorem IsWithin_any (rb s : Nat) (cm : Nat → Int) (mb : Nat) (E : Recs) (C : Nat → Int) (w : World) (h : Rp w rb s cm mb E) :
    Calls Tryz.prog 149 #[.pointer (some ⟨rb, 0, none⟩), .agg #[.int .i64 (C 0), .int .i64 (C 1), .int .i64 (C 2), .int .i64 (C 3), .int .i64 (C 4), .int .i64 (C 5)]] w fun e w' => e = .returned (.bool (E.all (fun x => leB x.2.kn C) && leB cm C)) ∧ Below w.heap.size w w' := by
  have T0 : Hid (W1 w (w.alloc (.cells #[.int .i64 (C 0), .int .i64 (C 1), .int .i64 (C 2), .int .i64 (C 3), .int .i64 (C 4), .int .i64 (C 5)] 186)) C) := ⟨fun j hj => built6 w C _ j hj, (Below.refl _ _).alloc (Nat.le_refl _) _, by simp⟩
  have hlt := h.rep.lt
  have hml := h.own.lt
  have hne : rb ≠ w.heap.size := by omega
  have c7 := h.rep.c7
  have hown := h.own.alloc (.cells #[.int .i64 (C 0), .int .i64 (C 1), .int .i64 (C 2), .int .i64 (C 3), .int .i64 (C 4), .int .i64 (C 5)] 186)
  have HR := hide h
  have WI := hide (fun a V => Within_any a C V)
  clear h
  go_enter Tryz.func149, Tryz.ntmps149
  go_wp2_with (first
    | (at_range; refine wpList_range_own _ rfl _ 184 rfl 9 197 lawS Tryz.underlying184 _ mb E.length _ rfl hown ?_; intro w0 hrg0 hg0 hs0)
    | go_in)
  have ez : (w.alloc (.cells #[.int .i64 (C 0), .int .i64 (C 1), .int .i64 (C 2), .int .i64 (C 3), .int .i64 (C 4), .int .i64 (C 5)] 186)).heap.size = w.heap.size + 1 := by simp
  rw [ez] at hrg0 ⊢
  go_frame
  have hb0 : Hid (W1 w w0 C) := T0.out.more ((Below.refl _ _).grown hg0 (Nat.le_refl _) (fun j hj => by cases hj))
  clear hown hg0 hs0
  go_loopw [4] (fun v wr => v = .bool false ∧ ∃ (left : Lit → Bool) (cnt : Nat), wr.ranges Tryz.prog 9 recElem mb (w.heap.size + 1) E.length (datOf E) left cnt ∧ Hid (cameB C left E) ∧ Hid (W1 w wr C)) (fun _ wr => wr.rangeLeft mb (w.heap.size + 1))
  case atStart => exact ⟨rfl, _, _, hrg0, cameB_start C E, hb0⟩
  case round =>
    obtain ⟨rfl, left, cnt, hrg, hcm, hbw⟩ := hrel
    clear hrg0 hb0
    go_wp2_with (first
      | (at_next; refine wpList_next_ranges _ rfl _ rfl 9 lawS recElem Value.string recVal (fun key kl h => Maps.keyOf_string_inv Tryz.underlying9 h) recInv mb (w.heap.size + 1) E.length (datOf E) left cnt rfl hrg ?_ ?_)
      | go_in)
    · intro hc0 hl0
      have hall := cameB_end hcm.out hl0
      have RB := hide (HR.out.below hbw.out.bel)
      clear hrg hcm
      have HA := hide hall
      clear hall
      have r1 := RB.out.rep.ct 0 (by omega)
      have r2 := RB.out.rep.ct 1 (by omega)
      have r3 := RB.out.rep.ct 2 (by omega)
      have r4 := RB.out.rep.ct 3 (by omega)
      have r5 := RB.out.rep.ct 4 (by omega)
      have r6 := RB.out.rep.ct 5 (by omega)
      simp only [Nat.reduceAdd] at r1 r2 r3 r4 r5 r6
      have b0 := hbw.out.b 0 (by omega)
      have b1 := hbw.out.b 1 (by omega)
      have b2 := hbw.out.b 2 (by omega)
      have b3 := hbw.out.b 3 (by omega)
      have b4 := hbw.out.b 4 (by omega)
      have b5 := hbw.out.b 5 (by omega)
      have WC := hide (fun V => WI.out cm V)
      have BD : Hid (W1 w wr.drew C) := hbw.out.more ⟨rfl, rfl, rfl, Nat.le_refl _, fun _ _ => rfl⟩
      go_wp2_with fail
      go_region_law (first
        | (go_simp; go_at_call 198; refine (WC.out _).mono ?_; rintro e w2 ⟨rfl, hb2⟩; have B2 := hide (BD.out.more hb2); clear hb2; dsimp only))
      all_goals
        go_wp2
        go_ret
        exact ⟨by rw [HA.out]; rfl, B2.out.bel⟩
    · intro x R kl yd yp w1 cnt1 hkey hlk hv hat hrg1 hltm hg1 hs1 hen
      obtain ⟨rfl, _⟩ := key_of hkey
      obtain ⟨R', hm, hd⟩ := rec_at hat
      have hyd : yd = recDat R := by rw [recElem_mk] at hv; have := Option.some.inj hv; simp at this; exact this.1.symm
      have hkn : leB R.kn C = leB R'.kn C := leB_congr (recDat_kn (hyd.symm.trans hd))
      have HB1 : Hid (W1 w w1 C) := by
        have hz := hbw.out.lt
        have hb : Below (w.heap.size + 1) wr w1 := (Below.refl _ _).grown hg1 (by omega) (fun j hj => by cases hj; exact Nat.le_refl _)
        exact ⟨fun j hj => (hb.cell (p := ⟨w.heap.size, j, none⟩) (by simp only; omega)).trans (hbw.out.b j hj), hbw.out.bel.trans (hb.mono (by omega)), Nat.lt_of_lt_of_le hz hb.size⟩
      have RG := hide hrg
      have RG1 := hide hrg1
      have WR := hide (fun V => WI.out R.kn V)
      cases hz : leB R.kn C with
      | false =>
        have hall : E.all (fun x => leB x.2.kn C) = false := by
          rw [List.all_eq_false]
          exact ⟨_, hm, by rw [← hkn, hz]; simp⟩
        have HA := hide hall
        rw [hz] at WR
        have b0 : ∀ o : Obj, (w1.alloc o).cell? ⟨w.heap.size, 0, none⟩ = some (.int .i64 (C 0)) := fun o => (World.cell?_alloc_old _ _ _ (Nat.ne_of_lt HB1.out.lt)).trans (HB1.out.b 0 (by omega))
        have b1 : ∀ o : Obj, (w1.alloc o).cell? ⟨w.heap.size, 1, none⟩ = some (.int .i64 (C 1)) := fun o => (World.cell?_alloc_old _ _ _ (Nat.ne_of_lt HB1.out.lt)).trans (HB1.out.b 1 (by omega))
        have b2 : ∀ o : Obj, (w1.alloc o).cell? ⟨w.heap.size, 2, none⟩ = some (.int .i64 (C 2)) := fun o => (World.cell?_alloc_old _ _ _ (Nat.ne_of_lt HB1.out.lt)).trans (HB1.out.b 2 (by omega))
        have b3 : ∀ o : Obj, (w1.alloc o).cell? ⟨w.heap.size, 3, none⟩ = some (.int .i64 (C 3)) := fun o => (World.cell?_alloc_old _ _ _ (Nat.ne_of_lt HB1.out.lt)).trans (HB1.out.b 3 (by omega))
        have b4 : ∀ o : Obj, (w1.alloc o).cell? ⟨w.heap.size, 4, none⟩ = some (.int .i64 (C 4)) := fun o => (World.cell?_alloc_old _ _ _ (Nat.ne_of_lt HB1.out.lt)).trans (HB1.out.b 4 (by omega))
        have b5 : ∀ o : Obj, (w1.alloc o).cell? ⟨w.heap.size, 5, none⟩ = some (.int .i64 (C 5)) := fun o => (World.cell?_alloc_old _ _ _ (Nat.ne_of_lt HB1.out.lt)).trans (HB1.out.b 5 (by omega))
        clear hkey hat hv hyd hd hm hg1 hrg hrg1 hkn hcm hall hz
        simp only [recVal] at hen ⊢
        go_wp2_with (go_at_call 198; refine (WR.out _).mono ?_; rintro e w2 ⟨rfl, hb2⟩; have B2 := hide ((HB1.out.more ((Below.refl _ _).alloc (Nat.le_refl _) _)).more hb2); clear hb2)
        go_ret
        exact ⟨by rw [HA.out]; rfl, B2.out.bel⟩
      | true =>
        have CS := hide (cameB_step HR.out.ris hcm.out hm (by rw [← hkn]; exact hz))
        rw [hz] at WR
        have b0 : ∀ o : Obj, (w1.alloc o).cell? ⟨w.heap.size, 0, none⟩ = some (.int .i64 (C 0)) := fun o => (World.cell?_alloc_old _ _ _ (Nat.ne_of_lt HB1.out.lt)).trans (HB1.out.b 0 (by omega))
        have b1 : ∀ o : Obj, (w1.alloc o).cell? ⟨w.heap.size, 1, none⟩ = some (.int .i64 (C 1)) := fun o => (World.cell?_alloc_old _ _ _ (Nat.ne_of_lt HB1.out.lt)).trans (HB1.out.b 1 (by omega))
        have b2 : ∀ o : Obj, (w1.alloc o).cell? ⟨w.heap.size, 2, none⟩ = some (.int .i64 (C 2)) := fun o => (World.cell?_alloc_old _ _ _ (Nat.ne_of_lt HB1.out.lt)).trans (HB1.out.b 2 (by omega))
        have b3 : ∀ o : Obj, (w1.alloc o).cell? ⟨w.heap.size, 3, none⟩ = some (.int .i64 (C 3)) := fun o => (World.cell?_alloc_old _ _ _ (Nat.ne_of_lt HB1.out.lt)).trans (HB1.out.b 3 (by omega))
        have b4 : ∀ o : Obj, (w1.alloc o).cell? ⟨w.heap.size, 4, none⟩ = some (.int .i64 (C 4)) := fun o => (World.cell?_alloc_old _ _ _ (Nat.ne_of_lt HB1.out.lt)).trans (HB1.out.b 4 (by omega))
        have b5 : ∀ o : Obj, (w1.alloc o).cell? ⟨w.heap.size, 5, none⟩ = some (.int .i64 (C 5)) := fun o => (World.cell?_alloc_old _ _ _ (Nat.ne_of_lt HB1.out.lt)).trans (HB1.out.b 5 (by omega))
        clear hkey hat hv hyd hd hm hg1 hrg hrg1 hkn hcm hz
        simp only [recVal] at hen ⊢
        go_wp2_with (go_at_call 198; refine (WR.out _).mono ?_; rintro e w2 ⟨rfl, hb2⟩; have B2 := hide ((HB1.out.more ((Below.refl _ _).alloc (Nat.le_refl _) _)).more hb2); have RG2 := hide (ranges_more RG1.out hb2); clear hb2)
        go_roundw
        case rel => exact ⟨rfl, _, cnt1, RG2.out, CS, B2⟩
        case measure => rw [RG2.out.left_eq, RG.out.left_eq]; exact hltm

end Go.Proofs.YtaelaldmibgibaaGreatDoor

namespace Go.Proofs.YtaelaldmibgibaaGreatDoor
open Go.RowKit Go.Lib Go.Maps

theorem rest_sh {t : Bs} (h : t ≠ []) : (restR t).length < t.length := by
  have h0 : 0 < t.length := List.length_pos_iff.2 h
  rcases line_cases t with ⟨_, q, _⟩ | ⟨q, _⟩
  · rw [q]; exact h0
  · have := congrArg List.length q
    simp at this
    omega
theorem fields_nil {t : Bs} (h : ¬ (fieldsR t).length < 3) : t ≠ [] := by
  rintro rfl
  have := fields_len []
  simp [blanks] at this
  omega
theorem recsR_fuel (n s : Nat) (cm : Nat → Int) : ∀ (f g : Nat) (t : Bs) (last : ByteArray), t.length < f → t.length < g → recsR n s cm f t last = recsR n s cm g t last := by
  intro f
  induction f with
  | zero => intro g t last h; omega
  | succ f ih =>
    intro g t last hf hg
    cases g with
    | zero => omega
    | succ g =>
      unfold recsR
      by_cases h3 : (fieldsR t).length < 3
      · rw [if_pos h3, if_pos h3]
      · rw [if_neg h3, if_neg h3]
        have hr := rest_sh (fields_nil h3)
        rw [ih g (restR t) _ (by omega) (by omega)]
theorem recsR_step (n s : Nat) (cm : Nat → Int) (x : ByteArray) (last : ByteArray) (h3 : ¬ (fieldsR (bs x)).length < 3) : recsR n s cm (x.size + 1) (bs x) last =
    (recR n (fieldsR (bs x)).tail).bind fun d => if (pathOk (ofBs ((fieldsR (bs x)).headD [])) && slt last (ofBs ((fieldsR (bs x)).headD [])) && couldB s cm (toRec d)) = true then
        (recsR n s cm ((ofBs (restR (bs x))).size + 1) (bs (ofBs (restR (bs x)))) (ofBs ((fieldsR (bs x)).headD []))).map fun y => (y.1, (ofBs ((fieldsR (bs x)).headD []), d) :: y.2) else none := by
  have hr := rest_sh (fields_nil h3)
  rw [bs_len] at hr
  conv => lhs; unfold recsR
  rw [if_neg h3, bs_ofBs, ofBs_size, recsR_fuel n s cm x.size ((restR (bs x)).length + 1) (restR (bs x)) _ (by omega) (by omega)]

theorem recsR_one (n s : Nat) (cm : Nat → Int) (x : ByteArray) (last : ByteArray) {p a : Bs} {fs : List Bs} (hf : fieldsR (bs x) = p :: a :: fs) (h3 : 1 ≤ fs.length) : recsR n s cm (x.size + 1) (bs x) last =
    (recR n (a :: fs)).bind fun d => if (pathOk (ofBs p) && slt last (ofBs p) && couldB s cm (toRec d)) = true then
        (recsR n s cm ((ofBs (restR (bs x))).size + 1) (bs (ofBs (restR (bs x)))) (ofBs p)).map fun y => (y.1, (ofBs p, d) :: y.2) else none := by
  have := recsR_step n s cm x last (by rw [hf]; simp; omega)
  rw [hf] at this
  exact this

/-- while records are read: the text that is left, the last path, what was read -/
structure RI (w wr : World) (rb s : Nat) (cm : Nat → Int) (mb n : Nat) (A : Option (Bs × Drs)) (x last : ByteArray) (D : Drs) : Prop where
  rp : Rp wr rb s cm mb (toE D)
  fr : Fr (fun k => k = mb) w wr
  eq : A = (recsR n s cm (x.size + 1) (bs x) last).map (fun y => (y.1, D ++ y.2))
  len : D.length + x.size ≤ 10000000
  ord : ∀ y ∈ D, y.1 = last ∨ slt y.1 last = true
  rise : D.Pairwise (fun x y => slt x.1 y.1 = true)
section
variable {w wr : World} {rb s mb n : Nat} {cm : Nat → Int} {A : Option (Bs × Drs)} {x last : ByteArray} {D : Drs}
theorem RI.done (h : RI w wr rb s cm mb n A x last D) (h3 : (fieldsR (bs x)).length < 3) : A = some (bs x, D) := by
  rw [h.eq]
  unfold recsR
  rw [if_pos h3]
  simp
theorem RI.stop (h : RI w wr rb s cm mb n A x last D) {p a : Bs} {fs : List Bs} (hf : fieldsR (bs x) = p :: a :: fs) (h3 : 1 ≤ fs.length)
    (hbad : recR n (a :: fs) = none ∨ ∃ d, recR n (a :: fs) = some d ∧ (pathOk (ofBs p) && slt last (ofBs p) && couldB s cm (toRec d)) = false) : A = none := by
  rw [h.eq, recsR_one n s cm x last hf h3]
  rcases hbad with e | ⟨d, e, hc⟩
  · rw [e]; rfl
  · rw [e]
    simp only [Option.bind_some]
    rw [if_neg (by rw [hc]; simp)]
    rfl
theorem RI.paths (h : RI w wr rb s cm mb n A x last D) {q : ByteArray} (hq : slt last q = true) : ∀ y ∈ D, slt y.1 q = true := fun y hy => by
  rcases h.ord y hy with e | e
  · rw [e]; exact hq
  · exact slt_trans e hq
theorem RI.next (h : RI w wr rb s cm mb n A x last D) {w5 : World} {p a : Bs} {fs : List Bs} {d : DS} (hf : fieldsR (bs x) = p :: a :: fs) (h3 : 1 ≤ fs.length) (hd : recR n (a :: fs) = some d)
    (hp : pathOk (ofBs p) = true) (hs : slt last (ofBs p) = true) (hc : couldB s cm (toRec d) = true) (h5 : Rp w5 rb s cm mb (putE (ofBs p) (toRec d) (toE D))) (hfr : Fr (fun k => k = mb) w w5) :
    RI w w5 rb s cm mb n A (ofBs (restR (bs x))) (ofBs p) (D ++ [(ofBs p, d)]) := by
  have h3' : ¬ (fieldsR (bs x)).length < 3 := by rw [hf]; simp; omega
  have hr := rest_sh (fields_nil h3')
  rw [bs_len] at hr
  rw [toE_put D _ d (h.paths hs)] at h5
  refine ⟨h5, hfr, ?_, ?_, ?_, ?_⟩
  · rw [h.eq, recsR_one n s cm x last hf h3]
    rw [hd]
    simp only [Option.bind_some]
    rw [if_pos (by rw [hp, hs, hc]; rfl), Option.map_map]
    congr 1
    funext y
    simp
  · have := h.len
    rw [ofBs_size]
    simp
    omega
  · intro y hy
    rcases List.mem_append.1 hy with hy | hy
    · exact .inr (h.paths hs y hy)
    · simp only [List.mem_singleton] at hy
      rw [hy]
      exact .inl rfl
  · rw [List.pairwise_append]
    refine ⟨h.rise, List.pairwise_singleton _ _, fun a ha b hb => ?_⟩
    simp only [List.mem_singleton] at hb
    rw [hb]
    exact h.paths hs a ha
end
/-- what readRecords answers -/
def RAns (A : Option (Bs × Drs)) (w' : World) (rb s : Nat) (cm : Nat → Int) (mb : Nat) (e : Ending) : Prop := match A with
  | none => e = .returned (.tuple #[.string ⟨#[]⟩, .bool false])
  | some y => e = .returned (.tuple #[.string (ofBs y.1), .bool true]) ∧ Rp w' rb s cm mb (toE y.2)
def strSz : Value → Nat
  | .string s => s.size
  | _ => 0

end Go.Proofs.YtaelaldmibgibaaGreatDoor
