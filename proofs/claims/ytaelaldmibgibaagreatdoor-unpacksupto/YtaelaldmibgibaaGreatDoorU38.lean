/- The program's ReadLines. The program's IsWithin: of all that is known. The lines that a net is told in. The program's tellers: numbers, lists joined, events, times. The program's teller of times. -/
import Derived.Test.YtaelaldmibgibaaGreatDoorU37
import Derived.Test.YtaelaldmibgibaaGreatDoorU30
import Derived.Test.YtaelaldmibgibaaGreatDoorU23
import Derived.Test.YtaelaldmibgibaaGreatDoorU34
import Derived.Test.YtaelaldmibgibaaGreatDoorU06

set_option linter.unusedVariables false
set_option linter.unusedSimpArgs false

namespace Go.Proofs.YtaelaldmibgibaaGreatDoor
open Go.RowKit Go.Lib Go.Maps

attribute [local go_sem ↓] stTime
attribute [local go_sem] stTime2

theorem toE_there (D : Drs) (hD : ∀ y ∈ D, y.2.born ∧ (y.2.there = false → y.2.num = 0)) : (thereE (toE D)).length = filesD D := by
  unfold thereE toE filesD
  rw [List.filter_map, List.length_map]
  congr 1
  apply List.filter_congr
  intro y hy
  obtain ⟨h1, h2⟩ := hD y hy
  simp only [Function.comp, toRec]
  cases ht : y.2.there with
  | true => have := h1 ht; simp; omega
  | false => have := h2 ht; simp; omega
/-- what recsR reads is well made -/
theorem recsR_made (n s : Nat) (hn : 1 ≤ n) (h6 : n ≤ 6) (cm : Nat → Int) : ∀ (f : Nat) (t : Bs) (last : ByteArray) (x : Bs × Drs), recsR n s cm f t last = some x → (∀ y ∈ x.2, y.2.born ∧ (y.2.there = false → y.2.num = 0)) ∧ (∀ y ∈ x.2, slt last y.1 = true) ∧ x.2.Pairwise (fun a b => slt a.1 b.1 = true) ∧ x.2.length + x.1.length ≤ t.length := by
  intro f
  induction f with
  | zero => intro t last x h; cases h
  | succ f ih =>
    intro t last x h
    unfold recsR at h
    by_cases h3 : (fieldsR t).length < 3
    · rw [if_pos h3] at h
      cases h
      exact ⟨by simp, by simp, List.Pairwise.nil, by simp⟩
    · rw [if_neg h3] at h
      obtain ⟨d, hd, h⟩ := Option.bind_eq_some_iff.1 h
      split at h
      · rename_i hc
        simp only [Bool.and_eq_true] at hc
        obtain ⟨y, hy, rfl⟩ := Option.map_eq_some_iff.1 h
        obtain ⟨i1, i2, i3, i4⟩ := ih _ _ y hy
        obtain ⟨r1, r2, _⟩ := (recR_iff n hn h6 _ d).1 hd
        have hr := rest_sh (fields_nil h3)
        refine ⟨fun z hz => ?_, fun z hz => ?_, ?_, by simp; omega⟩
        · rcases List.mem_cons.1 hz with rfl | hz
          · exact ⟨r2, fun q => (r1.none q).2.1⟩
          · exact i1 z hz
        · rcases List.mem_cons.1 hz with rfl | hz
          · exact hc.1.2
          · exact slt_trans hc.1.2 (i2 z hz)
        · rw [List.pairwise_cons]
          exact ⟨fun z hz => i2 z hz, i3⟩
      · cases h

/-- what ReadLines answers -/
def LAns (A : Option (Bs × DR)) (w' : World) (s lo : Nat) (e : Ending) : Prop := match A with
  | none => e = .returned (.tuple #[.pointer none, .string ⟨#[]⟩, .bool false])
  | some y => ∃ rb mb, e = .returned (.tuple #[.pointer (some ⟨rb, 0, none⟩), .string (ofBs y.1), .bool true]) ∧ Rp w' rb s (lfn y.2.com) mb (toE y.2.recs) ∧ lo ≤ rb ∧ lo ≤ mb

end Go.Proofs.YtaelaldmibgibaaGreatDoor

namespace Go.Proofs.YtaelaldmibgibaaGreatDoor
open Go.RowKit Go.Lib Go.Maps

attribute [local go_sem ↓] eqTime
attribute [local go_sem] run_eqM

/-- a time's copy in a new block -/
structure W1 (w V : World) (b : Nat → Int) : Prop where
  b : ∀ j, j < 6 → V.cell? ⟨w.heap.size, j, none⟩ = some (.int .i64 (b j))
  bel : Below w.heap.size w V
  lt : w.heap.size < V.heap.size
theorem W1.more {w V V' : World} {b : Nat → Int} (h : W1 w V b) (hb : Below V.heap.size V V') : W1 w V' b :=
  ⟨fun j hj => (hb.cell (p := ⟨w.heap.size, j, none⟩) h.lt).trans (h.b j hj), h.bel.trans (hb.mono h.bel.size), Nat.lt_of_lt_of_le h.lt hb.size⟩
theorem recDat_kn {R R' : Rec} (h : recDat R = recDat R') : ∀ j, j < 6 → R.kn j = R'.kn j := by
  simp only [recDat, DataW.agg.injEq, List.cons.injEq, DataW.lit.injEq, Lit.string.injEq, Lit.int.injEq, true_and, and_true] at h
  obtain ⟨_, _, _, _, _, _, _, _, _, h0, h1, h2, h3, h4, h5⟩ := h
  intro j hj
  match j, hj with
  | 0, _ => exact h0
  | 1, _ => exact h1
  | 2, _ => exact h2
  | 3, _ => exact h3
  | 4, _ => exact h4
  | 5, _ => exact h5
theorem leB_congr {a a' b : Nat → Int} (h : ∀ j, j < 6 → a j = a' j) : leB a b = leB a' b := by
  unfold leB eqT gboth g1
  rw [h 0 (by omega), h 1 (by omega), h 2 (by omega), h 3 (by omega), h 4 (by omega), h 5 (by omega)]

/-- those that have come so far are within -/
def cameB (C : Nat → Int) (left : Lit → Bool) (E : Recs) : Prop := ∀ x ∈ E, left (key x.1) = false → leB x.2.kn C = true
theorem cameB_start (C : Nat → Int) (E : Recs) : cameB C (Maps.has (datOf E)) E := fun x hx h => by
  rw [has_datOf, getE_mem hx] at h
  cases h
theorem cameB_end {C : Nat → Int} {left : Lit → Bool} {E : Recs} (h : cameB C left E) (hl : ∀ kl, left kl = false) : E.all (fun x => leB x.2.kn C) = true := by
  rw [List.all_eq_true]
  exact fun x hx => h x hx (hl _)
theorem rising_one {E : Recs} (hE : RisingE E) {x : ByteArray} {R R' : Rec} (h : (x, R) ∈ E) (h' : (x, R') ∈ E) : R = R' := by
  induction E with
  | nil => simp at h
  | cons z E ih =>
    obtain ⟨p1, p2⟩ := List.pairwise_cons.1 hE
    rcases List.mem_cons.1 h with a1 | a1
    · rcases List.mem_cons.1 h' with b1 | b1
      · have := a1.trans b1.symm; simpa using this
      · rw [← a1] at p1
        have q := slt_ne (p1 (x, R') b1)
        exact absurd rfl q
    · rcases List.mem_cons.1 h' with b1 | b1
      · rw [← b1] at p1
        have q := slt_ne (p1 (x, R) a1)
        exact absurd rfl q
      · exact ih p2 a1 b1
theorem cameB_step {C : Nat → Int} {left : Lit → Bool} {E : Recs} (hE : RisingE E) (h : cameB C left E) {x : ByteArray} {R : Rec} (hx : (x, R) ∈ E) (hR : leB R.kn C = true) : cameB C (fun z => left z && !z.sameKey (key x)) E := fun y hy hl' => by
  have hl : (left (key y.1) && !(key y.1).sameKey (key x)) = false := hl'
  rw [same_key] at hl
  cases e : left (key y.1) with
  | false => exact h y hy e
  | true =>
    rw [e] at hl
    simp at hl
    have := (seq_iff _ _).1 hl
    obtain ⟨y1, y2⟩ := y
    simp only at this
    subst this
    rw [rising_one hE hy hx]
    exact hR

set_option maxRecDepth 100000 in
set_option maxHeartbeats 2000000 in
theorem IsWithin_any (rb s : Nat) (cm : Nat → Int) (mb : Nat) (E : Recs) (C : Nat → Int) (w : World) (h : Rp w rb s cm mb E) :
    Calls Tryz.prog 149 #[.pointer (some ⟨rb, 0, none⟩), .agg #[.int .i64 (C 0), .int .i64 (C 1), .int .i64 (C 2), .int .i64 (C 3), .int .i64 (C 4), .int .i64 (C 5)]] w fun e w' => e = .returned (.bool (E.all (fun x => leB x.2.kn C) && leB cm C)) ∧ Below w.heap.size w w' := by
  have T0 : Hid (W1 w (w.alloc (.cells #[.int .i64 (C 0), .int .i64 (C 1), .int .i64 (C 2), .int .i64 (C 3), .int .i64 (C 4), .int .i64 (C 5)] 186)) C) := ⟨fun j hj => built6 w C _ j hj, (Below.refl _ _).alloc (Nat.le_refl _) _, by simp⟩
  have hlt := h.rep.lt
  have hml := h.own.lt
  have hne : rb ≠ w.heap.size := by omega
  have c7 := h.rep.c7
  have hown := h.own.alloc (.cells #[.int .i64 (C 0), .int .i64 (C 1), .int .i64 (C 2), .int .i64 (C 3), .int .i64 (C 4), .int .i64 (C 5)] 186)
  have HR := hide h
  have WI := hide (fun a V => Within_any a C V)
  clear h
  go_enter Tryz.func149, Tryz.ntmps149
  go_wp2_with (first
    | (at_range; refine wpList_range_own _ rfl _ 184 rfl 9 197 lawS Tryz.underlying184 _ mb E.length _ rfl hown ?_; intro w0 hrg0 hg0 hs0)
    | go_in)
  have ez : (w.alloc (.cells #[.int .i64 (C 0), .int .i64 (C 1), .int .i64 (C 2), .int .i64 (C 3), .int .i64 (C 4), .int .i64 (C 5)] 186)).heap.size = w.heap.size + 1 := by simp
  rw [ez] at hrg0 ⊢
  go_frame
  have hb0 : Hid (W1 w w0 C) := T0.out.more ((Below.refl _ _).grown hg0 (Nat.le_refl _) (fun j hj => by cases hj))
  clear hown hg0 hs0
  go_loopw [4] (fun v wr => v = .bool false ∧ ∃ (left : Lit → Bool) (cnt : Nat), wr.ranges Tryz.prog 9 recElem mb (w.heap.size + 1) E.length (datOf E) left cnt ∧ Hid (cameB C left E) ∧ Hid (W1 w wr C)) (fun _ wr => wr.rangeLeft mb (w.heap.size + 1))
  case atStart => exact ⟨rfl, _, _, hrg0, cameB_start C E, hb0⟩
  case round =>
    obtain ⟨rfl, left, cnt, hrg, hcm, hbw⟩ := hrel
    clear hrg0 hb0
    go_wp2_with (first
      | (at_next; refine wpList_next_ranges _ rfl _ rfl 9 lawS recElem Value.string recVal (fun key kl h => Maps.keyOf_string_inv Tryz.underlying9 h) recInv mb (w.heap.size + 1) E.length (datOf E) left cnt rfl hrg ?_ ?_)
      | go_in)
    · intro hc0 hl0
      have hall := cameB_end hcm.out hl0
      have RB := hide (HR.out.below hbw.out.bel)
      clear hrg hcm
      have HA := hide hall
      clear hall
      have r1 := RB.out.rep.ct 0 (by omega)
      have r2 := RB.out.rep.ct 1 (by omega)
      have r3 := RB.out.rep.ct 2 (by omega)
      have r4 := RB.out.rep.ct 3 (by omega)
      have r5 := RB.out.rep.ct 4 (by omega)
      have r6 := RB.out.rep.ct 5 (by omega)
      simp only [Nat.reduceAdd] at r1 r2 r3 r4 r5 r6
      have b0 := hbw.out.b 0 (by omega)
      have b1 := hbw.out.b 1 (by omega)
      have b2 := hbw.out.b 2 (by omega)
      have b3 := hbw.out.b 3 (by omega)
      have b4 := hbw.out.b 4 (by omega)
      have b5 := hbw.out.b 5 (by omega)
      have WC := hide (fun V => WI.out cm V)
      have BD : Hid (W1 w wr.drew C) := hbw.out.more ⟨rfl, rfl, rfl, Nat.le_refl _, fun _ _ => rfl⟩
      go_wp2_with fail
      go_region_law (first
        | (go_simp; go_at_call 198; refine (WC.out _).mono ?_; rintro e w2 ⟨rfl, hb2⟩; have B2 := hide (BD.out.more hb2); clear hb2; dsimp only))
      all_goals
        go_wp2
        go_ret
        exact ⟨by rw [HA.out]; rfl, B2.out.bel⟩
    · intro x R kl yd yp w1 cnt1 hkey hlk hv hat hrg1 hltm hg1 hs1 hen
      obtain ⟨rfl, _⟩ := key_of hkey
      obtain ⟨R', hm, hd⟩ := rec_at hat
      have hyd : yd = recDat R := by rw [recElem_mk] at hv; have := Option.some.inj hv; simp at this; exact this.1.symm
      have hkn : leB R.kn C = leB R'.kn C := leB_congr (recDat_kn (hyd.symm.trans hd))
      have HB1 : Hid (W1 w w1 C) := by
        have hz := hbw.out.lt
        have hb : Below (w.heap.size + 1) wr w1 := (Below.refl _ _).grown hg1 (by omega) (fun j hj => by cases hj; exact Nat.le_refl _)
        exact ⟨fun j hj => (hb.cell (p := ⟨w.heap.size, j, none⟩) (by simp only; omega)).trans (hbw.out.b j hj), hbw.out.bel.trans (hb.mono (by omega)), Nat.lt_of_lt_of_le hz hb.size⟩
      have RG := hide hrg
      have RG1 := hide hrg1
      have WR := hide (fun V => WI.out R.kn V)
      cases hz : leB R.kn C with
      | false =>
        have hall : E.all (fun x => leB x.2.kn C) = false := by
          rw [List.all_eq_false]
          exact ⟨_, hm, by rw [← hkn, hz]; simp⟩
        have HA := hide hall
        rw [hz] at WR
        have b0 : ∀ o : Obj, (w1.alloc o).cell? ⟨w.heap.size, 0, none⟩ = some (.int .i64 (C 0)) := fun o => (World.cell?_alloc_old _ _ _ (Nat.ne_of_lt HB1.out.lt)).trans (HB1.out.b 0 (by omega))
        have b1 : ∀ o : Obj, (w1.alloc o).cell? ⟨w.heap.size, 1, none⟩ = some (.int .i64 (C 1)) := fun o => (World.cell?_alloc_old _ _ _ (Nat.ne_of_lt HB1.out.lt)).trans (HB1.out.b 1 (by omega))
        have b2 : ∀ o : Obj, (w1.alloc o).cell? ⟨w.heap.size, 2, none⟩ = some (.int .i64 (C 2)) := fun o => (World.cell?_alloc_old _ _ _ (Nat.ne_of_lt HB1.out.lt)).trans (HB1.out.b 2 (by omega))
        have b3 : ∀ o : Obj, (w1.alloc o).cell? ⟨w.heap.size, 3, none⟩ = some (.int .i64 (C 3)) := fun o => (World.cell?_alloc_old _ _ _ (Nat.ne_of_lt HB1.out.lt)).trans (HB1.out.b 3 (by omega))
        have b4 : ∀ o : Obj, (w1.alloc o).cell? ⟨w.heap.size, 4, none⟩ = some (.int .i64 (C 4)) := fun o => (World.cell?_alloc_old _ _ _ (Nat.ne_of_lt HB1.out.lt)).trans (HB1.out.b 4 (by omega))
        have b5 : ∀ o : Obj, (w1.alloc o).cell? ⟨w.heap.size, 5, none⟩ = some (.int .i64 (C 5)) := fun o => (World.cell?_alloc_old _ _ _ (Nat.ne_of_lt HB1.out.lt)).trans (HB1.out.b 5 (by omega))
        clear hkey hat hv hyd hd hm hg1 hrg hrg1 hkn hcm hall hz
        simp only [recVal] at hen ⊢
        go_wp2_with (go_at_call 198; refine (WR.out _).mono ?_; rintro e w2 ⟨rfl, hb2⟩; have B2 := hide ((HB1.out.more ((Below.refl _ _).alloc (Nat.le_refl _) _)).more hb2); clear hb2)
        go_ret
        exact ⟨by rw [HA.out]; rfl, B2.out.bel⟩
      | true =>
        have CS := hide (cameB_step HR.out.ris hcm.out hm (by rw [← hkn]; exact hz))
        rw [hz] at WR
        have b0 : ∀ o : Obj, (w1.alloc o).cell? ⟨w.heap.size, 0, none⟩ = some (.int .i64 (C 0)) := fun o => (World.cell?_alloc_old _ _ _ (Nat.ne_of_lt HB1.out.lt)).trans (HB1.out.b 0 (by omega))
        have b1 : ∀ o : Obj, (w1.alloc o).cell? ⟨w.heap.size, 1, none⟩ = some (.int .i64 (C 1)) := fun o => (World.cell?_alloc_old _ _ _ (Nat.ne_of_lt HB1.out.lt)).trans (HB1.out.b 1 (by omega))
        have b2 : ∀ o : Obj, (w1.alloc o).cell? ⟨w.heap.size, 2, none⟩ = some (.int .i64 (C 2)) := fun o => (World.cell?_alloc_old _ _ _ (Nat.ne_of_lt HB1.out.lt)).trans (HB1.out.b 2 (by omega))
        have b3 : ∀ o : Obj, (w1.alloc o).cell? ⟨w.heap.size, 3, none⟩ = some (.int .i64 (C 3)) := fun o => (World.cell?_alloc_old _ _ _ (Nat.ne_of_lt HB1.out.lt)).trans (HB1.out.b 3 (by omega))
        have b4 : ∀ o : Obj, (w1.alloc o).cell? ⟨w.heap.size, 4, none⟩ = some (.int .i64 (C 4)) := fun o => (World.cell?_alloc_old _ _ _ (Nat.ne_of_lt HB1.out.lt)).trans (HB1.out.b 4 (by omega))
        have b5 : ∀ o : Obj, (w1.alloc o).cell? ⟨w.heap.size, 5, none⟩ = some (.int .i64 (C 5)) := fun o => (World.cell?_alloc_old _ _ _ (Nat.ne_of_lt HB1.out.lt)).trans (HB1.out.b 5 (by omega))
        clear hkey hat hv hyd hd hm hg1 hrg hrg1 hkn hcm hz
        simp only [recVal] at hen ⊢
        go_wp2_with (go_at_call 198; refine (WR.out _).mono ?_; rintro e w2 ⟨rfl, hb2⟩; have B2 := hide ((HB1.out.more ((Below.refl _ _).alloc (Nat.le_refl _) _)).more hb2); have RG2 := hide (ranges_more RG1.out hb2); clear hb2)
        go_roundw
        case rel => exact ⟨rfl, _, cnt1, RG2.out, CS, B2⟩
        case measure => rw [RG2.out.left_eq, RG.out.left_eq]; exact hltm

end Go.Proofs.YtaelaldmibgibaaGreatDoor

namespace Go.Proofs.YtaelaldmibgibaaGreatDoor
open Go.RowKit Go.Lib

theorem sep_lines (c : UInt8) : ∀ l : List Bs, l ≠ [] → sepBy c l ++ [c] = (l.map (fun x => x ++ [c])).flatten
  | [], h => absurd rfl h
  | [x], _ => by simp [sepBy]
  | x :: y :: l, _ => by
    rw [sepBy_cons2, List.append_assoc, List.cons_append, sep_lines c (y :: l) (by simp)]
    simp
/-- a replica's lines -/
def recL (y : ByteArray × DS) : Bs := bs y.1 ++ 32 :: (timeT y.2.known ++ 32 :: (if y.2.there = true then decDigits y.2.by_ ++ 58 :: decDigits y.2.num ++ 32 :: (timeT y.2.chg ++ 32 :: 61 :: hexT y.2.text) else [45]))
def linesD (d : DR) : List Bs := (bs replicaW ++ timeT d.com) :: d.recs.map recL
def linesN (m : List DR) : List Bs := (bs reunionW ++ decDigits m.length) :: (m.map linesD).flatten
theorem recL_T (y : ByteArray × DS) : recL y ++ [10] = bs y.1 ++ y.2.T := by
  unfold recL DS.T DS.tail
  cases y.2.there <;> simp
theorem linesD_T (d : DR) : ((linesD d).map (fun x => x ++ [10])).flatten = d.T := by
  unfold linesD DR.T drsT
  rw [List.map_cons, List.map_map, List.flatten_cons]
  have : d.recs.map ((fun x => x ++ [10]) ∘ recL) = d.recs.map (fun r => bs r.1 ++ r.2.T) := List.map_congr_left (fun y _ => recL_T y)
  rw [this]
  simp
theorem linesN_T (m : List DR) : sepBy 10 (linesN m) ++ [10] = bodyT m := by
  rw [sep_lines 10 _ (by simp [linesN])]
  unfold linesN bodyT repsT
  rw [List.map_cons, List.flatten_cons, List.map_flatten, List.map_map]
  have : ∀ l : List DR, (l.map (List.map (fun x => x ++ [10]) ∘ linesD)).flatten.flatten = (l.map DR.T).flatten := fun l => by
    induction l with
    | nil => rfl
    | cons d l ih => simp only [List.map_cons, List.flatten_cons, List.flatten_append, Function.comp, linesD_T, ih]
  rw [this]
  simp

end Go.Proofs.YtaelaldmibgibaaGreatDoor

namespace Go.Proofs.YtaelaldmibgibaaGreatDoor
open Go.RowKit Go.Lib

theorem itoa_any (k : Nat) (hk : k ≤ 1000000000) (w : World) (hg : Glob w) :
    Calls Tryz.prog 72 #[.int .i64 k] w fun e w' => e = .returned (.string (ofBs (decDigits k))) ∧ Below w.heap.size w w' := by
  refine (Tryz.strconv_Itoa _ (by omega) (by omega) w hg.tab).mono ?_
  rintro e w' ⟨rfl, q, os, rfl⟩
  refine ⟨?_, grow_below _ q os⟩
  unfold Lib.itoa
  rw [if_neg (by omega), Int.toNat_natCast]
  rfl
theorem join_sep (c : UInt8) : ∀ ps : List Bs, Lib.join ps [c] = sepBy c ps
  | [] => rfl
  | x :: l => by
    rw [Lib.join_cons]
    rfl
theorem map_bs (l : List ByteArray) : l.map (·.data.toList) = l.map bs := rfl
/-- a row of texts, joined -/
theorem join_row (c : UInt8) (base : Nat) (v : Value) (l : List ByteArray) (w : World) (h : w.ownsRow base 9 1 v l.length (svs l)) (hl : l.length ≤ 100000000) (hs : (sepBy c (l.map bs)).length ≤ 10000000000) :
    Calls Tryz.prog 38 #[v, .string ⟨#[c]⟩] w fun e w' => e = .returned (.string (ofBs (sepBy c (l.map bs)))) ∧ Below w.heap.size w w' := by
  rcases h.2 with ⟨rfl, h0⟩ | ⟨g, cap, cur, rfl, hbase, hb, h1, h2, h3, h4⟩
  · have : l = [] := List.length_eq_zero_iff.1 h0
    subst this
    refine (Tryz.strings_Join_none none 0 ⟨#[c]⟩ w).mono ?_
    rintro e w' ⟨rfl, rfl⟩
    exact ⟨rfl, Below.refl _ _⟩
  · have hc : ∀ (j : Nat) x, l[j]? = some x → w.cell? ⟨g, 0 + j, none⟩ = some (.string x) := fun j x hx => by
      rw [Nat.zero_add]
      have hj := (List.getElem?_eq_some_iff.1 hx).1
      rw [World.ownsRow.cellAt h j (by omega)]
      unfold svs
      rw [List.getElem?_map, hx]
      rfl
    have e : Lib.join (l.map (·.data.toList)) (⟨#[c]⟩ : ByteArray).data.toList = sepBy c (l.map bs) := join_sep c _
    refine (Tryz.strings_Join g 0 cap l ⟨#[c]⟩ w hc (Array.getElem?_eq_some_iff.1 hb).1 (by omega) h1 (by rw [e]; omega)).mono ?_
    rintro e' w' ⟨rfl, hb'⟩
    rw [e]
    exact ⟨rfl, hb'⟩

end Go.Proofs.YtaelaldmibgibaaGreatDoor

namespace Go.Proofs.YtaelaldmibgibaaGreatDoor
open Go.RowKit Go.Lib

/-- while a time is told: the time's copy, the row of numbers -/
structure TT (w wr : World) (t : Nat → Int) (v : Value) (l : List ByteArray) : Prop where
  bel : Below w.heap.size w wr
  tc : ∀ j, j < 6 → wr.cell? ⟨w.heap.size, j, none⟩ = some (.int .i64 (t j))
  own : wr.ownsRow (w.heap.size + 1) 9 1 v l.length (svs l)
  lt : w.heap.size < wr.heap.size
theorem TT.step {w wr w2 w3 : World} {t : Nat → Int} {v : Value} {l : List ByteArray} (h : TT w wr t v l) (hb : Below wr.heap.size wr w2) (o : Obj) (y : ByteArray) {g cap : Nat}
    (ho : w3.ownsRow (w.heap.size + 1) 9 1 (.slice (some ⟨g, 0, none⟩) (l.length + 1) cap) (l.length + 1) (svs l ++ [.string y])) (hg : (w2.alloc o).grownBy w3 v.ownBlock) : TT w w3 t (.slice (some ⟨g, 0, none⟩) (l.length + 1) cap) (l ++ [y]) := by
  have hz := hb.size
  have hlt := h.lt
  have hne : ∀ k, v.ownBlock = some k → w.heap.size + 1 ≤ k := fun k hk => (World.ownsRow.lt h.own k hk).1
  refine ⟨?_, fun j hj => ?_, ?_, ?_⟩
  · exact grown_below ((h.bel.trans (hb.mono h.bel.size)).alloc (by omega) _) hg (fun k hk => by have := hne k hk; omega)
  · have hbk := hg.block w.heap.size (by simp; omega) (fun e => by have := hne _ e.symm; omega)
    rw [World.cell?_of_block (w := w2.alloc o) hbk, World.cell?_alloc_old _ _ _ (by simp only; omega), hb.cell (by simp only; omega)]
    exact h.tc j hj
  · rw [List.length_append, svs_append]
    exact ho
  · have := hg.size
    simp at this
    omega

set_option maxRecDepth 100000 in
set_option maxHeartbeats 1000000 in
theorem TimeTold_any (c : List Nat) (n : Nat) (hn : c.length = n) (h1 : 1 ≤ n) (h6 : n ≤ 6) (hc : ∀ v ∈ c, v ≤ 1000000000) (w : World) (hg : Glob w) :
    Calls Tryz.prog 121 #[.agg #[.int .i64 (lfn c 0), .int .i64 (lfn c 1), .int .i64 (lfn c 2), .int .i64 (lfn c 3), .int .i64 (lfn c 4), .int .i64 (lfn c 5)], .int .i64 n] w fun e w' => e = .returned (.string (ofBs (timeT c))) ∧ Below w.heap.size w w' := by
  have T0 : Hid (TT w (w.alloc (.cells #[.int .i64 (lfn c 0), .int .i64 (lfn c 1), .int .i64 (lfn c 2), .int .i64 (lfn c 3), .int .i64 (lfn c 4), .int .i64 (lfn c 5)] 186)) (lfn c) (.slice none 0 0) []) := ⟨(Below.refl _ _).alloc (Nat.le_refl _) _, fun j hj => built6 w (lfn c) _ j hj, World.ownsRow_nil _ _ _ _, by simp⟩
  have GL : Hid (∀ wr, Below w.heap.size w wr → Glob wr) := fun wr hb => hg.below hb
  have IT : Hid (∀ i, i < n → ∀ wr, Glob wr → Calls Tryz.prog 72 #[.int .i64 (lfn c i)] wr fun e w' => e = .returned (.string (ofBs (decDigits (c.getD i 0)))) ∧ Below wr.heap.size wr w') := fun i hi wr hw => by
    refine itoa_any (c.getD i 0) ?_ wr hw
    rw [List.getD_eq_getElem?_getD, List.getElem?_eq_getElem (by omega)]
    exact hc _ (List.getElem_mem _)
  have TK : Hid (∀ i, i < n → (c.take i).map (fun k => ofBs (decDigits k)) ++ [ofBs (decDigits (c.getD i 0))] = (c.take (i + 1)).map (fun k => ofBs (decDigits k))) := fun i hi => map_take_succ (fun k => ofBs (decDigits k)) c i 0 (by omega)
  have LN : Hid (∀ i, i ≤ n → ((c.take i).map (fun k => ofBs (decDigits k))).length = i) := fun i hi => by rw [List.length_map, List.length_take]; omega
  have JN : Hid (∀ (W : World) (v : Value), TT w W (lfn c) v ((c.take n).map (fun k => ofBs (decDigits k))) → Calls Tryz.prog 38 #[v, .string ⟨#[44]⟩] W fun e w' => e = .returned (.string (ofBs (timeT c))) ∧ Below W.heap.size W w') := fun W v hT => by
    have e : sepBy 44 (((c.take n).map (fun k => ofBs (decDigits k))).map bs) = timeT c := by
      unfold timeT
      rw [← hn, List.take_length, List.map_map]
      congr 1
    have hl : (timeT c).length ≤ 10000000000 := by
      have : ∀ l : List Nat, (∀ v ∈ l, v ≤ 1000000000) → (timeT l).length ≤ 12 * l.length := fun l => by
        induction l with
        | nil => intro _; simp [timeT, sepBy]
        | cons a l ih =>
          intro hl
          have h1 := ih (fun v hv => hl v (List.mem_cons_of_mem _ hv))
          have h2 := dig_len 10 a (Nat.lt_of_le_of_lt (hl a (by simp)) (by decide))
          cases l with
          | nil => simp [timeT, sepBy]; omega
          | cons b l =>
            unfold timeT at h1 ⊢
            rw [List.map_cons, List.map_cons, sepBy_cons2]
            rw [List.map_cons] at h1
            simp at h1 ⊢
            omega
      have := this c hc
      omega
    have := join_row 44 (w.heap.size + 1) v _ W hT.own (by rw [LN.out n (Nat.le_refl _)]; omega) (by rw [e]; exact hl)
    rw [e] at this
    exact this
  clear hg
  generalize ht : timeT c = tt at *
  clear ht
  have hn6 : (n : Int) ≤ 6 := by omega
  have hn0 : (0 : Int) ≤ (n : Int) := by omega
  go_enter Tryz.func121, Tryz.ntmps121
  go_wp2
  go_loopw [5, 11] (fun v iv wr => ∃ i : Nat, i ≤ n ∧ iv = .int .i64 i ∧ Hid (TT w wr (lfn c) v ((c.take i).map (fun k => ofBs (decDigits k))))) (fun _ iv _ => n - (intOf iv).toNat)
  case atStart => exact ⟨0, Nat.zero_le _, rfl, T0⟩
  case round =>
    clear T0
    obtain ⟨i, hi, rfl, hT⟩ := hrel
    by_cases hlt : i < n
    · have ti := hT.out.tc i (by omega)
      have hll := LN.out i hi
      obtain ⟨dd, hdd⟩ : ∃ dd, dd = ofBs (decDigits (c.getD i 0)) := ⟨_, rfl⟩
      have IT' : Hid (∀ wr, Glob wr → Calls Tryz.prog 72 #[.int .i64 (lfn c i)] wr fun e w' => e = .returned (.string dd) ∧ Below wr.heap.size wr w') := by rw [hdd]; exact IT.out i hlt
      have TK' := TK.out i hlt
      rw [← hdd] at TK'
      have TK2 := hide TK'
      clear TK' hdd
      go_wp2_with (first
        | (go_at_call 72; refine (IT'.out _ (GL.out _ hT.out.bel)).mono ?_; rintro e w2 ⟨rfl, hb2⟩; have HB2 := hide hb2; clear hb2; have hrow2 := hide (ownsRow_keep (w' := w2) hT.out.own (fun k e => HB2.out.block k (World.ownsRow.lt hT.out.own k e).2)))
        | (at_builtin; refine app_str _ rfl (.tmp 15) (.tmp 18) rfl (w.heap.size + 1) _ _ _ rfl (hrow2.out.alloc _) w2.heap.size dd rfl (by simp) (by omega) (by have := HB2.out.size; have := hT.out.lt; simp; omega) ?_; intro g2 c2 w3 ho3 hgr3 hat3 hl3))
      have T3 := hide (hT.out.step HB2.out _ _ ho3 hgr3)
      clear ho3 hgr3 hat3 hl3
      rw [TK2.out, hll] at T3
      go_roundw
      case rel => exact ⟨i + 1, by omega, by go_num, T3⟩
      case measure => simp [intOf]; omega
    · have ei : i = n := by omega
      subst ei
      go_wp2_with (go_at_call 38; refine (JN.out _ _ hT.out).mono ?_; rintro e w2 ⟨rfl, hb2⟩)
      go_ret
      exact ⟨rfl, hT.out.bel.trans (hb2.mono hT.out.bel.size)⟩

end Go.Proofs.YtaelaldmibgibaaGreatDoor
