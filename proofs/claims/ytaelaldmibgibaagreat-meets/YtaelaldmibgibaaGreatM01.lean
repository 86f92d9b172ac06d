/- A replica of the program's: List, whatever it knows. -/
import Derived.Test.YtaelaldmibgibaaGreatP40
import Derived.Test.YtaelaldmibgibaaGreatP35

set_option linter.unusedVariables false
set_option linter.unusedSimpArgs false
set_option linter.unusedSectionVars false

namespace Go.Proofs.YtaelaldmibgibaaGreat
open Go.RowKit Go.Maps Go.Sort

theorem row_more {w1 w2 : World} {o : Obj} {base : Nat} {e : TypeId} {size : Nat} {v : Value} {n : Nat} {xs : List Value} (h : w1.ownsRow base e size v n xs) (hb : Below (w1.alloc o).heap.size (w1.alloc o) w2) : w2.ownsRow base e size v n xs :=
  ownsRow_keep h (fun k e => by have := (World.ownsRow.lt h k e).2; exact (hb.block k (by simp; omega)).trans (Below.heap_alloc _ _ _ this))
theorem ranges_more {w1 w2 : World} {o : Obj} {b r n cnt : Nat} {D : DataW Unit} {left : Lit → Bool} (h : w1.ranges Tryz.prog 9 recElem b r n D left cnt) (hb : Below (w1.alloc o).heap.size (w1.alloc o) w2) : w2.ranges Tryz.prog 9 recElem b r n D left cnt :=
  ranges_keep h ((hb.block _ (by have := h.owns.lt; simp; omega)).trans (Below.heap_alloc _ _ _ h.owns.lt)) ((hb.block _ (by have := h.lt; simp; omega)).trans (Below.heap_alloc _ _ _ h.lt))
theorem come_skip {E : Recs} {left : Lit → Bool} {x : ByteArray} (h : ∀ y ∈ E, y.1 ≠ x) : come (fun z => left z && !z.sameKey (key x)) E = come left E := by
  unfold come
  congr 1
  apply List.filter_congr
  intro y hy
  show (!(left (key y.1) && !(key y.1).sameKey (key x))) = !left (key y.1)
  rw [same_key, seq_false (h y hy)]
  simp
theorem getE_one {E : Recs} (hE : RisingE E) {p : ByteArray} {R : Rec} : getE p E = some R ↔ (p, R) ∈ E := by
  constructor
  · exact mem_getE
  · intro h
    have hs := getE_mem h
    cases hg : getE p E with
    | none => simp only at hs; rw [hg] at hs; cases hs
    | some R' =>
      have hm := mem_getE hg
      obtain ⟨i, hi, ei⟩ := List.getElem_of_mem hm
      obtain ⟨j, hj, ej⟩ := List.getElem_of_mem h
      have hp := List.pairwise_iff_getElem.1 hE
      rcases Nat.lt_trichotomy i j with q | q | q
      · have := hp i j hi hj q
        rw [ei, ej, slt_irrefl] at this
        cases this
      · subst q
        rw [ei] at ej
        cases ej
        rfl
      · have := hp j i hj hi q
        rw [ei, ej, slt_irrefl] at this
        cases this
theorem thereE_rising {E : Recs} (hE : RisingE E) : RisingE (thereE E) := hE.filter _
theorem come_none {left : Lit → Bool} {E : Recs} (h : come left E = []) : come left (thereE E) = [] := by
  unfold come thereE at *
  rw [List.map_eq_nil_iff, List.filter_eq_nil_iff] at *
  intro y hy
  exact h y (List.mem_filter.1 hy).1
set_option maxRecDepth 100000 in
set_option maxHeartbeats 2000000 in
theorem listG_any (rb s : Nat) (cm : Nat → Int) (mb : Nat) (w : World) (h : RepAt w rb s cm mb) (E : Recs) (hE : RisingE E) (hl : E.length < 1000000) (hown : w.ownsMap Tryz.prog 9 recElem mb E.length (datOf E)) :
    Calls Tryz.prog 59 #[.pointer (some ⟨rb, 0, none⟩)] w fun e w' => ∃ v, e = .returned v ∧ w'.ownsRow w.heap.size 9 1 v (thereE E).length (svs ((thereE E).map (·.1))) ∧ Below w.heap.size w w' := by
  have c7 := h.c7
  have hml := hown.lt
  clear h
  go_enter Tryz.func59, Tryz.ntmps59
  go_wp2_with (first
    | (at_range; refine wpList_range_own _ rfl _ 106 rfl 9 120 lawS Tryz.underlying106 _ mb E.length _ rfl hown ?_; intro w0 hrg0 hg0 hs0)
    | go_in)
  go_frame
  have hb0 : Hid (Below w.heap.size w w0) := (Below.refl _ _).grown hg0 (by simp) (fun j hj => by cases hj)
  go_loopw [3] (fun v wr => ∃ (left : Lit → Bool) (cnt : Nat), wr.ranges Tryz.prog 9 recElem mb w.heap.size E.length (datOf E) left cnt ∧ (∃ l : List ByteArray, wr.ownsRow w.heap.size 9 1 v l.length (svs l) ∧ l.Perm (come left (thereE E))) ∧ Hid (Below w.heap.size w wr)) (fun _ wr => wr.rangeLeft mb w.heap.size)
  case atStart => exact ⟨_, _, hrg0, ⟨[], World.ownsRow_nil _ _ _ _, by rw [come_none (come_start E)]⟩, hb0⟩
  case round =>
    obtain ⟨left, cnt, hrg, ⟨l, hrow, hperm⟩, hbw⟩ := hrel
    go_wp2_with (first
      | (at_next; refine wpList_next_ranges _ rfl _ rfl 9 lawS recElem Value.string recVal (fun key kl h => Maps.keyOf_string_inv Tryz.underlying9 h) recInv mb w.heap.size E.length (datOf E) left cnt rfl hrg ?_ ?_)
      | go_in)
    · intro hc0 hl0
      rw [come_end hl0] at hperm
      clear hrg hrg0 hown
      have hsz := hbw.out.size
      rcases hrow.2 with ⟨rfl, h0⟩ | ⟨g, cap, cur, rfl, hbase, hb, h1, h2, h3, h4⟩
      · have el : l = [] := List.length_eq_zero_iff.1 h0
        subst el
        have eE : thereE E = [] := by have := hperm.symm.eq_nil; simpa using this
        go_wp2_with (go_at_call 73; refine (Tryz.slices_Sort_string_none none 0 wr).mono ?_; rintro e w5 ⟨rfl, rfl⟩)
        go_ret
        rw [eE]
        exact ⟨_, rfl, World.ownsRow_nil _ _ _ _, hbw.out⟩
      · have hss : (l.map lst).length = l.length := by simp
        have hH : Holds encStr wr g 0 (l.map lst).toArray := holds_of_block hb (by rw [hss, ← svs_lst]; simpa using h4)
        have hll : l.length = (thereE E).length := by rw [hperm.length_eq, List.length_map]
        have htl := thereE_len E
        have SC := hide (Tryz.slices_Sort_string g 0 cap (l.map lst) wr hH (Array.getElem?_eq_some_iff.1 hb).1 (by rw [hss]; omega))
        rw [sorted_eq (l.map lst) _ (rising_lst (thereE_rising hE)) (hperm.map lst), hss] at SC
        have HB := hide hb
        have HLL := hide hll
        clear hH hb h4 hrow hll
        go_wp2_with (go_at_call 73; refine SC.out.mono ?_; rintro e w5 ⟨rfl, nn, os, hw5⟩; have HW := hide hw5; clear hw5)
        go_ret
        have ew := HW.out
        subst ew
        refine ⟨_, rfl, ?_, hbw.out.grown (grownBy_sorted _) hsz (fun j hj => by cases hj; exact hbase)⟩
        have := ownsRow_sorted (n := nn) (os := os) (ss := l.map lst) (ts := ((thereE E).map (·.1)).map lst) (by simp [HLL.out]) hbase HB.out (by rw [hss]; exact h1) h2 h3
        rw [hss, ← svs_lst] at this
        rw [← HLL.out]
        exact this
    · intro x R kl yd yp w1 cnt1 hkey hlk hv hat hrg1 hlt hg1 hs1 hen
      obtain ⟨rfl, _⟩ := key_of hkey
      obtain ⟨R', hm, hd⟩ := rec_at hat
      have hyd : yd = recDat R := by rw [recElem_mk] at hv; have := Option.some.inj hv; simp at this; exact this.1.symm
      have hRR : R.bn = R'.bn := recDat_bn (hyd.symm.trans hd)
      have hll : l.length ≤ E.length := by rw [hperm.length_eq]; have := come_le left (thereE E); have := thereE_len E; omega
      have HB1 : Hid (Below w.heap.size w w1) := hbw.out.grown hg1 hbw.out.size (fun j hj => by cases hj; exact Nat.le_refl _)
      have NI := hide (row_ne_iter hrow hrg)
      have hrow1 := hide (ownsRow_keep (w' := w1) hrow (fun k e => by have := World.ownsRow.lt hrow k e; exact hg1.block k this.2 (fun e' => NI.out (by rw [e, ← e']))))
      have RG := hide hrg
      have RG1 := hide hrg1
      have HP := hide hperm
      by_cases hR : 0 < R.bn
      · have hmT : (x, R') ∈ thereE E := List.mem_filter.2 ⟨hm, by simpa using (by rw [← hRR]; exact hR : 0 < R'.bn)⟩
        have LS := hide (come_step (thereE_rising hE) hmT hlk)
        have hd0 : decide (0 < R.bn) = true := by simp [hR]
        clear hkey hat hv hyd hd hR hm hg1 hrg hrg1 hown hrow hperm hmT hRR
        simp only [recVal] at hen ⊢
        go_wp2_with (first
          | (go_at_call 60; refine (isThere_any _ _ _ _ _ _ _ _ _ _).mono ?_; rintro e w2 ⟨rfl, hb2⟩; have hrow2 := hide (row_more hrow1.out hb2); have RG2 := hide (ranges_more RG1.out hb2); have HB2 := hide (below_more HB1.out hb2); clear hb2)
          | (at_builtin; refine app_str _ rfl (.tmp 19) (.tmp 21) rfl w.heap.size _ _ _ rfl (hrow2.out.alloc _) w2.heap.size x rfl (by simp) (by omega) (by have := HB2.out.size; simp; omega) ?_; intro g2 c2 w3 ho3 hgr3 hat3 hl3))
        have NI2 := hide (row_ne_iter hrow2.out RG2.out)
        have HB3 := hide (grown_below (HB2.out.alloc HB2.out.size _) hgr3 (fun q hq => (World.ownsRow.lt hrow2.out q hq).1))
        have RG3 := hide ((RG2.out.alloc _).kept hgr3 (fun e => by have := (World.ownsRow.lt hrow2.out mb e.symm).1; omega) NI2.out)
        have HR := hide ho3
        clear hgr3 ho3 hat3
        go_roundw
        case rel => exact ⟨_, cnt1, RG3.out, ⟨l ++ [x], by rw [svs_append, List.length_append]; exact HR.out, ((List.perm_append_comm).trans (List.Perm.cons x HP.out)).trans LS.out.symm⟩, HB3⟩
        case measure => rw [RG3.out.left_eq, RG.out.left_eq]; exact hlt
      · have hnT : ∀ y ∈ thereE E, y.1 ≠ x := fun y hy e => by
          obtain ⟨h1, h2⟩ := List.mem_filter.1 hy
          have hb : 0 < y.2.bn := by simpa using h2
          have q1 : getE x E = some y.2 := by
            have := (getE_one hE (p := y.1) (R := y.2)).2 h1
            rw [e] at this
            exact this
          have q2 : getE x E = some R' := (getE_one hE).2 hm
          rw [q1] at q2
          cases q2
          omega
        have LS := hide (come_skip (left := left) hnT)
        have hd0 : decide (0 < R.bn) = false := by simp [hR]
        clear hkey hat hv hyd hd hR hm hg1 hrg hrg1 hown hrow hperm hRR hnT
        simp only [recVal] at hen ⊢
        go_wp2_with (go_at_call 60; refine (isThere_any _ _ _ _ _ _ _ _ _ _).mono ?_; rintro e w2 ⟨rfl, hb2⟩; have hrow2 := hide (row_more hrow1.out hb2); have RG2 := hide (ranges_more RG1.out hb2); have HB2 := hide (below_more HB1.out hb2); clear hb2)
        go_roundw
        case rel => exact ⟨_, cnt1, RG2.out, ⟨l, hrow2.out, by rw [LS.out]; exact HP.out⟩, HB2⟩
        case measure => rw [RG2.out.left_eq, RG.out.left_eq]; exact hlt

end Go.Proofs.YtaelaldmibgibaaGreat
