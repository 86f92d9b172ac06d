/- The program's files: how many records of the map are of files that are there. The program's List of a replica: the map's keys, sorted. -/
import Derived.Test.YtaelaldmibgibaaGreatDoorW19
import Derived.Maps.RangeWalk
import Derived.Sort.MapsRangeIn
import Derived.Test.YtaelaldmibgibaaGreatDoorShelf
import Derived.Sort.OwnSorted
import Derived.Test.YtaelaldmibgibaaGreatDoorW01

set_option linter.unusedVariables false
set_option linter.unusedSimpArgs false

namespace Go.Proofs.YtaelaldmibgibaaGreatDoor
open Go.RowKit Go.Maps

theorem ranges_keep {w w' : World} {b r n cnt : Nat} {D : DataW Unit} {left : Lit → Bool} (h : w.ranges Tryz.prog 9 recElem b r n D left cnt) (hb : w'.heap[b]? = w.heap[b]?) (hr : w'.heap[r]? = w.heap[r]?) : w'.ranges Tryz.prog 9 recElem b r n D left cnt := by
  obtain ⟨es, clock, since, seen, c0, h1, F, hs, hD, h2, rest⟩ := h
  exact ⟨es, clock, since, seen, c0, by rw [hb]; exact h1, F, hs, hD, by rw [hr]; exact h2, rest⟩

theorem key_of {x : ByteArray} {kl : Lit} (h : keyOf Tryz.prog 9 (.string x) = some kl) : kl = key x ∧ x.size ≤ maxLen := by
  simp [keyOf, mapKey, Tryz.underlying9] at h
  exact ⟨h.2.symm, h.1⟩
theorem recDat_bn {R R' : Rec} (h : recDat R = recDat R') : R.bn = R'.bn := by
  simp only [recDat, DataW.agg.injEq, List.cons.injEq, DataW.lit.injEq, Lit.string.injEq, Lit.int.injEq, true_and, and_true] at h
  exact h.2.2.1
theorem rec_at {E : Recs} {x : ByteArray} {d : DataW Unit} (h : ∀ zd, (datOf E).atKey (key x) zd = d) : ∃ R, (x, R) ∈ E ∧ d = recDat R := by
  cases hg : getE x E with
  | none =>
    have h1 := h (.lit (.bool true))
    have h2 := h (.lit (.bool false))
    rw [atKey_datOf, hg] at h1 h2
    simp only at h1 h2
    rw [← h2] at h1
    simp at h1
  | some R =>
    have h1 := h (.lit (.bool true))
    rw [atKey_datOf, hg] at h1
    exact ⟨R, mem_getE hg, h1.symm⟩

/-- those that are still to come -/
def lf (left : Lit → Bool) (E : Recs) : Nat := (E.filter (fun x => left (key x.1))).length
theorem getE_mem {E : Recs} {x : ByteArray × Rec} (h : x ∈ E) : (getE x.1 E).isSome = true := by
  unfold getE
  rw [Option.isSome_map, List.find?_isSome]
  exact ⟨x, h, (seq_iff _ _).2 rfl⟩
theorem lf_start (E : Recs) : lf (Maps.has (datOf E)) E = E.length := by
  unfold lf
  rw [filter_all]
  intro x hx
  rw [has_datOf]
  exact getE_mem hx
theorem lf_end {left : Lit → Bool} (h : ∀ kl, left kl = false) (E : Recs) : lf left E = 0 := by
  unfold lf
  rw [filter_none _ _ (fun x _ => h _)]
  rfl
theorem lf_step {E : Recs} (hE : RisingE E) {left : Lit → Bool} {x : ByteArray} {R : Rec} (hx : (x, R) ∈ E) (hl : left (key x) = true) : lf left E = lf (fun z => left z && !z.sameKey (key x)) E + 1 := by
  unfold lf
  simp only [same_key]
  induction E with
  | nil => simp at hx
  | cons y E ih =>
    obtain ⟨h1, h2⟩ := List.pairwise_cons.1 hE
    rcases List.mem_cons.1 hx with rfl | hx
    · have e : E.filter (fun y => left (key y.1) && !seq y.1 x) = E.filter (fun y => left (key y.1)) := by
        apply List.filter_congr
        intro z hz
        rw [seq_false (fun e => slt_ne (h1 z hz) e.symm)]
        simp
      have e2 : seq x x = true := (seq_iff _ _).2 rfl
      simp [hl, e, e2]
    · have ih := ih h2 hx
      have e2 : seq y.1 x = false := seq_false (slt_ne (h1 _ hx))
      cases e : left (key y.1) with
      | true => simp only [List.filter_cons, e, e2, Bool.not_false, Bool.and_self, if_true, List.length_cons, ih]
      | false => simpa [e] using ih

theorem recInv (v : Value) (y : DataW Unit × List MemPlace) (h : recElem v = some y) : ∃ R : Rec, v = recVal R := by
  obtain ⟨R, rfl, _⟩ := recElem_inv h
  exact ⟨R, rfl⟩

set_option maxRecDepth 100000 in
set_option maxHeartbeats 800000 in
theorem pfiles_any (rb s : Nat) (cm : Nat → Int) (mb : Nat) (w : World) (h : RepAt w rb s cm mb) (E : Recs) (hE : RisingE E) (hl : E.length < 1000000) (hbn : ∀ x ∈ E, 0 < x.2.bn) (hown : w.ownsMap Tryz.prog 9 recElem mb E.length (datOf E)) :
    Calls Tryz.prog 129 #[.pointer (some ⟨rb, 0, none⟩)] w fun e w' => e = .returned (.int .i64 E.length) ∧ Below w.heap.size w w' := by
  have c7 := h.c7
  have hml := hown.lt
  clear h
  go_enter Tryz.func129, Tryz.ntmps129
  go_wp2_with (first
    | (at_range; refine wpList_range_own _ rfl _ 184 rfl 9 197 lawS Tryz.underlying184 _ mb E.length _ rfl hown ?_; intro w0 hrg0 hg0 hs0)
    | go_in)
  go_frame
  have hb0 : Hid (Below w.heap.size w w0) := (Below.refl _ _).grown hg0 (by simp) (fun j hj => by cases hj)
  go_loopw [3] (fun nv wr => ∃ (left : Lit → Bool) (cnt : Nat), wr.ranges Tryz.prog 9 recElem mb w.heap.size E.length (datOf E) left cnt ∧ (∃ k : Nat, nv = .int .i64 k ∧ k + lf left E = E.length) ∧ Hid (Below w.heap.size w wr)) (fun _ wr => wr.rangeLeft mb w.heap.size)
  case atStart => exact ⟨_, _, hrg0, ⟨0, rfl, by rw [lf_start]; omega⟩, hb0⟩
  case round =>
    obtain ⟨left, cnt, hrg, ⟨k, rfl, hk⟩, hbw⟩ := hrel
    go_wp2_with (first
      | (at_next; refine wpList_next_ranges _ rfl _ rfl 9 lawS recElem Value.string recVal (fun key kl h => Maps.keyOf_string_inv Tryz.underlying9 h) recInv mb w.heap.size E.length (datOf E) left cnt rfl hrg ?_ ?_)
      | go_in)
    · intro hc0 hl0
      rw [lf_end hl0] at hk
      simp only [Nat.add_zero] at hk
      subst hk
      go_wp2
      go_ret
      exact ⟨rfl, hbw.out⟩
    · intro x R kl yd yp w1 cnt1 hkey hlk hv hat hrg1 hlt hg1 hs1 hen
      obtain ⟨rfl, _⟩ := key_of hkey
      obtain ⟨R', hm, hd⟩ := rec_at hat
      have hyd : yd = recDat R := by rw [recElem_mk] at hv; have := Option.some.inj hv; simp at this; exact this.1.symm
      have hR : 0 < R.bn := by rw [recDat_bn (hyd.symm.trans hd)]; exact hbn _ hm
      have LS := hide (lf_step hE hm hlk)
      have HB1 : Hid (Below w.heap.size w w1) := hbw.out.grown hg1 hbw.out.size (fun j hj => by cases hj; exact Nat.le_refl _)
      have RG := hide hrg
      have RG1 := hide hrg1
      have hd0 : decide (0 < R.bn) = true := by simp [hR]
      have hw : IntKind.i64.wrap ((k : Int) + 1) = (k + 1 : Nat) := by rw [IntKind.wrap_i64]; omega
      have HK := hide hk
      clear hkey hat hv hyd hd hR hm hg1 hrg hrg1 hown hk
      simp only [recVal] at hen ⊢
      go_wp2_with (go_at_call 113; refine (isThere_any _ _ _ _ _ _ _ _ _ _).mono ?_; rintro e w2 ⟨rfl, hb2⟩)
      have HB2 : Hid (Below w.heap.size w w2) := (HB1.out.alloc HB1.out.size _).trans (hb2.mono (by have := HB1.out.size; simp; omega))
      have hsz1 := HB1.out.size
      have RG2 := hide (ranges_keep (w' := w2) RG1.out ((hb2.block _ (by simp; omega)).trans (Below.heap_alloc _ _ _ (by omega))) ((hb2.block _ (by have := RG1.out.lt; simp; omega)).trans (Below.heap_alloc _ _ _ RG1.out.lt)))
      clear hb2
      go_roundw
      case rel => exact ⟨_, cnt1, RG2.out, ⟨k + 1, by first | rfl | go_num, by have := HK.out; have := LS.out; omega⟩, HB2⟩
      case measure => rw [RG2.out.left_eq, RG.out.left_eq]; exact hlt

end Go.Proofs.YtaelaldmibgibaaGreatDoor

namespace Go.Proofs.YtaelaldmibgibaaGreatDoor
open Go.RowKit Go.Maps Go.Sort

theorem less_iff (x y : List UInt8) : Op.bytesLess x y = true ↔ x < y := by
  induction x generalizing y with
  | nil =>
    cases y with
    | nil => simp [Op.bytesLess]
    | cons b y => simp [Op.bytesLess]
  | cons a x ih =>
    cases y with
    | nil => simp [Op.bytesLess]
    | cons b y =>
      rw [List.cons_lt_cons_iff, ← ih]
      simp [Op.bytesLess]
theorem le_less (x y : List UInt8) : decide (x ≤ y) = !Op.bytesLess y x := by
  cases e : Op.bytesLess y x with
  | true => simp only [Bool.not_true, decide_eq_false_iff_not]; exact fun h => h ((less_iff y x).1 e)
  | false => simp only [Bool.not_false, decide_eq_true_eq]; exact fun h => by rw [(less_iff y x).2 h] at e; cases e
theorem eq_of_rising (T : List (List UInt8)) : ∀ (ts : List (List UInt8)), T.Pairwise (fun a b => Op.bytesLess a b = true) → ts.Pairwise (fun a b => Op.bytesLess b a = false) → ts.Perm T → ts = T := by
  induction T with
  | nil => intro ts _ _ hp; exact List.Perm.eq_nil hp
  | cons a T ih =>
    intro ts hT hts hp
    cases ts with
    | nil => exact absurd hp.symm.eq_nil (by simp)
    | cons b ts =>
      obtain ⟨h1, h2⟩ := List.pairwise_cons.1 hT
      obtain ⟨h3, h4⟩ := List.pairwise_cons.1 hts
      have e : b = a := by
        have hb : b ∈ a :: T := hp.subset (by simp)
        have ha : a ∈ b :: ts := hp.symm.subset (by simp)
        rcases List.mem_cons.1 hb with hb | hb
        · exact hb
        · rcases List.mem_cons.1 ha with ha | ha
          · exact ha.symm
          · have := h1 b hb
            rw [h3 a ha] at this
            cases this
      subst e
      rw [ih ts h2 h4 ((List.perm_cons b).1 hp)]
theorem sorted_eq (ss T : List (List UInt8)) (hT : T.Pairwise (fun a b => Op.bytesLess a b = true)) (hp : ss.Perm T) : (ss.mergeSort fun x y => decide (x ≤ y)) = T := by
  refine eq_of_rising T _ hT ?_ ((List.mergeSort_perm _ _).trans hp)
  have := List.pairwise_mergeSort (le := fun x y : List UInt8 => decide (x ≤ y)) ?_ ?_ ss
  · refine this.imp ?_
    intro a b h
    rw [le_less] at h
    simpa using h
  · intro a b c h h'
    rw [le_less] at h h' ⊢
    cases e : Op.bytesLess c a with
    | false => rfl
    | true =>
      simp at h h'
      have hab : Op.bytesLess a b = true ∨ a = b := by
        cases e2 : Op.bytesLess a b with
        | true => exact .inl rfl
        | false => exact .inr (bl_tri _ _ e2 h)
      rcases hab with hab | rfl
      · rw [bl_trans _ _ _ e hab] at h'; cases h'
      · rw [e] at h'; cases h'
  · intro a b
    rw [le_less, le_less]
    cases e : Op.bytesLess b a with
    | false => rfl
    | true =>
      cases e2 : Op.bytesLess a b with
      | false => rfl
      | true =>
        have := bl_trans _ _ _ e e2
        rw [bl_irrefl] at this
        cases this

def lst (x : ByteArray) : List UInt8 := x.data.toList
theorem svs_lst (l : List ByteArray) : svs l = (l.map lst).map encStr := by
  unfold svs
  rw [List.map_map]
  apply List.map_congr_left
  intro x _
  rfl
theorem rising_lst {E : Recs} (h : RisingE E) : ((E.map (·.1)).map lst).Pairwise (fun a b => Op.bytesLess a b = true) := by
  rw [List.map_map, List.pairwise_map]
  refine h.imp ?_
  intro a b h
  unfold slt at h
  rw [ByteArray.toList_eq, ByteArray.toList_eq] at h
  exact h

/-- the paths that have come -/
def come (left : Lit → Bool) (E : Recs) : List ByteArray := (E.filter (fun x => !left (key x.1))).map (·.1)
theorem come_start (E : Recs) : come (Maps.has (datOf E)) E = [] := by
  unfold come
  rw [filter_none _ _ (fun x hx => by rw [has_datOf, getE_mem hx]; rfl)]
  rfl
theorem come_end {left : Lit → Bool} (h : ∀ kl, left kl = false) (E : Recs) : come left E = E.map (·.1) := by
  unfold come
  rw [filter_all _ _ (fun x _ => by rw [h]; rfl)]
theorem come_step {E : Recs} (hE : RisingE E) {left : Lit → Bool} {x : ByteArray} {R : Rec} (hx : (x, R) ∈ E) (hl : left (key x) = true) : (come (fun z => left z && !z.sameKey (key x)) E).Perm (x :: come left E) := by
  unfold come
  simp only [same_key]
  induction E with
  | nil => simp at hx
  | cons y E ih =>
    obtain ⟨h1, h2⟩ := List.pairwise_cons.1 hE
    rcases List.mem_cons.1 hx with rfl | hx
    · have e : E.filter (fun y => !(left (key y.1) && !seq y.1 x)) = E.filter (fun y => !left (key y.1)) := by
        apply List.filter_congr
        intro z hz
        rw [seq_false (fun e => slt_ne (h1 z hz) e.symm)]
        simp
      have e2 : seq x x = true := (seq_iff _ _).2 rfl
      rw [List.filter_cons, List.filter_cons, e]
      simp only [hl, e2, Bool.not_true, Bool.and_false, Bool.not_false, if_true]
      exact List.Perm.refl _
    · have ih := ih h2 hx
      have e2 : seq y.1 x = false := seq_false (slt_ne (h1 _ hx))
      rw [List.filter_cons, List.filter_cons]
      cases e : left (key y.1) with
      | true => simpa [e2] using ih
      | false =>
        simp only [e2, Bool.false_and, Bool.not_false, if_true, List.map_cons]
        exact (List.Perm.cons _ ih).trans (List.Perm.swap _ _ _)
theorem come_le (left : Lit → Bool) (E : Recs) : (come left E).length ≤ E.length := by
  unfold come
  rw [List.length_map]
  exact List.length_filter_le _ _

theorem row_more {w1 w2 : World} {o : Obj} {base : Nat} {e : TypeId} {size : Nat} {v : Value} {n : Nat} {xs : List Value} (h : w1.ownsRow base e size v n xs) (hb : Below (w1.alloc o).heap.size (w1.alloc o) w2) : w2.ownsRow base e size v n xs :=
  ownsRow_keep h (fun k e => by have := (World.ownsRow.lt h k e).2; exact (hb.block k (by simp; omega)).trans (Below.heap_alloc _ _ _ this))
theorem ranges_more {w1 w2 : World} {o : Obj} {b r n cnt : Nat} {D : DataW Unit} {left : Lit → Bool} (h : w1.ranges Tryz.prog 9 recElem b r n D left cnt) (hb : Below (w1.alloc o).heap.size (w1.alloc o) w2) : w2.ranges Tryz.prog 9 recElem b r n D left cnt :=
  ranges_keep h ((hb.block _ (by have := h.owns.lt; simp; omega)).trans (Below.heap_alloc _ _ _ h.owns.lt)) ((hb.block _ (by have := h.lt; simp; omega)).trans (Below.heap_alloc _ _ _ h.lt))
theorem below_more {w w1 w2 : World} {o : Obj} (h : Below w.heap.size w w1) (hb : Below (w1.alloc o).heap.size (w1.alloc o) w2) : Below w.heap.size w w2 :=
  (h.alloc h.size _).trans (hb.mono (by have := h.size; simp; omega))

set_option maxRecDepth 100000 in
set_option maxHeartbeats 1000000 in
theorem plist_any (rb s : Nat) (cm : Nat → Int) (mb : Nat) (w : World) (h : RepAt w rb s cm mb) (E : Recs) (hE : RisingE E) (hl : E.length < 1000000) (hbn : ∀ x ∈ E, 0 < x.2.bn) (hown : w.ownsMap Tryz.prog 9 recElem mb E.length (datOf E)) :
    Calls Tryz.prog 165 #[.pointer (some ⟨rb, 0, none⟩)] w fun e w' => ∃ v, e = .returned v ∧ w'.ownsRow w.heap.size 9 1 v E.length (svs (E.map (·.1))) ∧ Below w.heap.size w w' := by
  have c7 := h.c7
  have hml := hown.lt
  clear h
  go_enter Tryz.func165, Tryz.ntmps165
  go_wp2_with (first
    | (at_range; refine wpList_range_own _ rfl _ 184 rfl 9 197 lawS Tryz.underlying184 _ mb E.length _ rfl hown ?_; intro w0 hrg0 hg0 hs0)
    | go_in)
  go_frame
  have hb0 : Hid (Below w.heap.size w w0) := (Below.refl _ _).grown hg0 (by simp) (fun j hj => by cases hj)
  go_loopw [3] (fun v wr => ∃ (left : Lit → Bool) (cnt : Nat), wr.ranges Tryz.prog 9 recElem mb w.heap.size E.length (datOf E) left cnt ∧ (∃ l : List ByteArray, wr.ownsRow w.heap.size 9 1 v l.length (svs l) ∧ l.Perm (come left E)) ∧ Hid (Below w.heap.size w wr)) (fun _ wr => wr.rangeLeft mb w.heap.size)
  case atStart => exact ⟨_, _, hrg0, ⟨[], World.ownsRow_nil _ _ _ _, by rw [come_start]⟩, hb0⟩
  case round =>
    obtain ⟨left, cnt, hrg, ⟨l, hrow, hperm⟩, hbw⟩ := hrel
    go_wp2_with (first
      | (at_next; refine wpList_next_ranges _ rfl _ rfl 9 lawS recElem Value.string recVal (fun key kl h => Maps.keyOf_string_inv Tryz.underlying9 h) recInv mb w.heap.size E.length (datOf E) left cnt rfl hrg ?_ ?_)
      | go_in)
    · intro hc0 hl0
      rw [come_end hl0] at hperm
      clear hrg hrg0 hown
      have hsz := hbw.out.size
      rcases hrow.2 with ⟨rfl, h0⟩ | ⟨g, cap, cur, rfl, hbase, hb, h1, h2, h3, h4⟩
      · have el : l = [] := List.length_eq_zero_iff.1 h0
        subst el
        have eE : E = [] := by have := hperm.symm.eq_nil; simpa using this
        subst eE
        go_wp2_with (go_at_call 176; refine (Tryz.slices_Sort_string_none none 0 wr).mono ?_; rintro e w5 ⟨rfl, rfl⟩)
        go_ret
        exact ⟨_, rfl, World.ownsRow_nil _ _ _ _, hbw.out⟩
      · have hss : (l.map lst).length = l.length := by simp
        have hH : Holds encStr wr g 0 (l.map lst).toArray := holds_of_block hb (by rw [hss, ← svs_lst]; simpa using h4)
        have hll : l.length = E.length := by rw [hperm.length_eq, List.length_map]
        have SC := hide (Tryz.slices_Sort_string g 0 cap (l.map lst) wr hH (Array.getElem?_eq_some_iff.1 hb).1 (by rw [hss]; omega))
        rw [sorted_eq (l.map lst) _ (rising_lst hE) (hperm.map lst), hss] at SC
        have HB := hide hb
        have HLL := hide hll
        clear hH hb h4 hrow hll
        go_wp2_with (go_at_call 176; refine SC.out.mono ?_; rintro e w5 ⟨rfl, nn, os, hw5⟩; have HW := hide hw5; clear hw5)
        go_ret
        have ew := HW.out
        subst ew
        refine ⟨_, rfl, ?_, hbw.out.grown (grownBy_sorted _) hsz (fun j hj => by cases hj; exact hbase)⟩
        have := ownsRow_sorted (n := nn) (os := os) (ss := l.map lst) (ts := (E.map (·.1)).map lst) (by simp [HLL.out]) hbase HB.out (by rw [hss]; exact h1) h2 h3
        rw [hss, ← svs_lst] at this
        rw [← HLL.out]
        exact this
    · intro x R kl yd yp w1 cnt1 hkey hlk hv hat hrg1 hlt hg1 hs1 hen
      obtain ⟨rfl, _⟩ := key_of hkey
      obtain ⟨R', hm, hd⟩ := rec_at hat
      have hyd : yd = recDat R := by rw [recElem_mk] at hv; have := Option.some.inj hv; simp at this; exact this.1.symm
      have hR : 0 < R.bn := by rw [recDat_bn (hyd.symm.trans hd)]; exact hbn _ hm
      have LS := hide (come_step hE hm hlk)
      have hll : l.length ≤ E.length := by rw [hperm.length_eq]; exact come_le left E
      have HB1 : Hid (Below w.heap.size w w1) := hbw.out.grown hg1 hbw.out.size (fun j hj => by cases hj; exact Nat.le_refl _)
      have NI := hide (row_ne_iter hrow hrg)
      have hrow1 := hide (ownsRow_keep (w' := w1) hrow (fun k e => by have := World.ownsRow.lt hrow k e; exact hg1.block k this.2 (fun e' => NI.out (by rw [e, ← e']))))
      have RG := hide hrg
      have RG1 := hide hrg1
      have HP := hide hperm
      have hd0 : decide (0 < R.bn) = true := by simp [hR]
      clear hkey hat hv hyd hd hR hm hg1 hrg hrg1 hown hrow hperm
      simp only [recVal] at hen ⊢
      go_wp2_with (first
        | (go_at_call 113; refine (isThere_any _ _ _ _ _ _ _ _ _ _).mono ?_; rintro e w2 ⟨rfl, hb2⟩; have hrow2 := hide (row_more hrow1.out hb2); have RG2 := hide (ranges_more RG1.out hb2); have HB2 := hide (below_more HB1.out hb2); clear hb2)
        | (at_builtin; refine app_str _ rfl (.tmp 19) (.tmp 21) rfl w.heap.size _ _ _ rfl (hrow2.out.alloc _) w2.heap.size x rfl (by simp) (by omega) (by have := HB2.out.size; simp; omega) ?_; intro g2 c2 w3 ho3 hgr3 hat3 hl3))
      have NI2 := hide (row_ne_iter hrow2.out RG2.out)
      have HB3 := hide (grown_below (HB2.out.alloc HB2.out.size _) hgr3 (fun q hq => (World.ownsRow.lt hrow2.out q hq).1))
      have RG3 := hide ((RG2.out.alloc _).kept hgr3 (fun e => by have := (World.ownsRow.lt hrow2.out mb e.symm).1; omega) NI2.out)
      have HR := hide ho3
      clear hgr3 ho3 hat3
      go_roundw
      case rel => exact ⟨_, cnt1, RG3.out, ⟨l ++ [x], by rw [svs_append, List.length_append]; exact HR.out, ((List.perm_append_comm).trans (List.Perm.cons x HP.out)).trans LS.out.symm⟩, HB3⟩
      case measure => rw [RG3.out.left_eq, RG.out.left_eq]; exact hlt

end Go.Proofs.YtaelaldmibgibaaGreatDoor
