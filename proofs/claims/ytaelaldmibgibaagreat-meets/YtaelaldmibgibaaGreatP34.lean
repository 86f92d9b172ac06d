/- The program's keep of a record that is no file; how many files there are. -/
import Derived.Test.YtaelaldmibgibaaGreatRows
import Derived.WalkKit
import Derived.WalkSpells
import Derived.WalkLawsBesides
import Derived.Deep.AppendLies
import Derived.Deep.MidRow
import Derived.Deep.DrawnRows
import Derived.BigQuiet
import Derived.Deep.QuietTactic
import Derived.Deep.RegionWith
import Derived.Deep.RegionHeld3
import Derived.Test.YtaelaldmibgibaaGreatP02
import Derived.ChangeKeysEq
import Derived.Deep.RegionLaw
import Derived.Deep.DeepMust
import Derived.Maps.OwnSet
import Derived.Maps.OwnOps
import Derived.Maps.Range
import Derived.Maps.RangeWalk
import Derived.Sort.MapsRangeIn
import Derived.Sort.OwnSorted
import Derived.Test.YtaelaldmibgibaaGreatP01
import Derived.Test.YtaelaldmibgibaaGreatP03
import Derived.Test.YtaelaldmibgibaaGreatP18
import Derived.Test.YtaelaldmibgibaaGreatP04
import Derived.Test.YtaelaldmibgibaaGreatP19
import Derived.Test.YtaelaldmibgibaaGreatP22
import Derived.Test.YtaelaldmibgibaaGreatP20
import Derived.Test.YtaelaldmibgibaaGreatP23
import Derived.Test.YtaelaldmibgibaaGreatP24
import Derived.Test.YtaelaldmibgibaaGreatP25
import Derived.Test.YtaelaldmibgibaaGreatP26
import Derived.Test.YtaelaldmibgibaaGreatP27
import Derived.Test.YtaelaldmibgibaaGreatP33
import Derived.Test.YtaelaldmibgibaaGreatP28
import Derived.Test.YtaelaldmibgibaaGreatP29
import Derived.Test.YtaelaldmibgibaaGreatP30

set_option linter.unusedVariables false
set_option linter.unusedSimpArgs false
set_option linter.unusedSectionVars false

namespace Go.Proofs.YtaelaldmibgibaaGreat
open Go.RowKit Go.Maps

attribute [local go_sem ↓] muEq
set_option maxRecDepth 100000 in
set_option maxHeartbeats 800000 in
theorem keep_kn (rb s : Nat) (cm : Nat → Int) (mb : Nat) (w : World) (h : RepAt w rb s cm mb) (E : Recs) (hE : RisingE E) (hl : E.length < maxLen) (hown : w.ownsMap Tryz.prog 9 recElem mb E.length (datOf E)) (p : ByteArray) (hp : p.size ≤ 1000000000000) (R : Rec) (hbn : R.bn = 0) (hkn : eqT R.kn cm = false) :
    Calls Tryz.prog 56 #[.pointer (some ⟨rb, 0, none⟩), .string p, .agg #[.string R.text, .int .i64 R.br, .int .i64 R.bn, .int .i64 (R.ch 0), .int .i64 (R.ch 1), .int .i64 (R.ch 2), .int .i64 (R.ch 3), .int .i64 (R.ch 4), .int .i64 (R.ch 5), .int .i64 (R.kn 0), .int .i64 (R.kn 1), .int .i64 (R.kn 2), .int .i64 (R.kn 3), .int .i64 (R.kn 4), .int .i64 (R.kn 5)]] w fun e w' => e = .returned (.tuple #[]) ∧ RepAt w' rb s cm mb ∧ w'.ownsMap Tryz.prog 9 recElem mb (putE p R E).length (datOf (putE p R E)) ∧ Fr (fun k => k = mb) w w' := by
  have hkey : keyOf Tryz.prog 9 (.string p) = some (key p) := Go.WideMaps.keyOf_string_mk Tryz.underlying9 (by unfold maxLen; omega)
  have KM := hide (fun k => Kp.made h hown R k)
  have hlt := h.lt
  have hne : rb ≠ w.heap.size := by omega
  have r1 := h.ct 0 (by omega)
  have r2 := h.ct 1 (by omega)
  have r3 := h.ct 2 (by omega)
  have r4 := h.ct 3 (by omega)
  have r5 := h.ct 4 (by omega)
  have r6 := h.ct 5 (by omega)
  simp only [Nat.reduceAdd] at r1 r2 r3 r4 r5 r6
  clear h hown
  have MK := hide (fun V => mustBeKept_no R.text R.br R.bn R.ch R.kn cm V (by omega))
  rw [hkn] at MK
  clear hkn hbn
  go_enter Tryz.func56, Tryz.ntmps56
  go_wp2
  go_region_law (first
    | (go_simp; go_at_call 72; refine (MK.out _).mono ?_; rintro e w1 ⟨rfl, hb1⟩; dsimp only))
  all_goals
    have K1 := hide ((KM.out 1).more hb1)
    clear hb1 KM r1 r2 r3 r4 r5 r6
    obtain ⟨k0, k1, k2, k3, k4, k5, k6, k7, k8, k9, k10, k11, k12, k13, k14⟩ := K1.out.rc.cells
    have c7 := K1.out.rep.c7
    go_wp2
    go_region_law (first
      | (go_simp; go_at_call 53; refine (clone_any p _ hp).mono ?_; rintro e w2 ⟨rfl, hb2⟩; have K2 := hide (K1.out.more (Below.undrew hb2)); clear hb2; obtain ⟨q0, q1, q2, q3, q4, q5, q6, q7, q8, q9, q10, q11, q12, q13, q14⟩ := K2.out.rc.cells; have c7' := K2.out.rep.c7; obtain ⟨w3, hrun, hown3, hturn⟩ := K2.out.own.store lawS Tryz.underlying106 hl hkey (recElem_mk R); have hrun' : (muM 106 (.map (some mb)) (.string p) (.agg #[.string R.text, .int .i64 R.br, .int .i64 R.bn, .int .i64 (R.ch 0), .int .i64 (R.ch 1), .int .i64 (R.ch 2), .int .i64 (R.ch 3), .int .i64 (R.ch 4), .int .i64 (R.ch 5), .int .i64 (R.kn 0), .int .i64 (R.kn 1), .int .i64 (R.kn 2), .int .i64 (R.kn 3), .int .i64 (R.kn 4), .int .i64 (R.kn 5)])).run Tryz.prog w2 = .ok () w3 := hrun; have HO := hide hown3; have HT := hide hturn; clear hrun hown3 hturn; dsimp only))
  all_goals
    have ne := K2.out.rep.ne K2.out.own
    have F2 : Hid (Fr (fun k => k = mb) w w3) := (Fr.of_below K2.out.below).turned HT.out (.inl rfl)
    have R3 := hide (K2.out.rep.keep (turned_keep HT.out ne))
    have O3 := hide (ownsMap_tight (by have := HO.out; rw [datOf_put p R E hE] at this; exact this))
    go_wp2
    go_end0
    exact ⟨rfl, R3.out, O3.out, F2.out⟩


/-- the files that are there -/
def thereE (E : Recs) : Recs := E.filter (fun x => decide (0 < x.2.bn))
theorem thereE_len (E : Recs) : (thereE E).length ≤ E.length := List.length_filter_le _ _
theorem lf_there (E : Recs) : lf (Maps.has (datOf E)) (thereE E) = (thereE E).length := by
  unfold lf
  rw [filter_all]
  intro x hx
  rw [has_datOf]
  exact getE_mem (List.mem_filter.1 hx).1
theorem lf_there_step {E : Recs} (hE : RisingE E) {left : Lit → Bool} {x : ByteArray} {R : Rec} (hx : (x, R) ∈ E) (hl : left (key x) = true) : lf left (thereE E) = lf (fun z => left z && !z.sameKey (key x)) (thereE E) + (if 0 < R.bn then 1 else 0) := by
  by_cases h : 0 < R.bn
  · rw [if_pos h]
    exact lf_step (hE.sublist List.filter_sublist) (List.mem_filter.2 ⟨hx, by simpa using h⟩) hl
  · rw [if_neg h, Nat.add_zero]
    unfold lf
    congr 1
    apply List.filter_congr
    intro y hy
    obtain ⟨hy1, hy2⟩ := List.mem_filter.1 hy
    have hne : y.1 ≠ x := by
      intro e
      have : y = (x, R) := by
        have h1 : ∀ E : Recs, RisingE E → y ∈ E → (x, R) ∈ E → y = (x, R) := fun E hE ha hb => by
          induction E with
          | nil => simp at ha
          | cons z E ih =>
            obtain ⟨p1, p2⟩ := List.pairwise_cons.1 hE
            rcases List.mem_cons.1 ha with ha1 | ha2
            · rcases List.mem_cons.1 hb with hb1 | hb2
              · rw [ha1, hb1]
              · rw [← ha1] at p1
                have := slt_ne (p1 _ hb2); exact absurd e this
            · rcases List.mem_cons.1 hb with hb1 | hb2
              · rw [← hb1] at p1
                have := slt_ne (p1 _ ha2); exact absurd e.symm this
              · exact ih p2 ha2 hb2
        exact h1 E hE hy1 hx
      rw [this] at hy2
      simp at hy2
      exact h hy2
    show left (key y.1) = (left (key y.1) && !(key y.1).sameKey (key x))
    rw [same_key, seq_false hne]
    simp

set_option maxRecDepth 100000 in
set_option maxHeartbeats 800000 in
theorem pfiles_gen (rb s : Nat) (cm : Nat → Int) (mb : Nat) (w : World) (h : RepAt w rb s cm mb) (E : Recs) (hE : RisingE E) (hl : E.length < 100000000) (hown : w.ownsMap Tryz.prog 9 recElem mb E.length (datOf E)) :
    Calls Tryz.prog 69 #[.pointer (some ⟨rb, 0, none⟩)] w fun e w' => e = .returned (.int .i64 (thereE E).length) ∧ Below w.heap.size w w' := by
  have c7 := h.c7
  have hml := hown.lt
  clear h
  go_enter Tryz.func69, Tryz.ntmps69
  go_wp2_with (first
    | (at_range; refine wpList_range_own _ rfl _ 106 rfl 9 120 lawS Tryz.underlying106 _ mb E.length _ rfl hown ?_; intro w0 hrg0 hg0 hs0)
    | go_in)
  go_frame
  have hb0 : Hid (Below w.heap.size w w0) := (Below.refl _ _).grown hg0 (by simp) (fun j hj => by cases hj)
  go_loopw [3] (fun nv wr => ∃ (left : Lit → Bool) (cnt : Nat), wr.ranges Tryz.prog 9 recElem mb w.heap.size E.length (datOf E) left cnt ∧ (∃ k : Nat, nv = .int .i64 k ∧ k + lf left (thereE E) = (thereE E).length) ∧ Hid (Below w.heap.size w wr)) (fun _ wr => wr.rangeLeft mb w.heap.size)
  case atStart => exact ⟨_, _, hrg0, ⟨0, rfl, by rw [lf_there]; omega⟩, hb0⟩
  case round =>
    obtain ⟨left, cnt, hrg, ⟨k, rfl, hk⟩, hbw⟩ := hrel
    go_wp2_with (first
      | (at_next; refine wpList_next_ranges _ rfl _ rfl 9 lawS recElem Value.string recVal (fun key kl h => Maps.keyOf_string_inv Tryz.underlying9 h) recInv mb w.heap.size E.length (datOf E) left cnt rfl hrg ?_ ?_)
      | go_in)
    · intro hc0 hl0
      rw [lf_end hl0] at hk
      simp only [Nat.add_zero] at hk
      subst hk
      go_wp2
      go_ret
      exact ⟨rfl, hbw.out⟩
    · intro x R kl yd yp w1 cnt1 hkey hlk hv hat hrg1 hlt hg1 hs1 hen
      obtain ⟨rfl, _⟩ := key_of hkey
      obtain ⟨R', hm, hd⟩ := rec_at hat
      have hyd : yd = recDat R := by rw [recElem_mk] at hv; have := Option.some.inj hv; simp at this; exact this.1.symm
      have hbn : R.bn = R'.bn := recDat_bn (hyd.symm.trans hd)
      have LS := hide (lf_there_step hE hm hlk)
      rw [← hbn] at LS
      have HB1 : Hid (Below w.heap.size w w1) := hbw.out.grown hg1 hbw.out.size (fun j hj => by cases hj; exact Nat.le_refl _)
      have RG := hide hrg
      have RG1 := hide hrg1
      have hkl : k ≤ E.length := by have := thereE_len E; omega
      have hw : IntKind.i64.wrap ((k : Int) + 1) = (k + 1 : Nat) := by rw [IntKind.wrap_i64]; omega
      have HK := hide hk
      clear hkey hat hv hyd hd hm hg1 hrg hrg1 hown hk hbn
      by_cases hR : 0 < R.bn
      · have hd0 : decide (0 < R.bn) = true := by simp [hR]
        rw [if_pos hR] at LS
        simp only [recVal] at hen ⊢
        go_wp2_with (go_at_call 60; refine (isThere_any _ _ _ _ _ _ _ _ _ _).mono ?_; rintro e w2 ⟨rfl, hb2⟩)
        have HB2 : Hid (Below w.heap.size w w2) := (HB1.out.alloc HB1.out.size _).trans (hb2.mono (by have := HB1.out.size; simp; omega))
        have hsz1 := HB1.out.size
        have RG2 := hide (ranges_keep (w' := w2) RG1.out ((hb2.block _ (by simp; omega)).trans (Below.heap_alloc _ _ _ (by omega))) ((hb2.block _ (by have := RG1.out.lt; simp; omega)).trans (Below.heap_alloc _ _ _ RG1.out.lt)))
        clear hb2
        go_roundw
        case rel => exact ⟨_, cnt1, RG2.out, ⟨k + 1, by first | rfl | go_num, by have := HK.out; have := LS.out; omega⟩, HB2⟩
        case measure => rw [RG2.out.left_eq, RG.out.left_eq]; exact hlt
      · have hd0 : decide (0 < R.bn) = false := by simp; omega
        rw [if_neg hR] at LS
        simp only [recVal] at hen ⊢
        go_wp2_with (go_at_call 60; refine (isThere_any _ _ _ _ _ _ _ _ _ _).mono ?_; rintro e w2 ⟨rfl, hb2⟩)
        have HB2 : Hid (Below w.heap.size w w2) := (HB1.out.alloc HB1.out.size _).trans (hb2.mono (by have := HB1.out.size; simp; omega))
        have hsz1 := HB1.out.size
        have RG2 := hide (ranges_keep (w' := w2) RG1.out ((hb2.block _ (by simp; omega)).trans (Below.heap_alloc _ _ _ (by omega))) ((hb2.block _ (by have := RG1.out.lt; simp; omega)).trans (Below.heap_alloc _ _ _ RG1.out.lt)))
        clear hb2
        go_roundw
        case rel => exact ⟨_, cnt1, RG2.out, ⟨k, rfl, by have := HK.out; have := LS.out; omega⟩, HB2⟩
        case measure => rw [RG2.out.left_eq, RG.out.left_eq]; exact hlt

end Go.Proofs.YtaelaldmibgibaaGreat
