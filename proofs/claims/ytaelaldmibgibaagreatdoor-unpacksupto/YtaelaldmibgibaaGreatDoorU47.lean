/- The program's isWithinItsCounts. The program's ReadLines. The program's ReadLines: the walk. The program's netOf: what stands at each round. The program's netOf. -/
import Derived.Test.YtaelaldmibgibaaGreatDoorU43
import Derived.Test.YtaelaldmibgibaaGreatDoorU44
import Derived.Test.YtaelaldmibgibaaGreatDoorU45
import Derived.Test.YtaelaldmibgibaaGreatDoorU24

set_option linter.unusedVariables false
set_option linter.unusedSimpArgs false

namespace Go.Proofs.YtaelaldmibgibaaGreatDoor
open Go.RowKit Go.Lib Go.Maps

/-- a net of the program's, of any replicas -/
structure UNet (w : World) (nb pb : Nat) (rbs mbs : List Nat) (m : List DR) : Prop where
  net : NetAt w nb m.length pb rbs
  ml : mbs.length = m.length
  rep : ∀ (r rb mb : Nat) d, rbs[r]? = some rb → mbs[r]? = some mb → m[r]? = some d → Rp w rb r (lfn d.com) mb (toE d.recs)
  lt : nb < w.heap.size ∧ pb < w.heap.size
theorem UNet.below {w w' : World} {nb pb : Nat} {rbs mbs : List Nat} {m : List DR} (h : UNet w nb pb rbs mbs m) (hb : Below w.heap.size w w') : UNet w' nb pb rbs mbs m :=
  ⟨h.net.keep (hb.block _ h.lt.1) (hb.block _ h.lt.2), h.ml, fun r rb mb d h1 h2 h3 => (h.rep r rb mb d h1 h2 h3).below hb, by have := h.lt; have := hb.size; omega⟩
theorem UNet.at {w : World} {nb pb : Nat} {rbs mbs : List Nat} {m : List DR} (h : UNet w nb pb rbs mbs m) (r : Nat) (hr : r < m.length) : ∃ rb mb d, m[r]? = some d ∧ rbs[r]? = some rb ∧ w.cell? ⟨pb, r, none⟩ = some (.pointer (some ⟨rb, 0, none⟩)) ∧ Rp w rb r (lfn d.com) mb (toE d.recs) := by
  have h1 : r < rbs.length := by rw [h.net.len]; exact hr
  have h2 : r < mbs.length := by rw [h.ml]; exact hr
  exact ⟨rbs[r], mbs[r], m[r], List.getElem?_eq_getElem hr, List.getElem?_eq_getElem h1, h.net.row r _ (List.getElem?_eq_getElem h1), h.rep r _ _ _ (List.getElem?_eq_getElem h1) (List.getElem?_eq_getElem h2) (List.getElem?_eq_getElem hr)⟩

/-- the counts under way -/
structure CT (w wr : World) (C : Nat → Int) : Prop where
  b : ∀ j, j < 6 → wr.cell? ⟨w.heap.size, j, none⟩ = some (.int .i64 (C j))
  fz : ∀ j, wr.frozen? ⟨w.heap.size, j, none⟩ = false
  bel : Below w.heap.size w wr
  lt : w.heap.size < wr.heap.size
theorem CT.more {w V V' : World} {C : Nat → Int} (h : CT w V C) (hb : Below V.heap.size V V') : CT w V' C :=
  ⟨fun j hj => (hb.cell (p := ⟨w.heap.size, j, none⟩) h.lt).trans (h.b j hj), fun j => (hb.frozen (p := ⟨w.heap.size, j, none⟩) h.lt).trans (h.fz j), h.bel.trans (hb.mono h.bel.size), Nat.lt_of_lt_of_le h.lt hb.size⟩
theorem CT.put {w V : World} {C : Nat → Int} (h : CT w V C) (i : Nat) (hi : i < 6) (x : Int) : CT w (V.setCell ⟨w.heap.size, i, none⟩ (.int .i64 x)) (fun j => if j = i then x else C j) := by
  refine ⟨fun j hj => ?_, fun j => ?_, ?_, ?_⟩
  · by_cases e : j = i
    · subst e
      rw [if_pos rfl]
      exact World.cell?_setCell_same _ _ _ (h.b j hj)
    · rw [if_neg e]
      exact (World.cell?_setCell_other _ _ _ _ (by simp <;> omega)).trans (h.b j hj)
  · rw [World.frozen?_setCell]; exact h.fz j
  · have := Below.setCells h.bel (Nat.le_refl w.heap.size) [.int .i64 x] i
    exact this
  · simpa [World.setCell] using h.lt
theorem toE_all (D : Drs) (C : Nat → Int) : (toE D).all (fun x => leB x.2.kn C) = D.all (fun y => leB (lfn y.2.known) C) := by
  unfold toE
  rw [List.all_map]
  rfl

/-- kept from the walk's own way -/
def fdM (x : Value) : Sem Value := Instr.field 166 x 0
theorem fdEq (x : Value) : Instr.field 166 x 0 = fdM x := rfl
theorem run_fd (a b c : Int) (w : World) : (fdM (.agg #[.int .i64 a, .int .i64 b, .int .i64 c])).run Tryz.prog w = .ok (.int .i64 a) w := by
  unfold fdM
  simp [Instr.field, run_underlying Tryz.underlying166, asAgg, part, isAgg, run_underlying Tryz.underlying3]
attribute [local go_sem ↓] fdEq
attribute [local go_sem] run_fd
set_option maxRecDepth 100000 in
set_option maxHeartbeats 2000000 in
theorem isWithinItsCounts_any (nb pb : Nat) (rbs mbs : List Nat) (m : List DR) (w : World) (h : UNet w nb pb rbs mbs m) (h1 : 1 ≤ m.length) (h6 : m.length ≤ 6) (hr : ∀ d ∈ m, d.recs.length < 100000000) :
    Calls Tryz.prog 82 #[.pointer (some ⟨nb, 0, none⟩)] w fun e w' => e = .returned (.bool (m.all (inB (cntF m)))) ∧ Below w.heap.size w w' := by
  obtain ⟨cap, hb⟩ := h.net.blk
  have hn6 := h.net.n6
  have C0 : Hid (CT w (w.alloc (.cells #[.int .i64 0, .int .i64 0, .int .i64 0, .int .i64 0, .int .i64 0, .int .i64 0] 186)) (fun j => if j < 0 then cntF m j else 0)) := ⟨fun j hj => by rw [if_neg (by omega)]; exact built6 w (fun _ => 0) _ j hj, fun j => by simp only [World.frozen?, heap_alloc_new]; simp, (Below.refl _ _).alloc (Nat.le_refl _) _, by simp⟩
  have c0 : ∀ V, Below w.heap.size w V → V.cell? ⟨nb, 0, none⟩ = some (.slice (some ⟨pb, 0, none⟩) m.length cap) := fun V hV => by
    rw [hV.cell (p := ⟨nb, 0, none⟩) h.lt.1]
    simp [World.cell?, hb]
  have HC := hide c0
  have c00 := c0 _ C0.out.bel
  have AT : Hid (∀ V, Below w.heap.size w V → ∀ r, r < m.length → ∃ rb mb d, m[r]? = some d ∧ V.cell? ⟨pb, r, none⟩ = some (.pointer (some ⟨rb, 0, none⟩)) ∧ Rp V rb r (lfn d.com) mb (toE d.recs)) := fun V hV r hr => by
    obtain ⟨rb, mb, d, a1, _, a3, a4⟩ := (h.below hV).at r hr
    exact ⟨rb, mb, d, a1, a3, a4⟩
  have HN := hide hr
  generalize hn : m.length = n at *
  clear h hb c0 hr
  go_enter Tryz.func82, Tryz.ntmps82
  go_wp2
  go_loopw [13] (fun iv wr => ∃ i : Nat, i ≤ n ∧ iv = .int .i64 i ∧ Hid (CT w wr (fun j => if j < i then cntF m j else 0))) (fun iv _ => n - (intOf iv).toNat)
  case atStart => exact ⟨0, Nat.zero_le _, rfl, C0⟩
  case round =>
    obtain ⟨i, hi, rfl, hC⟩ := hrel
    clear C0 c00
    by_cases hlt : i < n
    · obtain ⟨rb, mb, d, hd, hc, hR⟩ := AT.out wr hC.out.bel i hlt
      have LK := hide (plook_gen rb i (lfn d.com) mb (toE d.recs) wr hR (by rw [toE_len]; exact HN.out d (List.mem_of_getElem? hd)))
      have hcnt : lfn d.com i = cntF m i := by unfold cntF; rw [hd]
      rw [hcnt] at LK
      generalize (thereE (toE d.recs)).length = z1 at *
      generalize (toE d.recs).length = z2 at *
      have hi6 : (i : Int) < 6 := by omega
      have hi0 : (0 : Int) ≤ (i : Int) := by omega
      clear hR hcnt
      go_wp2_with (go_at_call 148; refine LK.out.mono ?_; rintro e w2 ⟨rfl, hb2⟩; have C2 := hide (hC.out.more hb2); clear hb2; have ci := C2.out.b i (by omega); have fi := C2.out.fz i)
      have C3 := hide (C2.out.put i (by omega) (cntF m i))
      have EQ : (fun j => if j = i then cntF m i else if j < i then cntF m j else 0) = (fun j => if j < i + 1 then cntF m j else 0) := by
        funext j
        by_cases e : j = i
        · subst e; simp
        · by_cases e2 : j < i
          · simp [e, e2]; omega
          · simp [e, e2]; omega
      rw [EQ] at C3
      go_roundw
      case rel => exact ⟨i + 1, by omega, by go_num, C3⟩
      case measure => simp [intOf]; omega
    · have ei : i = n := by omega
      subst ei
      have C1 : Hid (CT w wr (cntF m)) := by
        have : (fun j => if j < i then cntF m j else 0) = cntF m := by
          funext j
          by_cases e : j < i
          · rw [if_pos e]
          · rw [if_neg e]; unfold cntF; rw [List.getElem?_eq_none (by omega)]
        rw [← this]
        exact hC
      have c01 := HC.out wr C1.out.bel
      clear hC
      go_wp2
      go_loopw [29] (fun iv wr2 => ∃ k : Nat, k ≤ i ∧ iv = .int .i64 k ∧ Hid (CT w wr2 (cntF m)) ∧ Hid ((m.take k).all (inB (cntF m)) = true)) (fun iv _ => i - (intOf iv).toNat)
      case atStart => exact ⟨0, Nat.zero_le _, rfl, C1, rfl⟩
      case round =>
        obtain ⟨k, hk, rfl, hC, hA⟩ := hrel
        clear C1 c01
        have bC := hC.out.b
        by_cases hlt2 : k < i
        · obtain ⟨rb, mb, d, hd, hc, hR⟩ := AT.out _ hC.out.bel k hlt2
          have IW := hide (IsWithin_any rb k (lfn d.com) mb (toE d.recs) (cntF m) _ hR)
          have ez : ((toE d.recs).all (fun x => leB x.2.kn (cntF m)) && leB (lfn d.com) (cntF m)) = inB (cntF m) d := by rw [toE_all]; rfl
          rw [ez] at IW
          have b0 := bC 0 (by omega)
          have b1 := bC 1 (by omega)
          have b2 := bC 2 (by omega)
          have b3 := bC 3 (by omega)
          have b4 := bC 4 (by omega)
          have b5 := bC 5 (by omega)
          clear hR ez bC
          cases hz : inB (cntF m) d with
          | false =>
            have HA : Hid (m.all (inB (cntF m)) = false) := by
              unfold Hid
              rw [List.all_eq_false]
              exact ⟨d, List.mem_of_getElem? hd, by rw [hz]; simp⟩
            rw [hz] at IW
            clear hz hd
            go_wp2_with (go_at_call 149; refine IW.out.mono ?_; rintro e w2 ⟨rfl, hb2⟩; have C2 := hide (hC.out.more hb2); clear hb2)
            go_ret
            exact ⟨by rw [HA.out]; rfl, C2.out.bel⟩
          | true =>
            have HA : Hid ((m.take (k + 1)).all (inB (cntF m)) = true) := by
              unfold Hid
              rw [List.take_add_one, hd, Option.toList_some, List.all_append, hA.out]
              simp [hz]
            rw [hz] at IW
            clear hz hd
            go_wp2_with (go_at_call 149; refine IW.out.mono ?_; rintro e w2 ⟨rfl, hb2⟩; have C2 := hide (hC.out.more hb2); clear hb2)
            go_roundw
            case rel => exact ⟨k + 1, by omega, by go_num, C2, HA⟩
            case measure => simp [intOf]; omega
        · have ek : k = i := by omega
          subst ek
          have HA : Hid (m.all (inB (cntF m)) = true) := by
            have := hA.out
            rw [← hn, List.take_length] at this
            exact this
          go_wp2
          go_ret
          exact ⟨by rw [HA.out]; rfl, hC.out.bel⟩

end Go.Proofs.YtaelaldmibgibaaGreatDoor

namespace Go.Proofs.YtaelaldmibgibaaGreatDoor
open Go.RowKit Go.Lib Go.Maps

attribute [local go_sem ↓] stTime
attribute [local go_sem] stTime2

theorem toE_there (D : Drs) (hD : ∀ y ∈ D, y.2.born ∧ (y.2.there = false → y.2.num = 0)) : (thereE (toE D)).length = filesD D := by
  unfold thereE toE filesD
  rw [List.filter_map, List.length_map]
  congr 1
  apply List.filter_congr
  intro y hy
  obtain ⟨h1, h2⟩ := hD y hy
  simp only [Function.comp, toRec]
  cases ht : y.2.there with
  | true => have := h1 ht; simp; omega
  | false => have := h2 ht; simp; omega
/-- what recsR reads is well made -/
theorem recsR_made (n s : Nat) (hn : 1 ≤ n) (h6 : n ≤ 6) (cm : Nat → Int) : ∀ (f : Nat) (t : Bs) (last : ByteArray) (x : Bs × Drs), recsR n s cm f t last = some x → (∀ y ∈ x.2, y.2.born ∧ (y.2.there = false → y.2.num = 0)) ∧ (∀ y ∈ x.2, slt last y.1 = true) ∧ x.2.Pairwise (fun a b => slt a.1 b.1 = true) ∧ x.2.length + x.1.length ≤ t.length := by
  intro f
  induction f with
  | zero => intro t last x h; cases h
  | succ f ih =>
    intro t last x h
    unfold recsR at h
    by_cases h3 : (fieldsR t).length < 3
    · rw [if_pos h3] at h
      cases h
      exact ⟨by simp, by simp, List.Pairwise.nil, by simp⟩
    · rw [if_neg h3] at h
      obtain ⟨d, hd, h⟩ := Option.bind_eq_some_iff.1 h
      split at h
      · rename_i hc
        simp only [Bool.and_eq_true] at hc
        obtain ⟨y, hy, rfl⟩ := Option.map_eq_some_iff.1 h
        obtain ⟨i1, i2, i3, i4⟩ := ih _ _ y hy
        obtain ⟨r1, r2, _⟩ := (recR_iff n hn h6 _ d).1 hd
        have hr := rest_sh (fields_nil h3)
        refine ⟨fun z hz => ?_, fun z hz => ?_, ?_, by simp; omega⟩
        · rcases List.mem_cons.1 hz with rfl | hz
          · exact ⟨r2, fun q => (r1.none q).2.1⟩
          · exact i1 z hz
        · rcases List.mem_cons.1 hz with rfl | hz
          · exact hc.1.2
          · exact slt_trans hc.1.2 (i2 z hz)
        · rw [List.pairwise_cons]
          exact ⟨fun z hz => i2 z hz, i3⟩
      · cases h

/-- what ReadLines answers -/
def LAns (A : Option (Bs × DR)) (w' : World) (s lo : Nat) (e : Ending) : Prop := match A with
  | none => e = .returned (.tuple #[.pointer none, .string ⟨#[]⟩, .bool false])
  | some y => ∃ rb mb, e = .returned (.tuple #[.pointer (some ⟨rb, 0, none⟩), .string (ofBs y.1), .bool true]) ∧ Rp w' rb s (lfn y.2.com) mb (toE y.2.recs) ∧ lo ≤ rb ∧ lo ≤ mb

end Go.Proofs.YtaelaldmibgibaaGreatDoor

namespace Go.Proofs.YtaelaldmibgibaaGreatDoor
open Go.RowKit Go.Lib Go.Maps

/-- a new replica of the program's -/
structure RL (w W : World) (rb s mb : Nat) (cm : Nat → Int) (E : Recs) : Prop where
  rp : Rp W rb s cm mb E
  bel : Below w.heap.size w W
  lr : w.heap.size ≤ rb
  lm : w.heap.size ≤ mb
section
variable {w W W' : World} {rb s mb : Nat} {cm : Nat → Int} {E E' : Recs}
theorem RL.more (h : RL w W rb s mb cm E) (hb : Below W.heap.size W W') : RL w W' rb s mb cm E := ⟨h.rp.below hb, h.bel.trans (hb.mono h.bel.size), h.lr, h.lm⟩
theorem RL.time (h : RL w W rb s mb cm E) (f : Nat → Int) : RL w (W.setCells rb 1 [.int .i64 (f 0), .int .i64 (f 1), .int .i64 (f 2), .int .i64 (f 3), .int .i64 (f 4), .int .i64 (f 5)]) rb s mb f E :=
  ⟨⟨h.rp.rep.setTime f, ownsMap_keep h.rp.own (heap_setCells_other _ _ _ _ _ (fun e => h.rp.rep.ne h.rp.own e.symm)), h.rp.ris⟩, Below.setCells h.bel h.lr _ _, h.lr, h.lm⟩
theorem RL.fr (h : RL w W rb s mb cm E) (hr : Rp W' rb s cm mb E') (hf : Fr (fun k => k = mb) W W') : RL w W' rb s mb cm E' :=
  ⟨hr, h.bel.trans ((hf.mono (T := fun k => w.heap.size ≤ k) (fun k _ e => by rw [e]; exact h.lm)).below h.bel.size), h.lr, h.lm⟩
theorem RL.frb (h : RL w W rb s mb cm E) (hf : Fr (fun k => k = mb) W W') : Below w.heap.size w W' :=
  h.bel.trans ((hf.mono (T := fun k => w.heap.size ≤ k) (fun k _ e => by rw [e]; exact h.lm)).below h.bel.size)
end

attribute [local go_sem ↓] stTime
attribute [local go_sem] stTime2
set_option maxRecDepth 100000 in
set_option maxHeartbeats 2000000 in
theorem ReadLines_any (t : ByteArray) (ht : t.size ≤ 10000000) (s : Nat) (hs : s < 6) (n : Nat) (h1 : 1 ≤ n) (h6 : n ≤ 6) (w : World) (hg : Glob w) :
    Calls Tryz.prog 81 #[.string t, .int .i64 s, .int .i64 n] w fun e w' => LAns (repR n s (bs t)) w' s w.heap.size e ∧ Below w.heap.size w w' := by
  have CL := hide (cutLine_cap t ht w hg)
  have NO : Hid (repR n s (bs t) = none → ∀ W, Below w.heap.size w W → LAns (repR n s (bs t)) W s w.heap.size (.returned (.tuple #[.pointer none, .string ⟨#[]⟩, .bool false])) ∧ Below w.heap.size w W) := fun e W hW => by
    rw [e]
    exact ⟨rfl, hW⟩
  by_cases hl : (fieldsR (bs t)).length = 2
  · obtain ⟨a, b, hf⟩ : ∃ a b, fieldsR (bs t) = [a, b] := by
      match hq : fieldsR (bs t), hl with
      | [a, b], _ => exact ⟨a, b, rfl⟩
    have er : repR n s (bs t) = if a = replW then (timeR n b).bind fun c => (recsR n s (lfn c) ((restR (bs t)).length + 1) (restR (bs t)) ⟨#[]⟩).bind fun x => if filesD x.2 ≤ 20 then some (x.1, ⟨c, x.2⟩) else none else none := by
      unfold repR
      rw [hf]
    have hsz : ∀ q ∈ [a, b], q.length ≤ 10000000 := fun q hq => by
      have h1 := sepBy_part 32 (fieldsR (bs t)) q (by rw [hf]; exact hq)
      rw [fields_join] at h1
      have h2 := (cut_size 10 (bs t)).1
      rw [bs_len] at h2
      unfold lineR at h1
      omega
    have hrs : (ofBs (restR (bs t))).size ≤ 10000000 := by
      rw [ofBs_size]
      have h2 := (cut_size 10 (bs t)).2
      rw [bs_len] at h2
      unfold restR
      omega
    rw [hf] at CL
    have FP : Hid (∀ (W : World) (B : Nat), Flds W B [a, b] → W.cell? ⟨B, 0, none⟩ = some (.string (ofBs a)) ∧ W.cell? ⟨B, 1, none⟩ = some (.string (ofBs b))) := fun W B hF => ⟨hF.pc 0 a rfl, hF.pc 1 b rfl⟩
    have HQ : Hid (((ofBs a).toList == [114, 101, 112, 108, 105, 99, 97]) = decide (a = replW)) := by
      unfold Hid
      rw [ByteArray.toList_eq]
      show ((bs (ofBs a)) == replW) = _
      rw [bs_ofBs]
      by_cases e : a = replW
      · rw [e]; decide
      · rw [decide_eq_false e]; simpa using e
    simp only [List.length_cons, List.length_nil] at CL
    by_cases ha : a = replW
    · rw [if_pos ha] at er
      have hq : ((ofBs a).toList == [114, 101, 112, 108, 105, 99, 97]) = true := HQ.out.trans (decide_eq_true ha)
      have NW := hide (fun W => pnew_any s hs W)
      have RTm : Hid (∀ W, Below w.heap.size w W → Calls Tryz.prog 146 #[.string (ofBs b), .int .i64 n] W fun e w' => e = .returned (.tuple #[timeVal (lfn ((timeR n b).getD [])), .bool (timeR n b).isSome]) ∧ Below W.heap.size W w') := fun W hW => by
        have := ReadTime_any (ofBs b) (by rw [ofBs_size]; exact hsz b (by simp)) n h1 h6 W (hg.below hW)
        rw [bs_ofBs] at this
        exact this
      unfold timeVal at RTm
      have NL : Hid (∀ w1 w2 : World, Below w.heap.size w w1 → PRep w2 (w1.heap.size + 1) s w1.heap.size 0 [] → Below w1.heap.size w1 w2 → RL w w2 (w1.heap.size + 1) s w1.heap.size (tf s 0) []) := fun w1 w2 hb hp hb2 => ⟨⟨hp.rep, hp.own, hp.ris⟩, hb.trans (hb2.mono hb.size), by have := hb.size; omega, hb.size⟩
      have FK : Hid (∀ (w1 w2 : World) (B : Nat), Flds w1 B [a, b] → Below w1.heap.size w1 w2 → w2.cell? ⟨B, 1, none⟩ = some (.string (ofBs b))) := fun w1 w2 B hF hb => (hF.below hb).pc 1 b rfl
      cases htm : timeR n b with
      | none =>
        rw [htm] at er RTm
        have NO' := hide (NO.out er)
        simp only [Option.isSome_none] at RTm
        generalize lfn ((none : Option (List Nat)).getD []) = f at *
        generalize ofBs (restR (bs t)) = rs at *
        generalize repR n s (bs t) = RR at *
        clear hg NO er HQ
        generalize ofBs a = sa at *
        generalize ofBs b = sb at *
        go_enter Tryz.func81, Tryz.ntmps81
        go_wp2_with (first
          | (go_at_call 145; refine CL.out.mono ?_; rintro e w1 ⟨B, C, rfl, hF, hB, hb1, hcp⟩; have HB := hide hb1; have HF := hide hF; obtain ⟨f0, f1⟩ := FP.out w1 B hF; clear hF hB hb1 hcp)
          | (go_at_call 48; refine (NW.out _).mono ?_; rintro e w2 ⟨rfl, hp2, hb2, hz2⟩; have L2 := hide (NL.out w1 w2 HB.out hp2 hb2); have f1' := FK.out w1 w2 B HF.out hb2; clear hp2 hb2 hz2)
          | (go_at_call 146; refine (RTm.out _ L2.out.bel).mono ?_; rintro e w3 ⟨rfl, hb3⟩; have L3 := hide (L2.out.more hb3); clear hb3; have th3 := L3.out.rp.rep.there; have L4 := hide (L3.out.time f)))
        go_ret3
        exact NO'.out _ L4.out.bel
      | some c =>
        rw [htm] at er RTm
        simp only [Option.isSome_some, Option.getD_some] at RTm
        have RD : Hid (∀ (W : World) (rb mb : Nat), RL w W rb s mb (lfn c) [] → Calls Tryz.prog 147 #[.pointer (some ⟨rb, 0, none⟩), .string (ofBs (restR (bs t))), .int .i64 n] W fun e w' => RAns (recsR n s (lfn c) ((restR (bs t)).length + 1) (restR (bs t)) ⟨#[]⟩) w' rb s (lfn c) mb e ∧ Fr (fun k => k = mb) W w') := fun W rb mb hL => by
          have := readRecords_any rb s (lfn c) mb (ofBs (restR (bs t))) hrs n h1 h6 W (hg.below hL.bel) hL.rp (by have := hg.sz; have := hL.lm; omega)
          rw [ofBs_size, bs_ofBs] at this
          exact this
        simp only [Option.bind_some] at er
        cases hrc : recsR n s (lfn c) ((restR (bs t)).length + 1) (restR (bs t)) ⟨#[]⟩ with
        | none =>
          rw [hrc] at er RD
          have NO' := hide (NO.out er)
          generalize lfn c = f at *
          generalize ofBs (restR (bs t)) = rs at *
          generalize repR n s (bs t) = RR at *
          clear hg NO er HQ hrc
          generalize ofBs a = sa at *
          generalize ofBs b = sb at *
          go_enter Tryz.func81, Tryz.ntmps81
          go_wp2_with (first
            | (go_at_call 145; refine CL.out.mono ?_; rintro e w1 ⟨B, C, rfl, hF, hB, hb1, hcp⟩; have HB := hide hb1; have HF := hide hF; obtain ⟨f0, f1⟩ := FP.out w1 B hF; clear hF hB hb1 hcp)
            | (go_at_call 48; refine (NW.out _).mono ?_; rintro e w2 ⟨rfl, hp2, hb2, hz2⟩; have L2 := hide (NL.out w1 w2 HB.out hp2 hb2); have f1' := FK.out w1 w2 B HF.out hb2; clear hp2 hb2 hz2)
            | (go_at_call 146; refine (RTm.out _ L2.out.bel).mono ?_; rintro e w3 ⟨rfl, hb3⟩; have L3 := hide (L2.out.more hb3); clear hb3; have th3 := L3.out.rp.rep.there; have L4 := hide (L3.out.time f))
            | (go_at_call 147; refine (RD.out _ _ _ L4.out).mono ?_; rintro e w5 ⟨hA, hf5⟩; obtain rfl := hA; have F5 := hide (L4.out.frb hf5); clear hf5))
          go_ret3
          exact NO'.out _ F5.out
        | some x =>
          obtain ⟨R, D⟩ := x
          rw [hrc] at er RD
          simp only [Option.bind_some] at er
          obtain ⟨m1, m2, m3, m4⟩ := recsR_made n s h1 h6 (lfn c) _ _ _ _ hrc
          simp only at m1 m2 m3 m4
          have hDl : D.length ≤ 10000000 := by rw [ofBs_size] at hrs; omega
          have FI : Hid (∀ (W : World) (rb mb : Nat), RL w W rb s mb (lfn c) (toE D) → Calls Tryz.prog 129 #[.pointer (some ⟨rb, 0, none⟩)] W fun e w' => e = .returned (.int .i64 (filesD D)) ∧ RL w w' rb s mb (lfn c) (toE D)) := fun W rb mb hL => by
            have := pfiles_gen rb s (lfn c) mb W hL.rp.rep (toE D) hL.rp.ris (by rw [toE_len]; omega) hL.rp.own
            rw [toE_there D m1] at this
            exact this.mono fun e w' h => ⟨h.1, hL.more h.2⟩
          by_cases h20 : filesD D ≤ 20
          · rw [if_pos h20] at er
            have d20 : decide ((20 : Int) < (filesD D : Int)) = false := by simp; omega
            have YES : Hid (∀ (W : World) (rb mb : Nat), RL w W rb s mb (lfn c) (toE D) → LAns (repR n s (bs t)) W s w.heap.size (.returned (.tuple #[.pointer (some ⟨rb, 0, none⟩), .string (ofBs R), .bool true])) ∧ Below w.heap.size w W) := fun W rb mb hL => by
              rw [er]
              exact ⟨⟨rb, mb, rfl, hL.rp, hL.lr, hL.lm⟩, hL.bel⟩
            generalize filesD D = F at *
            generalize lfn c = f at *
            generalize ofBs (restR (bs t)) = rs at *
            generalize repR n s (bs t) = RR at *
            clear hg NO er HQ hrc m1 m2 m3 m4
            generalize ofBs a = sa at *
            generalize ofBs b = sb at *
            go_enter Tryz.func81, Tryz.ntmps81
            go_wp2_with (first
              | (go_at_call 145; refine CL.out.mono ?_; rintro e w1 ⟨B, C, rfl, hF, hB, hb1, hcp⟩; have HB := hide hb1; have HF := hide hF; obtain ⟨f0, f1⟩ := FP.out w1 B hF; clear hF hB hb1 hcp)
              | (go_at_call 48; refine (NW.out _).mono ?_; rintro e w2 ⟨rfl, hp2, hb2, hz2⟩; have L2 := hide (NL.out w1 w2 HB.out hp2 hb2); have f1' := FK.out w1 w2 B HF.out hb2; clear hp2 hb2 hz2)
              | (go_at_call 146; refine (RTm.out _ L2.out.bel).mono ?_; rintro e w3 ⟨rfl, hb3⟩; have L3 := hide (L2.out.more hb3); clear hb3; have th3 := L3.out.rp.rep.there; have L4 := hide (L3.out.time f))
              | (go_at_call 147; refine (RD.out _ _ _ L4.out).mono ?_; rintro e w5 ⟨hA, hf5⟩; obtain ⟨rfl, hr5⟩ := hA; have L5 := hide (L4.out.fr hr5 hf5); clear hf5 hr5)
              | (go_at_call 129; refine (FI.out _ _ _ L5.out).mono ?_; rintro e w6 ⟨rfl, hl6⟩; have L6 := hide hl6; clear hl6))
            go_ret3
            exact YES.out _ _ _ L6.out
          · rw [if_neg h20] at er
            have NO' := hide (NO.out er)
            have d20 : decide ((20 : Int) < (filesD D : Int)) = true := by simp; omega
            generalize filesD D = F at *
            generalize lfn c = f at *
            generalize ofBs (restR (bs t)) = rs at *
            generalize repR n s (bs t) = RR at *
            clear hg NO er HQ hrc m1 m2 m3 m4
            generalize ofBs a = sa at *
            generalize ofBs b = sb at *
            go_enter Tryz.func81, Tryz.ntmps81
            go_wp2_with (first
              | (go_at_call 145; refine CL.out.mono ?_; rintro e w1 ⟨B, C, rfl, hF, hB, hb1, hcp⟩; have HB := hide hb1; have HF := hide hF; obtain ⟨f0, f1⟩ := FP.out w1 B hF; clear hF hB hb1 hcp)
              | (go_at_call 48; refine (NW.out _).mono ?_; rintro e w2 ⟨rfl, hp2, hb2, hz2⟩; have L2 := hide (NL.out w1 w2 HB.out hp2 hb2); have f1' := FK.out w1 w2 B HF.out hb2; clear hp2 hb2 hz2)
              | (go_at_call 146; refine (RTm.out _ L2.out.bel).mono ?_; rintro e w3 ⟨rfl, hb3⟩; have L3 := hide (L2.out.more hb3); clear hb3; have th3 := L3.out.rp.rep.there; have L4 := hide (L3.out.time f))
              | (go_at_call 147; refine (RD.out _ _ _ L4.out).mono ?_; rintro e w5 ⟨hA, hf5⟩; obtain ⟨rfl, hr5⟩ := hA; have L5 := hide (L4.out.fr hr5 hf5); clear hf5 hr5)
              | (go_at_call 129; refine (FI.out _ _ _ L5.out).mono ?_; rintro e w6 ⟨rfl, hl6⟩; have L6 := hide hl6; clear hl6))
            go_ret3
            exact NO'.out _ L6.out.bel
    · rw [if_neg ha] at er
      have NO' := hide (NO.out er)
      have hq : ((ofBs a).toList == [114, 101, 112, 108, 105, 99, 97]) = false := HQ.out.trans (decide_eq_false ha)
      generalize ofBs (restR (bs t)) = rs at *
      generalize repR n s (bs t) = RR at *
      clear hg NO er HQ
      generalize ofBs a = sa at *
      generalize ofBs b = sb at *
      go_enter Tryz.func81, Tryz.ntmps81
      go_wp2_with (go_at_call 145; refine CL.out.mono ?_; rintro e w1 ⟨B, C, rfl, hF, hB, hb1, hcp⟩; have HB := hide hb1; have HF := hide hF; obtain ⟨f0, f1⟩ := FP.out w1 B hF; clear hF hB hb1 hcp)
      go_ret3
      exact NO'.out _ HB.out
  · have er : repR n s (bs t) = none := by
      unfold repR
      split
      · rename_i a b hf; rw [hf] at hl; simp at hl
      · rfl
    have NO' := hide (NO.out er)
    have d2 : (((fieldsR (bs t)).length : Int) != 2) = true := by simp; omega
    have d3 : ¬ ((fieldsR (bs t)).length : Int) = 2 := by omega
    generalize (fieldsR (bs t)).length = L at *
    generalize fieldsR (bs t) = fs at *
    generalize ofBs (restR (bs t)) = rs at *
    generalize repR n s (bs t) = RR at *
    clear hg NO er
    go_enter Tryz.func81, Tryz.ntmps81
    go_wp2_with (go_at_call 145; refine CL.out.mono ?_; rintro e w1 ⟨B, C, rfl, hF, hB, hb1, hcp⟩; have HB := hide hb1; clear hF hB hb1 hcp)
    go_ret3
    exact NO'.out _ HB.out

end Go.Proofs.YtaelaldmibgibaaGreatDoor

namespace Go.Proofs.YtaelaldmibgibaaGreatDoor
open Go.RowKit Go.Lib Go.Maps

theorem repR_len (n s : Nat) (hn : 1 ≤ n) (h6 : n ≤ 6) (t : Bs) (x : Bs × DR) (h : repR n s t = some x) : x.1.length ≤ t.length ∧ x.2.recs.length ≤ t.length := by
  unfold repR at h
  split at h
  · split at h
    · obtain ⟨c, _, h⟩ := Option.bind_eq_some_iff.1 h
      obtain ⟨y, hy, h⟩ := Option.bind_eq_some_iff.1 h
      split at h
      · cases h
        have := (recsR_made n s hn h6 _ _ _ _ _ hy).2.2.2
        have h2 := (cut_size 10 t).2
        unfold restR at this
        simp only
        omega
      · cases h
    · cases h
  · cases h

/-- while replicas are read: the net, whose first replicas are read -/
structure NU (w wr : World) (nb pb n : Nat) (rbs mbs : List Nat) (acc : List DR) : Prop where
  bel : Below w.heap.size w wr
  blk : ∃ cap, wr.heap[nb]? = some (.cells #[.slice (some ⟨pb, 0, none⟩) n cap] 97 (0, 0))
  here : ∀ j, j < n → (wr.cell? ⟨pb, j, none⟩).isSome = true
  fz : ∀ j, wr.frozen? ⟨pb, j, none⟩ = false
  gp : w.heap.size ≤ pb
  lp : pb < wr.heap.size
  ne : nb ≠ pb
  rl : rbs.length = acc.length
  ml : mbs.length = acc.length
  row : ∀ (r b : Nat), rbs[r]? = some b → wr.cell? ⟨pb, r, none⟩ = some (.pointer (some ⟨b, 0, none⟩))
  rep : ∀ (r rb mb : Nat) d, rbs[r]? = some rb → mbs[r]? = some mb → acc[r]? = some d → Rp wr rb r (lfn d.com) mb (toE d.recs) ∧ rb ≠ pb ∧ mb ≠ pb
  n6 : n ≤ 6
section
variable {w wr w2 : World} {nb pb n : Nat} {rbs mbs : List Nat} {acc : List DR}
theorem NU.ln (h : NU w wr nb pb n rbs mbs acc) : nb < wr.heap.size := by
  obtain ⟨cap, hb⟩ := h.blk
  exact (Array.getElem?_eq_some_iff.1 hb).1
theorem NU.more (h : NU w wr nb pb n rbs mbs acc) (hb : Below wr.heap.size wr w2) : NU w w2 nb pb n rbs mbs acc := by
  have hc : ∀ j, w2.cell? ⟨pb, j, none⟩ = wr.cell? ⟨pb, j, none⟩ := fun j => hb.cell (p := ⟨pb, j, none⟩) h.lp
  refine ⟨h.bel.trans (hb.mono h.bel.size), ?_, fun j hj => by rw [hc]; exact h.here j hj, fun j => (hb.frozen (p := ⟨pb, j, none⟩) h.lp).trans (h.fz j), h.gp, Nat.lt_of_lt_of_le h.lp hb.size, h.ne, h.rl, h.ml, fun r b hr => by rw [hc]; exact h.row r b hr, fun r rb mb d a b c => ?_, h.n6⟩
  · obtain ⟨cap, q⟩ := h.blk
    exact ⟨cap, by rw [hb.block nb h.ln]; exact q⟩
  · obtain ⟨q1, q2⟩ := h.rep r rb mb d a b c
    exact ⟨q1.below hb, q2⟩
/-- one more is read -/
theorem NU.put (h : NU w wr nb pb n rbs mbs acc) (hi : acc.length < n) {rb mb : Nat} {d : DR} (hr : Rp wr rb acc.length (lfn d.com) mb (toE d.recs)) (h1 : rb ≠ pb) (h2 : mb ≠ pb) : NU w (wr.setCell ⟨pb, acc.length, none⟩ (.pointer (some ⟨rb, 0, none⟩))) nb pb n (rbs ++ [rb]) (mbs ++ [mb]) (acc ++ [d]) := by
  have hk : ∀ k, k ≠ pb → (wr.setCell ⟨pb, acc.length, none⟩ (.pointer (some ⟨rb, 0, none⟩))).heap[k]? = wr.heap[k]? := fun k hk => heap_set_other (by simp only; exact hk)
  have hkeep : ∀ {rb' mb' r' : Nat} {c' : Nat → Int} {E' : Recs}, Rp wr rb' r' c' mb' E' → rb' ≠ pb → mb' ≠ pb → Rp (wr.setCell ⟨pb, acc.length, none⟩ (.pointer (some ⟨rb, 0, none⟩))) rb' r' c' mb' E' := fun q a b => q.keep (hk _ a) (hk _ b)
  have hsz : (wr.setCell ⟨pb, acc.length, none⟩ (.pointer (some ⟨rb, 0, none⟩))).heap.size = wr.heap.size := by simp [World.setCell]
  obtain ⟨u, hu⟩ := Option.isSome_iff_exists.1 (h.here acc.length hi)
  have same : (wr.setCell ⟨pb, acc.length, none⟩ (.pointer (some ⟨rb, 0, none⟩))).cell? ⟨pb, acc.length, none⟩ = some (.pointer (some ⟨rb, 0, none⟩)) := World.cell?_setCell_same _ _ _ hu
  have other : ∀ j, j ≠ acc.length → (wr.setCell ⟨pb, acc.length, none⟩ (.pointer (some ⟨rb, 0, none⟩))).cell? ⟨pb, j, none⟩ = wr.cell? ⟨pb, j, none⟩ := fun j hj => World.cell?_setCell_other _ _ _ _ (by simp <;> omega)
  refine ⟨?_, ?_, fun j hj => ?_, fun j => by rw [World.frozen?_setCell]; exact h.fz j, h.gp, by rw [hsz]; exact h.lp, h.ne, by simp [h.rl], by simp [h.ml], fun r b hr' => ?_, fun r rb' mb' d' a b c => ?_, h.n6⟩
  · have := Below.setCells h.bel h.gp [.pointer (some ⟨rb, 0, none⟩)] acc.length
    exact this
  · obtain ⟨cap, q⟩ := h.blk
    exact ⟨cap, by rw [hk nb h.ne]; exact q⟩
  · by_cases e : j = acc.length
    · rw [e, same]; rfl
    · rw [other j e]; exact h.here j hj
  · by_cases e : r = acc.length
    · subst e
      rw [List.getElem?_append_right (by rw [h.rl]; exact Nat.le_refl _), h.rl] at hr'
      simp at hr'
      rw [same, hr']
    · have hlt : r < rbs.length := by
        have := (List.getElem?_eq_some_iff.1 hr').1
        simp at this
        have := h.rl
        omega
      rw [List.getElem?_append_left hlt] at hr'
      rw [other r e]
      exact h.row r b hr'
  · by_cases e : r = acc.length
    · subst e
      rw [List.getElem?_append_right (by rw [h.rl]; exact Nat.le_refl _), h.rl] at a
      rw [List.getElem?_append_right (by rw [h.ml]; exact Nat.le_refl _), h.ml] at b
      rw [List.getElem?_append_right (Nat.le_refl _)] at c
      simp at a b c
      subst a b c
      exact ⟨hkeep hr h1 h2, h1, h2⟩
    · have hlt : r < acc.length := by
        have := (List.getElem?_eq_some_iff.1 c).1
        simp at this
        omega
      rw [List.getElem?_append_left (by rw [h.rl]; exact hlt)] at a
      rw [List.getElem?_append_left (by rw [h.ml]; exact hlt)] at b
      rw [List.getElem?_append_left hlt] at c
      obtain ⟨q1, q2, q3⟩ := h.rep r rb' mb' d' a b c
      exact ⟨hkeep q1 q2 q3, q2, q3⟩
theorem NU.net (h : NU w wr nb pb n rbs mbs acc) (hl : acc.length = n) : UNet wr nb pb rbs mbs acc :=
  ⟨⟨by rw [hl]; exact h.blk, h.rl, h.row, by rw [hl]; exact h.n6⟩, h.ml, fun r rb mb d a b c => (h.rep r rb mb d a b c).1, h.ln, h.lp⟩
theorem NU.start {P : PN} (h : PNet wr nb P (newAbs n)) (hb : Below w.heap.size w wr) (hm : ∀ k, P.mem nb k → w.heap.size ≤ k) (hf : ∀ j, wr.frozen? ⟨P.pb, j, none⟩ = false) : NU w wr nb P.pb n [] [] [] := by
  have hn : (newAbs n).n = n := rfl
  have hnd := h.nd
  rw [List.nodup_cons] at hnd
  refine ⟨hb, h.net.blk, fun j hj => ?_, hf, hm _ (.inr (.inl rfl)), h.lt _ (.inr (.inl rfl)), fun e => hnd.1 (by rw [e]; simp), rfl, rfl, by simp, by simp, h.net.n6⟩
  have hl := h.net.len
  have hj' : j < P.rbs.length := by rw [hl]; exact hj
  rw [h.net.row j _ (List.getElem?_eq_getElem hj')]
  rfl
end

end Go.Proofs.YtaelaldmibgibaaGreatDoor

namespace Go.Proofs.YtaelaldmibgibaaGreatDoor
open Go.RowKit Go.Lib Go.Maps

/-- what netOf answers -/
def NAns (A : Option (List DR)) (lo : Nat) (w' : World) (e : Ending) : Prop := match A with
  | none => ∃ v, e = .returned (.tuple #[v, .bool false])
  | some m => ∃ nb pb rbs mbs, e = .returned (.tuple #[.pointer (some ⟨nb, 0, none⟩), .bool true]) ∧ UNet w' nb pb rbs mbs m ∧ lo ≤ pb

set_option maxRecDepth 100000 in
set_option maxHeartbeats 4000000 in
theorem netOf_any (t : ByteArray) (ht : t.size ≤ 10000000) (w : World) (hg : Glob w) :
    Calls Tryz.prog 43 #[.string t] w fun e w' => NAns (netR t) w.heap.size w' e ∧ Below w.heap.size w w' := by
  have US := hide (Unseal_any t ht w hg)
  cases hu : unsealR t with
  | none =>
    have en : netR t = none := by unfold netR; rw [hu]; rfl
    rw [hu] at US
    simp only [Option.isSome_none] at US
    rw [en]
    generalize ofBs ((none : Option Bs).getD []) = bd at *
    clear hg hu en
    go_enter Tryz.func43, Tryz.ntmps43
    go_wp2_with (go_at_call 78; refine US.out.mono ?_; rintro e w1 ⟨rfl, hb1⟩)
    go_ret2
    exact ⟨⟨_, rfl⟩, hb1⟩
  | some b =>
    rw [hu] at US
    simp only [Option.isSome_some, Option.getD_some] at US
    have hbl : b.length ≤ 10000000 := by
      have := (unsealR_iff t b).1 hu
      have h2 := congrArg List.length this.1
      rw [bs_len] at h2
      simp at h2
      omega
    have hln := cut_size 10 b
    have CU : Hid (∀ W, Below w.heap.size w W → Calls Tryz.prog 79 #[.string (ofBs b), .string ⟨#[10]⟩] W fun e w' => (∃ f, e = .returned (.tuple #[.string (ofBs (lineR b)), .string (ofBs (restR b)), .bool f])) ∧ Below w.heap.size w w') := fun W hW => by
      have := cut_any 10 (ofBs b) (by rw [ofBs_size]; exact hbl) W (hg.below hW)
      rw [bs_ofBs] at this
      refine this.mono ?_
      rintro e w' ⟨rfl, q, rfl⟩
      exact ⟨⟨_, rfl⟩, below_drewN hW q⟩
    have BG : Hid (∀ W, Below w.heap.size w W → Calls Tryz.prog 80 #[.string (ofBs (lineR b))] W fun e w' => (match headR (lineR b) with
      | none => e = .returned (.tuple #[.pointer none, .bool false])
      | some n => ∃ nb P, e = .returned (.tuple #[.pointer (some ⟨nb, 0, none⟩), .bool true]) ∧ NU w w' nb P n [] [] []) ∧ Below w.heap.size w w') := fun W hW => by
      have := beginning_any (ofBs (lineR b)) (by rw [ofBs_size]; unfold lineR; omega) W (hg.below hW)
      rw [bs_ofBs] at this
      refine this.mono ?_
      rintro e w' ⟨hA, hb'⟩
      have hb2 := hW.trans (hb'.mono hW.size)
      refine ⟨?_, hb2⟩
      cases hh : headR (lineR b) with
      | none => rw [hh] at hA; exact hA
      | some n =>
        rw [hh] at hA
        obtain ⟨nb, P, e1, e2, e3, e4⟩ := hA
        exact ⟨nb, P.pb, e1, NU.start e2 hb2 (fun k hk => Nat.le_trans hW.size (e3 k hk)) e4⟩
    cases hh : headR (lineR b) with
    | none =>
      have en : netR t = none := by unfold netR; rw [hu]; simp only [Option.bind_some]; rw [hh]; rfl
      rw [en]
      rw [hh] at BG
      generalize ofBs b = bd at *
      generalize ofBs (lineR b) = ls at *
      generalize ofBs (restR b) = rs at *
      clear hg hu en hh
      go_enter Tryz.func43, Tryz.ntmps43
      go_wp2_with (first
        | (go_at_call 78; refine US.out.mono ?_; rintro e w1 ⟨rfl, hb1⟩; have H1 := hide hb1; clear hb1)
        | (go_at_call 79; refine (CU.out _ H1.out).mono ?_; rintro e w2 ⟨⟨f, rfl⟩, hb2⟩; have H2 := hide hb2; clear hb2)
        | (go_at_call 80; refine (BG.out _ H2.out).mono ?_; rintro e w3 ⟨rfl, hb3⟩; have H3 := hide hb3; clear hb3))
      go_ret2
      exact ⟨⟨_, rfl⟩, H3.out⟩
    | some n =>
      obtain ⟨h1, h6, _⟩ := (headR_iff _ n).1 hh
      have en : netR t = (repsR n n 0 (restR b)).bind fun x => if x.1 = [] ∧ x.2.all (inB (cntF x.2)) = true then some x.2 else none := by unfold netR; rw [hu]; simp only [Option.bind_some]; rw [hh]; rfl
      rw [hh] at BG
      have hrl : (ofBs (restR b)).size ≤ 10000000 := by rw [ofBs_size]; unfold restR; omega
      have e0 : repsR n n 0 (restR b) = (repsR n (n - 0) 0 (bs (ofBs (restR b)))).map (fun y => (y.1, ([] : List DR) ++ y.2)) := by
        rw [bs_ofBs, Nat.sub_zero]
        cases repsR n n 0 (restR b) <;> simp
      have GL : Hid (∀ W, Below w.heap.size w W → Glob W) := fun W hW => hg.below hW
      generalize ofBs (lineR b) = ls at *
      generalize hA0 : repsR n n 0 (restR b) = A0 at *
      generalize ofBs b = bd at *
      generalize ofBs (restR b) = rs at *
      generalize netR t = NR at *
      have E0 := hide e0
      have EN := hide en
      clear hg hu hh en e0 hA0
      go_enter Tryz.func43, Tryz.ntmps43
      go_wp2_with (first
        | (go_at_call 78; refine US.out.mono ?_; rintro e w1 ⟨rfl, hb1⟩; have H1 := hide hb1; clear hb1)
        | (go_at_call 79; refine (CU.out _ H1.out).mono ?_; rintro e w2 ⟨⟨f, rfl⟩, hb2⟩; have H2 := hide hb2; clear hb2)
        | (go_at_call 80; refine (BG.out _ H2.out).mono ?_; rintro e w3 ⟨⟨nb, pb, rfl, hN⟩, _⟩; have N3 := hide hN; obtain ⟨cap, hblk⟩ := hN.blk; have c3 : w3.cell? ⟨nb, 0, none⟩ = some (.slice (some ⟨pb, 0, none⟩) n cap) := (by simp [World.cell?, hblk]); clear hN hblk))
      go_loopw [7, 38] (fun tv iv wr => ∃ (i : Nat) (x : ByteArray) (rbs mbs : List Nat) (acc : List DR), i ≤ n ∧ iv = .int .i64 i ∧ tv = .string x ∧ Hid (NU w wr nb pb n rbs mbs acc) ∧ Hid (acc.length = i ∧ x.size ≤ 10000000 ∧ A0 = (repsR n (n - i) i (bs x)).map (fun y => (y.1, acc ++ y.2)) ∧ ∀ d ∈ acc, d.recs.length ≤ 10000000)) (fun _ iv _ => n - (intOf iv).toNat)
      case atStart => exact ⟨0, rs, [], [], [], Nat.zero_le _, rfl, rfl, N3, rfl, hrl, E0.out, fun d hd => by simp at hd⟩
      case round =>
        obtain ⟨i, x, rbs, mbs, acc, hi, rfl, rfl, hN, hE⟩ := hrel
        clear N3 c3 US CU BG E0
        by_cases hlt : i < n
        · have ND : Hid (NU w wr.drew nb pb n rbs mbs acc) := hN.out.more ⟨rfl, rfl, rfl, Nat.le_refl _, fun _ _ => rfl⟩
          have LR := hide (ReadLines_any x hE.out.2.1 i (by omega) n h1 h6 wr.drew (GL.out _ ND.out.bel))
          obtain ⟨cap', hblk⟩ := hN.out.blk
          have c0 : wr.cell? ⟨nb, 0, none⟩ = some (.slice (some ⟨pb, 0, none⟩) n cap') := by simp [World.cell?, hblk]
          have C2 : Hid (∀ w2, Below wr.drew.heap.size wr.drew w2 → w2.cell? ⟨nb, 0, none⟩ = some (.slice (some ⟨pb, 0, none⟩) n cap') ∧ w2.cell? ⟨pb, i, none⟩ = some (cv w2 pb i) ∧ w2.frozen? ⟨pb, i, none⟩ = false ∧ NU w w2 nb pb n rbs mbs acc) := fun w2 hb2 => by
            have N2 := ND.out.more hb2
            refine ⟨?_, cv_eq (N2.here i hlt), N2.fz i, N2⟩
            rw [hb2.cell (p := ⟨nb, 0, none⟩) ND.out.ln]
            exact c0
          have hi0 : (0 : Int) ≤ (i : Int) := by omega
          have hin : (i : Int) < (n : Int) := by omega
          clear hblk
          cases hrp : repR n i (bs x) with
          | none =>
            have ea : A0 = none := by
              rw [hE.out.2.2.1, show n - i = (n - i - 1) + 1 by omega]
              unfold repsR
              rw [hrp]
              rfl
            have eb : NR = none := by rw [EN.out, ea]; rfl
            rw [hrp] at LR
            have PB : Hid (∀ w2, NU w w2 nb pb n rbs mbs acc → NAns NR w.heap.size (w2.setCell ⟨pb, i, none⟩ (.pointer none)) (.returned (.tuple #[.pointer none, .bool false])) ∧ Below w.heap.size w (w2.setCell ⟨pb, i, none⟩ (.pointer none))) := fun w2 hN2 => by
              rw [eb]
              exact ⟨⟨_, rfl⟩, Below.setCells hN2.bel hN2.gp [.pointer none] i⟩
            clear ea eb hrp EN hE
            go_wp2_with fail
            go_region_law (first
              | (go_simp; go_at_call 81; refine LR.out.mono ?_; rintro e w2 ⟨hA, hb2⟩; obtain rfl := hA; obtain ⟨q0, q1, q2, hN2⟩ := C2.out w2 hb2; have N2 := hide hN2; clear hN2 hb2; dsimp only))
            all_goals
              go_wp2
              go_ret2
              exact PB.out w2 N2.out
          | some y =>
            obtain ⟨R, d⟩ := y
            obtain ⟨l1, l2⟩ := repR_len n i h1 h6 _ _ hrp
            simp only at l1 l2
            rw [bs_len] at l1 l2
            rw [hrp] at LR
            have NX : Hid (∀ (w2 : World) (rb mb : Nat), NU w w2 nb pb n rbs mbs acc → Rp w2 rb i (lfn d.com) mb (toE d.recs) → wr.drew.heap.size ≤ rb → wr.drew.heap.size ≤ mb → NU w (w2.setCell ⟨pb, i, none⟩ (.pointer (some ⟨rb, 0, none⟩))) nb pb n (rbs ++ [rb]) (mbs ++ [mb]) (acc ++ [d])) := fun w2 rb mb hN2 hR hr hm => by
              have hp := ND.out.lp
              have := hN2.put (by rw [hE.out.1]; exact hlt) (by rw [hE.out.1]; exact hR) (by omega) (by omega)
              rw [hE.out.1] at this
              exact this
            have EX : Hid ((acc ++ [d]).length = i + 1 ∧ (ofBs R).size ≤ 10000000 ∧ A0 = (repsR n (n - (i + 1)) (i + 1) (bs (ofBs R))).map (fun y => (y.1, (acc ++ [d]) ++ y.2)) ∧ ∀ d' ∈ acc ++ [d], d'.recs.length ≤ 10000000) := by
              obtain ⟨e1, e2, e3, e4⟩ := hE.out
              refine ⟨by simp [e1], by rw [ofBs_size]; omega, ?_, fun d' hd => ?_⟩
              · rw [e3, show n - i = (n - (i + 1)) + 1 by omega]
                conv => lhs; unfold repsR
                rw [hrp, bs_ofBs]
                simp only [Option.bind_some]
                rw [Option.map_map]
                congr 1
                funext y
                simp
              · rcases List.mem_append.1 hd with hd | hd
                · exact e4 d' hd
                · simp only [List.mem_singleton] at hd
                  rw [hd]
                  omega
            clear hrp EN hE l1 l2
            go_wp2_with fail
            go_region_law (first
              | (go_simp; go_at_call 81; refine LR.out.mono ?_; rintro e w2 ⟨⟨rb, mb, rfl, hR, hr1, hm1⟩, hb2⟩; obtain ⟨q0, q1, q2, hN2⟩ := C2.out w2 hb2; have N2 := hide (NX.out w2 rb mb hN2 hR hr1 hm1); clear hN2 hb2 hR hr1 hm1; dsimp only))
            all_goals
              go_wp2
              go_roundw
              case rel => exact ⟨i + 1, _, _, _, _, by omega, by go_num, rfl, N2, EX⟩
              case measure => simp [intOf]; omega
        · have ei : i = n := by omega
          subst ei
          obtain ⟨e1, e2, e3, e4⟩ := hE.out
          have ea : A0 = some (bs x, acc) := by
            rw [e3, Nat.sub_self]
            unfold repsR
            simp
          have UN := hide (hN.out.net e1)
          have IW := hide (isWithinItsCounts_any nb pb rbs mbs acc wr UN.out (by omega) (by omega) (fun d hd => by have := e4 d hd; omega))
          rw [ea] at EN
          have en : NR = if bs x = [] ∧ acc.all (inB (cntF acc)) = true then some acc else none := EN.out
          clear hE e3 ea EN
          by_cases hx : bs x = []
          · have hq : (x.toList == []) = true := by rw [ByteArray.toList_eq]; show (bs x == []) = true; rw [hx]; rfl
            cases hz : acc.all (inB (cntF acc)) with
            | true =>
              have HR : Hid (NR = some acc) := by unfold Hid; rw [en, if_pos ⟨hx, hz⟩]
              rw [hz] at IW
              clear en hx hz
              go_wp2_with (go_at_call 82; refine IW.out.mono ?_; rintro e w6 ⟨rfl, hb6⟩; have H6 := hide hb6; clear hb6)
              go_ret2
              rw [HR.out]
              exact ⟨⟨nb, pb, rbs, mbs, rfl, UN.out.below H6.out, hN.out.gp⟩, hN.out.bel.trans (H6.out.mono hN.out.bel.size)⟩
            | false =>
              have HR : Hid (NR = none) := by unfold Hid; rw [en, if_neg (by rw [hz]; simp)]
              rw [hz] at IW
              clear en hx hz
              go_wp2_with (go_at_call 82; refine IW.out.mono ?_; rintro e w6 ⟨rfl, hb6⟩; have H6 := hide hb6; clear hb6)
              go_ret2
              rw [HR.out]
              exact ⟨⟨_, rfl⟩, hN.out.bel.trans (H6.out.mono hN.out.bel.size)⟩
          · have hq : (x.toList == []) = false := by
              rw [ByteArray.toList_eq]
              show (bs x == []) = false
              simpa using hx
            have HR : Hid (NR = none) := by unfold Hid; rw [en, if_neg (fun q => hx q.1)]
            clear en hx
            go_wp2
            go_ret2
            rw [HR.out]
            exact ⟨⟨_, rfl⟩, hN.out.bel⟩

end Go.Proofs.YtaelaldmibgibaaGreatDoor
