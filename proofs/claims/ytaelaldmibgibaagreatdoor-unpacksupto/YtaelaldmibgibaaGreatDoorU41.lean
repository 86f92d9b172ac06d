/- The program's Look, of any records. The program's isWithinItsCounts. The program's linesOf, Seal, Pack. The program's ReadLines: the walk. The program's netOf: what stands at each round. -/
import Derived.Test.YtaelaldmibgibaaGreatDoorU38
import Derived.Test.YtaelaldmibgibaaGreatDoorU40
import Derived.Test.YtaelaldmibgibaaGreatDoorU30

set_option linter.unusedVariables false
set_option linter.unusedSimpArgs false

namespace Go.Proofs.YtaelaldmibgibaaGreatDoor
open Go.RowKit Go.Maps
attribute [local go_sem ↓] stState
attribute [local go_sem] run_stState

set_option maxRecDepth 100000 in
set_option maxHeartbeats 1000000 in
theorem plook_gen (rb s : Nat) (cm : Nat → Int) (mb : Nat) (E : Recs) (w : World) (h : Rp w rb s cm mb E) (hl : E.length < 100000000) :
    Calls Tryz.prog 148 #[.pointer (some ⟨rb, 0, none⟩)] w fun e w' => e = .returned (.agg #[.int .i64 (cm s), .int .i64 (thereE E).length, .int .i64 E.length]) ∧ Below w.heap.size w w' := by
  have MB : Hid (Mine w w.heap.size 3 ((w.alloc (.cells #[.int .i64 0, .int .i64 0, .int .i64 0] 166)).drewN 1)) := mine_drewN (Mine.made' w #[.int .i64 0, .int .i64 0, .int .i64 0] 166 (n := 3) rfl) 1
  have CN : Hid (∀ V, Mine w w.heap.size 3 V → Calls Tryz.prog 168 #[.pointer (some ⟨rb, 0, none⟩)] V fun e w' => e = .returned (.int .i64 (cm s)) ∧ Mine w w.heap.size 3 w') := by
    intro V hM
    have := count_any rb s cm mb V (h.below hM.below).rep
    refine this.mono ?_
    rintro e w' ⟨rfl, nq, rfl⟩
    exact ⟨rfl, mine_drewN hM nq⟩
  have FN : Hid (∀ V, Mine w w.heap.size 3 V → Calls Tryz.prog 129 #[.pointer (some ⟨rb, 0, none⟩)] V fun e w' => e = .returned (.int .i64 (thereE E).length) ∧ Mine w w.heap.size 3 w') := by
    intro V hM
    have hV := h.below hM.below
    refine (pfiles_gen rb s _ mb V hV.rep E h.ris hl hV.own).mono ?_
    rintro e w' ⟨rfl, hb⟩
    exact ⟨rfl, Mine.call (p := True) ⟨hM, trivial⟩ hb⟩
  have ON : Hid (∀ V, Mine w w.heap.size 3 V → V.ownsMap Tryz.prog 9 recElem mb E.length (datOf E)) := fun V hM => (h.below hM.below).own
  have C7 : Hid (∀ V, Mine w w.heap.size 3 V → V.cell? ⟨rb, 7, none⟩ = some (.map (some mb))) := fun V hM => (h.below hM.below).rep.c7
  have hlt := h.rep.lt
  have hne : rb ≠ w.heap.size := by omega
  have c7 := h.rep.c7
  have ez := size_datOf E
  have EZ := hide ez
  clear h ez
  go_enter Tryz.func148, Tryz.ntmps148
  go_wp2
  go_region_law (first
    | (go_simp; go_at_call 168; refine (CN.out _ (by first | exact MF.out | exact MB.out)).mono ?_; rintro e w1 ⟨rfl, M1r⟩; have MC := hide M1r; have d7 := C7.out w1 M1r; have dth := M1r.there; clear M1r; dsimp only)
    | (go_simp; go_at_call 129; refine (FN.out _ (by first | exact MC.out | exact MB.out)).mono ?_; rintro e w2 ⟨rfl, M2r⟩; have MF := hide M2r; have f7 := C7.out w2 M2r; have fth := M2r.there; clear M2r; dsimp only)
    | (refine step_len_own rfl _ _ rfl 9 197 Tryz.underlying184 recElem mb E.length (datOf E) rfl (by first | exact ON.out _ MB.out | exact ON.out _ MC.out | exact ON.out _ MF.out) _ EZ.out ?_; dsimp only))
  all_goals
    go_wp2
    first
      | exact bodyPost_ret (ret_cell1 Tryz.results148 (a := ⟨w.heap.size, 0, none⟩) rfl (load_stored (cs := [_, _, _]) MF.out.there Tryz.underlying166 rfl size_State)) rfl ⟨rfl, (Mine.setCells (p := True) ⟨MF.out, trivial⟩ 0 _).below⟩
      | exact bodyPost_ret (ret_cell1 Tryz.results148 (a := ⟨w.heap.size, 0, none⟩) rfl (load_stored (cs := [_, _, _]) MC.out.there Tryz.underlying166 rfl size_State)) rfl ⟨rfl, (Mine.setCells (p := True) ⟨MC.out, trivial⟩ 0 _).below⟩


end Go.Proofs.YtaelaldmibgibaaGreatDoor

namespace Go.Proofs.YtaelaldmibgibaaGreatDoor
open Go.RowKit Go.Lib Go.Maps

/-- a net of the program's, of any replicas -/
structure UNet (w : World) (nb pb : Nat) (rbs mbs : List Nat) (m : List DR) : Prop where
  net : NetAt w nb m.length pb rbs
  ml : mbs.length = m.length
  rep : ∀ (r rb mb : Nat) d, rbs[r]? = some rb → mbs[r]? = some mb → m[r]? = some d → Rp w rb r (lfn d.com) mb (toE d.recs)
  lt : nb < w.heap.size ∧ pb < w.heap.size
theorem UNet.below {w w' : World} {nb pb : Nat} {rbs mbs : List Nat} {m : List DR} (h : UNet w nb pb rbs mbs m) (hb : Below w.heap.size w w') : UNet w' nb pb rbs mbs m :=
  ⟨h.net.keep (hb.block _ h.lt.1) (hb.block _ h.lt.2), h.ml, fun r rb mb d h1 h2 h3 => (h.rep r rb mb d h1 h2 h3).below hb, by have := h.lt; have := hb.size; omega⟩
theorem UNet.at {w : World} {nb pb : Nat} {rbs mbs : List Nat} {m : List DR} (h : UNet w nb pb rbs mbs m) (r : Nat) (hr : r < m.length) : ∃ rb mb d, m[r]? = some d ∧ rbs[r]? = some rb ∧ w.cell? ⟨pb, r, none⟩ = some (.pointer (some ⟨rb, 0, none⟩)) ∧ Rp w rb r (lfn d.com) mb (toE d.recs) := by
  have h1 : r < rbs.length := by rw [h.net.len]; exact hr
  have h2 : r < mbs.length := by rw [h.ml]; exact hr
  exact ⟨rbs[r], mbs[r], m[r], List.getElem?_eq_getElem hr, List.getElem?_eq_getElem h1, h.net.row r _ (List.getElem?_eq_getElem h1), h.rep r _ _ _ (List.getElem?_eq_getElem h1) (List.getElem?_eq_getElem h2) (List.getElem?_eq_getElem hr)⟩

/-- the counts under way -/
structure CT (w wr : World) (C : Nat → Int) : Prop where
  b : ∀ j, j < 6 → wr.cell? ⟨w.heap.size, j, none⟩ = some (.int .i64 (C j))
  fz : ∀ j, wr.frozen? ⟨w.heap.size, j, none⟩ = false
  bel : Below w.heap.size w wr
  lt : w.heap.size < wr.heap.size
theorem CT.more {w V V' : World} {C : Nat → Int} (h : CT w V C) (hb : Below V.heap.size V V') : CT w V' C :=
  ⟨fun j hj => (hb.cell (p := ⟨w.heap.size, j, none⟩) h.lt).trans (h.b j hj), fun j => (hb.frozen (p := ⟨w.heap.size, j, none⟩) h.lt).trans (h.fz j), h.bel.trans (hb.mono h.bel.size), Nat.lt_of_lt_of_le h.lt hb.size⟩
theorem CT.put {w V : World} {C : Nat → Int} (h : CT w V C) (i : Nat) (hi : i < 6) (x : Int) : CT w (V.setCell ⟨w.heap.size, i, none⟩ (.int .i64 x)) (fun j => if j = i then x else C j) := by
  refine ⟨fun j hj => ?_, fun j => ?_, ?_, ?_⟩
  · by_cases e : j = i
    · subst e
      rw [if_pos rfl]
      exact World.cell?_setCell_same _ _ _ (h.b j hj)
    · rw [if_neg e]
      exact (World.cell?_setCell_other _ _ _ _ (by simp <;> omega)).trans (h.b j hj)
  · rw [World.frozen?_setCell]; exact h.fz j
  · have := Below.setCells h.bel (Nat.le_refl w.heap.size) [.int .i64 x] i
    exact this
  · simpa [World.setCell] using h.lt
theorem toE_all (D : Drs) (C : Nat → Int) : (toE D).all (fun x => leB x.2.kn C) = D.all (fun y => leB (lfn y.2.known) C) := by
  unfold toE
  rw [List.all_map]
  rfl

/-- kept from the walk's own way -/
def fdM (x : Value) : Sem Value := Instr.field 166 x 0
theorem fdEq (x : Value) : Instr.field 166 x 0 = fdM x := rfl
theorem run_fd (a b c : Int) (w : World) : (fdM (.agg #[.int .i64 a, .int .i64 b, .int .i64 c])).run Tryz.prog w = .ok (.int .i64 a) w := by
  unfold fdM
  simp [Instr.field, run_underlying Tryz.underlying166, asAgg, part, isAgg, run_underlying Tryz.underlying3]
attribute [local go_sem ↓] fdEq
attribute [local go_sem] run_fd
set_option maxRecDepth 100000 in
set_option maxHeartbeats 2000000 in
theorem isWithinItsCounts_any (nb pb : Nat) (rbs mbs : List Nat) (m : List DR) (w : World) (h : UNet w nb pb rbs mbs m) (h1 : 1 ≤ m.length) (h6 : m.length ≤ 6) (hr : ∀ d ∈ m, d.recs.length < 100000000) :
    Calls Tryz.prog 82 #[.pointer (some ⟨nb, 0, none⟩)] w fun e w' => e = .returned (.bool (m.all (inB (cntF m)))) ∧ Below w.heap.size w w' := by
  obtain ⟨cap, hb⟩ := h.net.blk
  have hn6 := h.net.n6
  have C0 : Hid (CT w (w.alloc (.cells #[.int .i64 0, .int .i64 0, .int .i64 0, .int .i64 0, .int .i64 0, .int .i64 0] 186)) (fun j => if j < 0 then cntF m j else 0)) := ⟨fun j hj => by rw [if_neg (by omega)]; exact built6 w (fun _ => 0) _ j hj, fun j => by simp only [World.frozen?, heap_alloc_new]; simp, (Below.refl _ _).alloc (Nat.le_refl _) _, by simp⟩
  have c0 : ∀ V, Below w.heap.size w V → V.cell? ⟨nb, 0, none⟩ = some (.slice (some ⟨pb, 0, none⟩) m.length cap) := fun V hV => by
    rw [hV.cell (p := ⟨nb, 0, none⟩) h.lt.1]
    simp [World.cell?, hb]
  have HC := hide c0
  have c00 := c0 _ C0.out.bel
  have AT : Hid (∀ V, Below w.heap.size w V → ∀ r, r < m.length → ∃ rb mb d, m[r]? = some d ∧ V.cell? ⟨pb, r, none⟩ = some (.pointer (some ⟨rb, 0, none⟩)) ∧ Rp V rb r (lfn d.com) mb (toE d.recs)) := fun V hV r hr => by
    obtain ⟨rb, mb, d, a1, _, a3, a4⟩ := (h.below hV).at r hr
    exact ⟨rb, mb, d, a1, a3, a4⟩
  have HN := hide hr
  generalize hn : m.length = n at *
  clear h hb c0 hr
  go_enter Tryz.func82, Tryz.ntmps82
  go_wp2
  go_loopw [13] (fun iv wr => ∃ i : Nat, i ≤ n ∧ iv = .int .i64 i ∧ Hid (CT w wr (fun j => if j < i then cntF m j else 0))) (fun iv _ => n - (intOf iv).toNat)
  case atStart => exact ⟨0, Nat.zero_le _, rfl, C0⟩
  case round =>
    obtain ⟨i, hi, rfl, hC⟩ := hrel
    clear C0 c00
    by_cases hlt : i < n
    · obtain ⟨rb, mb, d, hd, hc, hR⟩ := AT.out wr hC.out.bel i hlt
      have LK := hide (plook_gen rb i (lfn d.com) mb (toE d.recs) wr hR (by rw [toE_len]; exact HN.out d (List.mem_of_getElem? hd)))
      have hcnt : lfn d.com i = cntF m i := by unfold cntF; rw [hd]
      rw [hcnt] at LK
      generalize (thereE (toE d.recs)).length = z1 at *
      generalize (toE d.recs).length = z2 at *
      have hi6 : (i : Int) < 6 := by omega
      have hi0 : (0 : Int) ≤ (i : Int) := by omega
      clear hR hcnt
      go_wp2_with (go_at_call 148; refine LK.out.mono ?_; rintro e w2 ⟨rfl, hb2⟩; have C2 := hide (hC.out.more hb2); clear hb2; have ci := C2.out.b i (by omega); have fi := C2.out.fz i)
      have C3 := hide (C2.out.put i (by omega) (cntF m i))
      have EQ : (fun j => if j = i then cntF m i else if j < i then cntF m j else 0) = (fun j => if j < i + 1 then cntF m j else 0) := by
        funext j
        by_cases e : j = i
        · subst e; simp
        · by_cases e2 : j < i
          · simp [e, e2]; omega
          · simp [e, e2]; omega
      rw [EQ] at C3
      go_roundw
      case rel => exact ⟨i + 1, by omega, by go_num, C3⟩
      case measure => simp [intOf]; omega
    · have ei : i = n := by omega
      subst ei
      have C1 : Hid (CT w wr (cntF m)) := by
        have : (fun j => if j < i then cntF m j else 0) = cntF m := by
          funext j
          by_cases e : j < i
          · rw [if_pos e]
          · rw [if_neg e]; unfold cntF; rw [List.getElem?_eq_none (by omega)]
        rw [← this]
        exact hC
      have c01 := HC.out wr C1.out.bel
      clear hC
      go_wp2
      go_loopw [29] (fun iv wr2 => ∃ k : Nat, k ≤ i ∧ iv = .int .i64 k ∧ Hid (CT w wr2 (cntF m)) ∧ Hid ((m.take k).all (inB (cntF m)) = true)) (fun iv _ => i - (intOf iv).toNat)
      case atStart => exact ⟨0, Nat.zero_le _, rfl, C1, rfl⟩
      case round =>
        obtain ⟨k, hk, rfl, hC, hA⟩ := hrel
        clear C1 c01
        have bC := hC.out.b
        by_cases hlt2 : k < i
        · obtain ⟨rb, mb, d, hd, hc, hR⟩ := AT.out _ hC.out.bel k hlt2
          have IW := hide (IsWithin_any rb k (lfn d.com) mb (toE d.recs) (cntF m) _ hR)
          have ez : ((toE d.recs).all (fun x => leB x.2.kn (cntF m)) && leB (lfn d.com) (cntF m)) = inB (cntF m) d := by rw [toE_all]; rfl
          rw [ez] at IW
          have b0 := bC 0 (by omega)
          have b1 := bC 1 (by omega)
          have b2 := bC 2 (by omega)
          have b3 := bC 3 (by omega)
          have b4 := bC 4 (by omega)
          have b5 := bC 5 (by omega)
          clear hR ez bC
          cases hz : inB (cntF m) d with
          | false =>
            have HA : Hid (m.all (inB (cntF m)) = false) := by
              unfold Hid
              rw [List.all_eq_false]
              exact ⟨d, List.mem_of_getElem? hd, by rw [hz]; simp⟩
            rw [hz] at IW
            clear hz hd
            go_wp2_with (go_at_call 149; refine IW.out.mono ?_; rintro e w2 ⟨rfl, hb2⟩; have C2 := hide (hC.out.more hb2); clear hb2)
            go_ret
            exact ⟨by rw [HA.out]; rfl, C2.out.bel⟩
          | true =>
            have HA : Hid ((m.take (k + 1)).all (inB (cntF m)) = true) := by
              unfold Hid
              rw [List.take_add_one, hd, Option.toList_some, List.all_append, hA.out]
              simp [hz]
            rw [hz] at IW
            clear hz hd
            go_wp2_with (go_at_call 149; refine IW.out.mono ?_; rintro e w2 ⟨rfl, hb2⟩; have C2 := hide (hC.out.more hb2); clear hb2)
            go_roundw
            case rel => exact ⟨k + 1, by omega, by go_num, C2, HA⟩
            case measure => simp [intOf]; omega
        · have ek : k = i := by omega
          subst ek
          have HA : Hid (m.all (inB (cntF m)) = true) := by
            have := hA.out
            rw [← hn, List.take_length] at this
            exact this
          go_wp2
          go_ret
          exact ⟨by rw [HA.out]; rfl, hC.out.bel⟩

end Go.Proofs.YtaelaldmibgibaaGreatDoor

namespace Go.Proofs.YtaelaldmibgibaaGreatDoor
open Go.RowKit Go.Lib Go.Maps

theorem app_row {ops : Array Oper} {rest : List Oper} {o : Oper} {a : Act} {Q : Exit → Act → World → Prop} (w : World) (hgd : o.guard = none) (s x : Operand) (ho : o.op = .call { callee := .builtin .append, args := #[s, x], argTypes := #[25, 25] }) (base : Nat) (v : Value) (n : Nat) (xs : List Value) (hs : a.eval s = v) (hown : w.ownsRow base 9 1 v n xs)
    (g2 m c2 base2 : Nat) (L : List ByteArray) (hL : L.length = m) (hm : 0 < m) (hx : a.eval x = .slice (some ⟨g2, 0, none⟩) m c2) (h2 : w.ownsRow base2 9 1 (.slice (some ⟨g2, 0, none⟩) m c2) m (svs L)) (hn : n + m ≤ 1000000000) (hb : base ≤ w.heap.size)
    (h : ∀ g cap w1, w1.ownsRow base 9 1 (.slice (some ⟨g, 0, none⟩) (n + m) cap) (n + m) (xs ++ svs L) → w.grownBy w1 v.ownBlock → (v.ownBlock = some g ∨ g = w.heap.size) → g < w1.heap.size → wpList Tryz.prog ops Q rest (a.put o.dst (.slice (some ⟨g, 0, none⟩) (n + m) cap)) w1) :
    wpList Tryz.prog ops Q (o :: rest) a w := by
  obtain ⟨i0, hi, hz0, hz1, hz2⟩ := info_parts info_string
  refine wpList_append_lies w hgd s x 25 ho base 9 i0 _ 1 16 Tryz.underlying25 hi hz0 hz1 hz2 rfl (by decide) v n xs hs hown ⟨g2, 0, none⟩ m c2 (svs L) hx (by rw [svs_length, hL]; omega) (h2.cells rfl) ?_ hm (by unfold maxLen; omega) (by omega) hb _ rfl h
  intro u hu
  obtain ⟨z, _, rfl⟩ := List.mem_map.1 hu
  rfl
theorem Lines_form (rb s mb : Nat) (d : DR) (n : Nat) (h1 : 1 ≤ n) (h6 : n ≤ 6) (hd : d.ok n) (hgd : goodD s d) (hlen : d.recs.length < 100000000) (w : World) (h : Rp w rb s (lfn d.com) mb (toE d.recs)) (hg : Glob w) :
    Calls Tryz.prog 73 #[.pointer (some ⟨rb, 0, none⟩), .int .i64 n] w fun e w' => ∃ g cap, e = .returned (.slice (some ⟨g, 0, none⟩) (d.recs.length + 1) cap) ∧ w'.ownsRow w.heap.size 9 1 (.slice (some ⟨g, 0, none⟩) (d.recs.length + 1) cap) (d.recs.length + 1) (svs ((linesD d).map ofBs)) ∧ Below w.heap.size w w' := by
  refine (Lines_any rb s mb d n h1 h6 hd hgd hlen w h hg).mono ?_
  rintro e w' ⟨v, rfl, ho, hb⟩
  obtain ⟨g, cap, rfl, _⟩ := World.ownsRow.form ho (by omega)
  exact ⟨g, cap, rfl, ho, hb⟩

/-- the lines of the net's first replicas -/
def preN (m : List DR) (i : Nat) : List Bs := (bs reunionW ++ decDigits m.length) :: ((m.take i).map linesD).flatten
theorem preN_step (m : List DR) (i : Nat) (d : DR) (hd : m[i]? = some d) : preN m (i + 1) = preN m i ++ linesD d := by
  unfold preN
  rw [List.take_add_one, hd, Option.toList_some, List.map_append, List.flatten_append]
  simp
theorem preN_all (m : List DR) : preN m m.length = linesN m := by
  unfold preN linesN
  rw [List.take_length]
structure NL (w wr : World) (lv : Value) (m : List DR) (i : Nat) : Prop where
  bel : Below w.heap.size w wr
  own : wr.ownsRow w.heap.size 9 1 lv (preN m i).length (svs ((preN m i).map ofBs))
theorem NL.more {w wr w2 : World} {lv : Value} {m : List DR} {i : Nat} (h : NL w wr lv m i) (hb : Below wr.heap.size wr w2) : NL w w2 lv m i :=
  ⟨h.bel.trans (hb.mono h.bel.size), ownsRow_keep h.own (fun k e => hb.block k (World.ownsRow.lt h.own k e).2)⟩
theorem preN_lenK (K : Nat) (m : List DR) (hr : ∀ d ∈ m, d.recs.length + 1 ≤ K) : ∀ i, (preN m i).length ≤ 1 + i * K := by
  intro i
  induction i with
  | zero => simp [preN]
  | succ i ih =>
    have hk : (i + 1) * K = i * K + K := Nat.succ_mul i K
    cases hd : m[i]? with
    | none =>
      have e : preN m (i + 1) = preN m i := by unfold preN; rw [List.take_add_one, hd]; simp
      rw [e, hk]
      omega
    | some d =>
      rw [preN_step m i d hd, List.length_append, hk]
      have h2 := hr d (List.mem_of_getElem? hd)
      have h3 : (linesD d).length = d.recs.length + 1 := by unfold linesD; simp
      omega
theorem preN_len (m : List DR) (hr : ∀ d ∈ m, d.recs.length ≤ 10000000) (i : Nat) (_ : i ≤ 6) : (preN m i).length ≤ 1 + i * 10000001 := preN_lenK 10000001 m (fun d hd => by have := hr d hd; omega) i

set_option maxRecDepth 100000 in
set_option maxHeartbeats 1000000 in
theorem linesOf_any (nb pb : Nat) (rbs mbs : List Nat) (m : List DR) (w : World) (h : UNet w nb pb rbs mbs m) (hm : okNet m) (hgn : goodN m) (hr : ∀ d ∈ m, d.recs.length ≤ 10000000) (hg : Glob w) :
    Calls Tryz.prog 39 #[.pointer (some ⟨nb, 0, none⟩)] w fun e w' => ∃ v, e = .returned v ∧ w'.ownsRow w.heap.size 9 1 v (linesN m).length (svs ((linesN m).map ofBs)) ∧ Below w.heap.size w w' := by
  obtain ⟨cap, hb⟩ := h.net.blk
  have n1 := hm.n1
  have n6 := hm.n6
  have HC : Hid (∀ V, Below w.heap.size w V → V.cell? ⟨nb, 0, none⟩ = some (.slice (some ⟨pb, 0, none⟩) m.length cap)) := fun V hV => by
    rw [hV.cell (p := ⟨nb, 0, none⟩) h.lt.1]
    simp [World.cell?, hb]
  have c0 := HC.out w (Below.refl _ _)
  have IT := hide (itoa_any m.length (by omega) w hg)
  have E0 : Hid ((⟨#[114, 101, 117, 110, 105, 111, 110, 32]⟩ : ByteArray) ++ ofBs (decDigits m.length) = ofBs (bs reunionW ++ decDigits m.length)) := by
    unfold Hid
    apply bs_inj
    rw [bs_append, bs_ofBs, bs_ofBs]
    rfl
  have s0 : (ofBs (decDigits m.length)).size ≤ 1000 := by rw [ofBs_size]; have := dig_len 10 m.length (Nat.lt_of_le_of_lt n6 (by decide)); omega
  have ST : Hid (∀ (w1 : World) (s1 : ByteArray), Below w.heap.size w w1 → s1 = ofBs (bs reunionW ++ decDigits m.length) → NL w (w1.alloc (.cells #[.string s1] 9)) (.slice (some ⟨w1.heap.size, 0, none⟩) 1 1) m 0) := fun w1 s1 hb1 hs => ⟨hb1.alloc hb1.size _, by
    have : (preN m 0).map ofBs = [s1] := by rw [hs]; rfl
    rw [this]
    exact World.ownsRow_lit w1 #[.string s1] 1 hb1.size (by unfold maxLen; omega) rfl⟩
  have LN : Hid (∀ W, Below w.heap.size w W → ∀ i, i < m.length → ∃ rb d, m[i]? = some d ∧ W.cell? ⟨pb, i, none⟩ = some (.pointer (some ⟨rb, 0, none⟩)) ∧ Calls Tryz.prog 73 #[.pointer (some ⟨rb, 0, none⟩), .int .i64 m.length] W fun e w' => ∃ g cap, e = .returned (.slice (some ⟨g, 0, none⟩) (d.recs.length + 1) cap) ∧ w'.ownsRow W.heap.size 9 1 (.slice (some ⟨g, 0, none⟩) (d.recs.length + 1) cap) (d.recs.length + 1) (svs ((linesD d).map ofBs)) ∧ Below W.heap.size W w') := fun W hW i hi => by
    obtain ⟨rb, mb, d, a1, _, a3, a4⟩ := (h.below hW).at i hi
    have hdm := List.mem_of_getElem? a1
    exact ⟨rb, d, a1, a3, Lines_form rb i mb d m.length n1 n6 (hm.oks d hdm) (hgn.reps i d a1) (by have := hr d hdm; omega) W a4 (hg.below hW)⟩
  have PL := hide (preN_len m hr)
  have HR := hide hr
  generalize hn : m.length = n at *
  generalize ofBs (decDigits n) = dd at *
  have q1 : ¬ 9223372036854775807 < 8 + dd.size := by omega
  clear h hb hm hgn hr hg
  go_enter Tryz.func39, Tryz.ntmps39
  go_wp2_with (go_at_call 72; refine IT.out.mono ?_; rintro e w1 ⟨rfl, hb1⟩; have c1 := HC.out w1 hb1; have N1 := hide (ST.out w1 _ hb1 E0.out); have c2 := HC.out _ N1.out.bel; clear hb1)
  clear c0 q1 s0
  go_loopw [4, 21] (fun lv iv wr => ∃ i : Nat, i ≤ n ∧ iv = .int .i64 i ∧ Hid (NL w wr lv m i)) (fun _ iv _ => n - (intOf iv).toNat)
  case atStart => exact ⟨0, Nat.zero_le _, rfl, N1⟩
  case round =>
    clear N1 c1 c2 IT E0 ST
    obtain ⟨i, hi, rfl, hN⟩ := hrel
    by_cases hlt : i < n
    · obtain ⟨rb, d, hd, hc, hL⟩ := LN.out wr hN.out.bel i hlt
      have LL := hide hL
      have hdl : d.recs.length ≤ 10000000 := HR.out d (List.mem_of_getElem? hd)
      have hpl := PL.out i (by omega)
      have NX : Hid (∀ (w3 : World) (g cap' : Nat), w3.ownsRow w.heap.size 9 1 (.slice (some ⟨g, 0, none⟩) ((preN m i).length + (d.recs.length + 1)) cap') ((preN m i).length + (d.recs.length + 1)) (svs ((preN m i).map ofBs) ++ svs ((linesD d).map ofBs)) → Below w.heap.size w w3 → NL w w3 (.slice (some ⟨g, 0, none⟩) ((preN m i).length + (d.recs.length + 1)) cap') m (i + 1)) := fun w3 g cap' ho hb3 => ⟨hb3, by
        have e1 : (preN m (i + 1)).length = (preN m i).length + (d.recs.length + 1) := by rw [preN_step m i d hd, List.length_append]; unfold linesD; simp
        have e2 : svs ((preN m (i + 1)).map ofBs) = svs ((preN m i).map ofBs) ++ svs ((linesD d).map ofBs) := by rw [preN_step m i d hd, List.map_append, svs_append]
        rw [e1, e2]
        exact ho⟩
      have hll : ((linesD d).map ofBs).length = d.recs.length + 1 := by unfold linesD; simp
      have BG : Hid (∀ w2 w3 : World, NL w w2 u4 m i → w2.grownBy w3 u4.ownBlock → Below w.heap.size w w3) := fun w2 w3 hn2 hg3 => grown_below hn2.bel hg3 (fun k hk => (World.ownsRow.lt hn2.own k hk).1)
      have OW : Hid (∀ w2 : World, NL w w2 u4 m i → w2.ownsRow w.heap.size 9 1 u4 (preN m i).length (svs ((preN m i).map ofBs))) := fun w2 hn2 => hn2.own
      generalize (preN m i).length = pl at *
      generalize (linesD d).map ofBs = ls at *
      generalize d.recs.length = dl at *
      clear hL hd
      go_wp2_with (first
        | (go_at_call 73; refine LL.out.mono ?_; rintro e w2 ⟨g2, c2, rfl, ho2, hb2⟩; have N2 := hide (hN.out.more hb2); have O2 := hide ho2; clear ho2 hb2)
        | (at_builtin; refine app_row _ rfl (.tmp 25) (.tmp 28) rfl w.heap.size u4 pl _ rfl (OW.out w2 N2.out) g2 (dl + 1) c2 wr.heap.size ls hll (by omega) rfl O2.out (by omega) (by have := N2.out.bel.size; omega) ?_; intro g3 c3 w3 ho3 hgr3 hat3 hl3; have N3 := hide (NX.out w3 g3 c3 ho3 (BG.out w2 w3 N2.out hgr3)); clear ho3 hgr3 hat3 hl3))
      go_roundw
      case rel => exact ⟨i + 1, by omega, by go_num, N3⟩
      case measure => simp [intOf]; omega
    · have ei : i = n := by omega
      subst ei
      have EL : Hid (preN m i = linesN m) := by unfold Hid; rw [← hn]; exact preN_all m
      go_wp2
      go_ret
      refine ⟨_, rfl, ?_, hN.out.bel⟩
      rw [← EL.out]
      exact hN.out.own

end Go.Proofs.YtaelaldmibgibaaGreatDoor

namespace Go.Proofs.YtaelaldmibgibaaGreatDoor
open Go.RowKit Go.Lib Go.Maps

/-- a new replica of the program's -/
structure RL (w W : World) (rb s mb : Nat) (cm : Nat → Int) (E : Recs) : Prop where
  rp : Rp W rb s cm mb E
  bel : Below w.heap.size w W
  lr : w.heap.size ≤ rb
  lm : w.heap.size ≤ mb
section
variable {w W W' : World} {rb s mb : Nat} {cm : Nat → Int} {E E' : Recs}
theorem RL.more (h : RL w W rb s mb cm E) (hb : Below W.heap.size W W') : RL w W' rb s mb cm E := ⟨h.rp.below hb, h.bel.trans (hb.mono h.bel.size), h.lr, h.lm⟩
theorem RL.time (h : RL w W rb s mb cm E) (f : Nat → Int) : RL w (W.setCells rb 1 [.int .i64 (f 0), .int .i64 (f 1), .int .i64 (f 2), .int .i64 (f 3), .int .i64 (f 4), .int .i64 (f 5)]) rb s mb f E :=
  ⟨⟨h.rp.rep.setTime f, ownsMap_keep h.rp.own (heap_setCells_other _ _ _ _ _ (fun e => h.rp.rep.ne h.rp.own e.symm)), h.rp.ris⟩, Below.setCells h.bel h.lr _ _, h.lr, h.lm⟩
theorem RL.fr (h : RL w W rb s mb cm E) (hr : Rp W' rb s cm mb E') (hf : Fr (fun k => k = mb) W W') : RL w W' rb s mb cm E' :=
  ⟨hr, h.bel.trans ((hf.mono (T := fun k => w.heap.size ≤ k) (fun k _ e => by rw [e]; exact h.lm)).below h.bel.size), h.lr, h.lm⟩
theorem RL.frb (h : RL w W rb s mb cm E) (hf : Fr (fun k => k = mb) W W') : Below w.heap.size w W' :=
  h.bel.trans ((hf.mono (T := fun k => w.heap.size ≤ k) (fun k _ e => by rw [e]; exact h.lm)).below h.bel.size)
end

attribute [local go_sem ↓] stTime
attribute [local go_sem] stTime2
set_option maxRecDepth 100000 in
set_option maxHeartbeats 2000000 in
theorem ReadLines_any (t : ByteArray) (ht : t.size ≤ 10000000) (s : Nat) (hs : s < 6) (n : Nat) (h1 : 1 ≤ n) (h6 : n ≤ 6) (w : World) (hg : Glob w) :
    Calls Tryz.prog 81 #[.string t, .int .i64 s, .int .i64 n] w fun e w' => LAns (repR n s (bs t)) w' s w.heap.size e ∧ Below w.heap.size w w' := by
  have CL := hide (cutLine_cap t ht w hg)
  have NO : Hid (repR n s (bs t) = none → ∀ W, Below w.heap.size w W → LAns (repR n s (bs t)) W s w.heap.size (.returned (.tuple #[.pointer none, .string ⟨#[]⟩, .bool false])) ∧ Below w.heap.size w W) := fun e W hW => by
    rw [e]
    exact ⟨rfl, hW⟩
  by_cases hl : (fieldsR (bs t)).length = 2
  · obtain ⟨a, b, hf⟩ : ∃ a b, fieldsR (bs t) = [a, b] := by
      match hq : fieldsR (bs t), hl with
      | [a, b], _ => exact ⟨a, b, rfl⟩
    have er : repR n s (bs t) = if a = replW then (timeR n b).bind fun c => (recsR n s (lfn c) ((restR (bs t)).length + 1) (restR (bs t)) ⟨#[]⟩).bind fun x => if filesD x.2 ≤ 20 then some (x.1, ⟨c, x.2⟩) else none else none := by
      unfold repR
      rw [hf]
    have hsz : ∀ q ∈ [a, b], q.length ≤ 10000000 := fun q hq => by
      have h1 := sepBy_part 32 (fieldsR (bs t)) q (by rw [hf]; exact hq)
      rw [fields_join] at h1
      have h2 := (cut_size 10 (bs t)).1
      rw [bs_len] at h2
      unfold lineR at h1
      omega
    have hrs : (ofBs (restR (bs t))).size ≤ 10000000 := by
      rw [ofBs_size]
      have h2 := (cut_size 10 (bs t)).2
      rw [bs_len] at h2
      unfold restR
      omega
    rw [hf] at CL
    have FP : Hid (∀ (W : World) (B : Nat), Flds W B [a, b] → W.cell? ⟨B, 0, none⟩ = some (.string (ofBs a)) ∧ W.cell? ⟨B, 1, none⟩ = some (.string (ofBs b))) := fun W B hF => ⟨hF.pc 0 a rfl, hF.pc 1 b rfl⟩
    have HQ : Hid (((ofBs a).toList == [114, 101, 112, 108, 105, 99, 97]) = decide (a = replW)) := by
      unfold Hid
      rw [ByteArray.toList_eq]
      show ((bs (ofBs a)) == replW) = _
      rw [bs_ofBs]
      by_cases e : a = replW
      · rw [e]; decide
      · rw [decide_eq_false e]; simpa using e
    simp only [List.length_cons, List.length_nil] at CL
    by_cases ha : a = replW
    · rw [if_pos ha] at er
      have hq : ((ofBs a).toList == [114, 101, 112, 108, 105, 99, 97]) = true := HQ.out.trans (decide_eq_true ha)
      have NW := hide (fun W => pnew_any s hs W)
      have RTm : Hid (∀ W, Below w.heap.size w W → Calls Tryz.prog 146 #[.string (ofBs b), .int .i64 n] W fun e w' => e = .returned (.tuple #[timeVal (lfn ((timeR n b).getD [])), .bool (timeR n b).isSome]) ∧ Below W.heap.size W w') := fun W hW => by
        have := ReadTime_any (ofBs b) (by rw [ofBs_size]; exact hsz b (by simp)) n h1 h6 W (hg.below hW)
        rw [bs_ofBs] at this
        exact this
      unfold timeVal at RTm
      have NL : Hid (∀ w1 w2 : World, Below w.heap.size w w1 → PRep w2 (w1.heap.size + 1) s w1.heap.size 0 [] → Below w1.heap.size w1 w2 → RL w w2 (w1.heap.size + 1) s w1.heap.size (tf s 0) []) := fun w1 w2 hb hp hb2 => ⟨⟨hp.rep, hp.own, hp.ris⟩, hb.trans (hb2.mono hb.size), by have := hb.size; omega, hb.size⟩
      have FK : Hid (∀ (w1 w2 : World) (B : Nat), Flds w1 B [a, b] → Below w1.heap.size w1 w2 → w2.cell? ⟨B, 1, none⟩ = some (.string (ofBs b))) := fun w1 w2 B hF hb => (hF.below hb).pc 1 b rfl
      cases htm : timeR n b with
      | none =>
        rw [htm] at er RTm
        have NO' := hide (NO.out er)
        simp only [Option.isSome_none] at RTm
        generalize lfn ((none : Option (List Nat)).getD []) = f at *
        generalize ofBs (restR (bs t)) = rs at *
        generalize repR n s (bs t) = RR at *
        clear hg NO er HQ
        generalize ofBs a = sa at *
        generalize ofBs b = sb at *
        go_enter Tryz.func81, Tryz.ntmps81
        go_wp2_with (first
          | (go_at_call 145; refine CL.out.mono ?_; rintro e w1 ⟨B, C, rfl, hF, hB, hb1, hcp⟩; have HB := hide hb1; have HF := hide hF; obtain ⟨f0, f1⟩ := FP.out w1 B hF; clear hF hB hb1 hcp)
          | (go_at_call 48; refine (NW.out _).mono ?_; rintro e w2 ⟨rfl, hp2, hb2, hz2⟩; have L2 := hide (NL.out w1 w2 HB.out hp2 hb2); have f1' := FK.out w1 w2 B HF.out hb2; clear hp2 hb2 hz2)
          | (go_at_call 146; refine (RTm.out _ L2.out.bel).mono ?_; rintro e w3 ⟨rfl, hb3⟩; have L3 := hide (L2.out.more hb3); clear hb3; have th3 := L3.out.rp.rep.there; have L4 := hide (L3.out.time f)))
        go_ret3
        exact NO'.out _ L4.out.bel
      | some c =>
        rw [htm] at er RTm
        simp only [Option.isSome_some, Option.getD_some] at RTm
        have RD : Hid (∀ (W : World) (rb mb : Nat), RL w W rb s mb (lfn c) [] → Calls Tryz.prog 147 #[.pointer (some ⟨rb, 0, none⟩), .string (ofBs (restR (bs t))), .int .i64 n] W fun e w' => RAns (recsR n s (lfn c) ((restR (bs t)).length + 1) (restR (bs t)) ⟨#[]⟩) w' rb s (lfn c) mb e ∧ Fr (fun k => k = mb) W w') := fun W rb mb hL => by
          have := readRecords_any rb s (lfn c) mb (ofBs (restR (bs t))) hrs n h1 h6 W (hg.below hL.bel) hL.rp (by have := hg.sz; have := hL.lm; omega)
          rw [ofBs_size, bs_ofBs] at this
          exact this
        simp only [Option.bind_some] at er
        cases hrc : recsR n s (lfn c) ((restR (bs t)).length + 1) (restR (bs t)) ⟨#[]⟩ with
        | none =>
          rw [hrc] at er RD
          have NO' := hide (NO.out er)
          generalize lfn c = f at *
          generalize ofBs (restR (bs t)) = rs at *
          generalize repR n s (bs t) = RR at *
          clear hg NO er HQ hrc
          generalize ofBs a = sa at *
          generalize ofBs b = sb at *
          go_enter Tryz.func81, Tryz.ntmps81
          go_wp2_with (first
            | (go_at_call 145; refine CL.out.mono ?_; rintro e w1 ⟨B, C, rfl, hF, hB, hb1, hcp⟩; have HB := hide hb1; have HF := hide hF; obtain ⟨f0, f1⟩ := FP.out w1 B hF; clear hF hB hb1 hcp)
            | (go_at_call 48; refine (NW.out _).mono ?_; rintro e w2 ⟨rfl, hp2, hb2, hz2⟩; have L2 := hide (NL.out w1 w2 HB.out hp2 hb2); have f1' := FK.out w1 w2 B HF.out hb2; clear hp2 hb2 hz2)
            | (go_at_call 146; refine (RTm.out _ L2.out.bel).mono ?_; rintro e w3 ⟨rfl, hb3⟩; have L3 := hide (L2.out.more hb3); clear hb3; have th3 := L3.out.rp.rep.there; have L4 := hide (L3.out.time f))
            | (go_at_call 147; refine (RD.out _ _ _ L4.out).mono ?_; rintro e w5 ⟨hA, hf5⟩; obtain rfl := hA; have F5 := hide (L4.out.frb hf5); clear hf5))
          go_ret3
          exact NO'.out _ F5.out
        | some x =>
          obtain ⟨R, D⟩ := x
          rw [hrc] at er RD
          simp only [Option.bind_some] at er
          obtain ⟨m1, m2, m3, m4⟩ := recsR_made n s h1 h6 (lfn c) _ _ _ _ hrc
          simp only at m1 m2 m3 m4
          have hDl : D.length ≤ 10000000 := by rw [ofBs_size] at hrs; omega
          have FI : Hid (∀ (W : World) (rb mb : Nat), RL w W rb s mb (lfn c) (toE D) → Calls Tryz.prog 129 #[.pointer (some ⟨rb, 0, none⟩)] W fun e w' => e = .returned (.int .i64 (filesD D)) ∧ RL w w' rb s mb (lfn c) (toE D)) := fun W rb mb hL => by
            have := pfiles_gen rb s (lfn c) mb W hL.rp.rep (toE D) hL.rp.ris (by rw [toE_len]; omega) hL.rp.own
            rw [toE_there D m1] at this
            exact this.mono fun e w' h => ⟨h.1, hL.more h.2⟩
          by_cases h20 : filesD D ≤ 20
          · rw [if_pos h20] at er
            have d20 : decide ((20 : Int) < (filesD D : Int)) = false := by simp; omega
            have YES : Hid (∀ (W : World) (rb mb : Nat), RL w W rb s mb (lfn c) (toE D) → LAns (repR n s (bs t)) W s w.heap.size (.returned (.tuple #[.pointer (some ⟨rb, 0, none⟩), .string (ofBs R), .bool true])) ∧ Below w.heap.size w W) := fun W rb mb hL => by
              rw [er]
              exact ⟨⟨rb, mb, rfl, hL.rp, hL.lr, hL.lm⟩, hL.bel⟩
            generalize filesD D = F at *
            generalize lfn c = f at *
            generalize ofBs (restR (bs t)) = rs at *
            generalize repR n s (bs t) = RR at *
            clear hg NO er HQ hrc m1 m2 m3 m4
            generalize ofBs a = sa at *
            generalize ofBs b = sb at *
            go_enter Tryz.func81, Tryz.ntmps81
            go_wp2_with (first
              | (go_at_call 145; refine CL.out.mono ?_; rintro e w1 ⟨B, C, rfl, hF, hB, hb1, hcp⟩; have HB := hide hb1; have HF := hide hF; obtain ⟨f0, f1⟩ := FP.out w1 B hF; clear hF hB hb1 hcp)
              | (go_at_call 48; refine (NW.out _).mono ?_; rintro e w2 ⟨rfl, hp2, hb2, hz2⟩; have L2 := hide (NL.out w1 w2 HB.out hp2 hb2); have f1' := FK.out w1 w2 B HF.out hb2; clear hp2 hb2 hz2)
              | (go_at_call 146; refine (RTm.out _ L2.out.bel).mono ?_; rintro e w3 ⟨rfl, hb3⟩; have L3 := hide (L2.out.more hb3); clear hb3; have th3 := L3.out.rp.rep.there; have L4 := hide (L3.out.time f))
              | (go_at_call 147; refine (RD.out _ _ _ L4.out).mono ?_; rintro e w5 ⟨hA, hf5⟩; obtain ⟨rfl, hr5⟩ := hA; have L5 := hide (L4.out.fr hr5 hf5); clear hf5 hr5)
              | (go_at_call 129; refine (FI.out _ _ _ L5.out).mono ?_; rintro e w6 ⟨rfl, hl6⟩; have L6 := hide hl6; clear hl6))
            go_ret3
            exact YES.out _ _ _ L6.out
          · rw [if_neg h20] at er
            have NO' := hide (NO.out er)
            have d20 : decide ((20 : Int) < (filesD D : Int)) = true := by simp; omega
            generalize filesD D = F at *
            generalize lfn c = f at *
            generalize ofBs (restR (bs t)) = rs at *
            generalize repR n s (bs t) = RR at *
            clear hg NO er HQ hrc m1 m2 m3 m4
            generalize ofBs a = sa at *
            generalize ofBs b = sb at *
            go_enter Tryz.func81, Tryz.ntmps81
            go_wp2_with (first
              | (go_at_call 145; refine CL.out.mono ?_; rintro e w1 ⟨B, C, rfl, hF, hB, hb1, hcp⟩; have HB := hide hb1; have HF := hide hF; obtain ⟨f0, f1⟩ := FP.out w1 B hF; clear hF hB hb1 hcp)
              | (go_at_call 48; refine (NW.out _).mono ?_; rintro e w2 ⟨rfl, hp2, hb2, hz2⟩; have L2 := hide (NL.out w1 w2 HB.out hp2 hb2); have f1' := FK.out w1 w2 B HF.out hb2; clear hp2 hb2 hz2)
              | (go_at_call 146; refine (RTm.out _ L2.out.bel).mono ?_; rintro e w3 ⟨rfl, hb3⟩; have L3 := hide (L2.out.more hb3); clear hb3; have th3 := L3.out.rp.rep.there; have L4 := hide (L3.out.time f))
              | (go_at_call 147; refine (RD.out _ _ _ L4.out).mono ?_; rintro e w5 ⟨hA, hf5⟩; obtain ⟨rfl, hr5⟩ := hA; have L5 := hide (L4.out.fr hr5 hf5); clear hf5 hr5)
              | (go_at_call 129; refine (FI.out _ _ _ L5.out).mono ?_; rintro e w6 ⟨rfl, hl6⟩; have L6 := hide hl6; clear hl6))
            go_ret3
            exact NO'.out _ L6.out.bel
    · rw [if_neg ha] at er
      have NO' := hide (NO.out er)
      have hq : ((ofBs a).toList == [114, 101, 112, 108, 105, 99, 97]) = false := HQ.out.trans (decide_eq_false ha)
      generalize ofBs (restR (bs t)) = rs at *
      generalize repR n s (bs t) = RR at *
      clear hg NO er HQ
      generalize ofBs a = sa at *
      generalize ofBs b = sb at *
      go_enter Tryz.func81, Tryz.ntmps81
      go_wp2_with (go_at_call 145; refine CL.out.mono ?_; rintro e w1 ⟨B, C, rfl, hF, hB, hb1, hcp⟩; have HB := hide hb1; have HF := hide hF; obtain ⟨f0, f1⟩ := FP.out w1 B hF; clear hF hB hb1 hcp)
      go_ret3
      exact NO'.out _ HB.out
  · have er : repR n s (bs t) = none := by
      unfold repR
      split
      · rename_i a b hf; rw [hf] at hl; simp at hl
      · rfl
    have NO' := hide (NO.out er)
    have d2 : (((fieldsR (bs t)).length : Int) != 2) = true := by simp; omega
    have d3 : ¬ ((fieldsR (bs t)).length : Int) = 2 := by omega
    generalize (fieldsR (bs t)).length = L at *
    generalize fieldsR (bs t) = fs at *
    generalize ofBs (restR (bs t)) = rs at *
    generalize repR n s (bs t) = RR at *
    clear hg NO er
    go_enter Tryz.func81, Tryz.ntmps81
    go_wp2_with (go_at_call 145; refine CL.out.mono ?_; rintro e w1 ⟨B, C, rfl, hF, hB, hb1, hcp⟩; have HB := hide hb1; clear hF hB hb1 hcp)
    go_ret3
    exact NO'.out _ HB.out

end Go.Proofs.YtaelaldmibgibaaGreatDoor

namespace Go.Proofs.YtaelaldmibgibaaGreatDoor
open Go.RowKit Go.Lib Go.Maps

theorem repR_len (n s : Nat) (hn : 1 ≤ n) (h6 : n ≤ 6) (t : Bs) (x : Bs × DR) (h : repR n s t = some x) : x.1.length ≤ t.length ∧ x.2.recs.length ≤ t.length := by
  unfold repR at h
  split at h
  · split at h
    · obtain ⟨c, _, h⟩ := Option.bind_eq_some_iff.1 h
      obtain ⟨y, hy, h⟩ := Option.bind_eq_some_iff.1 h
      split at h
      · cases h
        have := (recsR_made n s hn h6 _ _ _ _ _ hy).2.2.2
        have h2 := (cut_size 10 t).2
        unfold restR at this
        simp only
        omega
      · cases h
    · cases h
  · cases h

/-- while replicas are read: the net, whose first replicas are read -/
structure NU (w wr : World) (nb pb n : Nat) (rbs mbs : List Nat) (acc : List DR) : Prop where
  bel : Below w.heap.size w wr
  blk : ∃ cap, wr.heap[nb]? = some (.cells #[.slice (some ⟨pb, 0, none⟩) n cap] 97 (0, 0))
  here : ∀ j, j < n → (wr.cell? ⟨pb, j, none⟩).isSome = true
  fz : ∀ j, wr.frozen? ⟨pb, j, none⟩ = false
  gp : w.heap.size ≤ pb
  lp : pb < wr.heap.size
  ne : nb ≠ pb
  rl : rbs.length = acc.length
  ml : mbs.length = acc.length
  row : ∀ (r b : Nat), rbs[r]? = some b → wr.cell? ⟨pb, r, none⟩ = some (.pointer (some ⟨b, 0, none⟩))
  rep : ∀ (r rb mb : Nat) d, rbs[r]? = some rb → mbs[r]? = some mb → acc[r]? = some d → Rp wr rb r (lfn d.com) mb (toE d.recs) ∧ rb ≠ pb ∧ mb ≠ pb
  n6 : n ≤ 6
section
variable {w wr w2 : World} {nb pb n : Nat} {rbs mbs : List Nat} {acc : List DR}
theorem NU.ln (h : NU w wr nb pb n rbs mbs acc) : nb < wr.heap.size := by
  obtain ⟨cap, hb⟩ := h.blk
  exact (Array.getElem?_eq_some_iff.1 hb).1
theorem NU.more (h : NU w wr nb pb n rbs mbs acc) (hb : Below wr.heap.size wr w2) : NU w w2 nb pb n rbs mbs acc := by
  have hc : ∀ j, w2.cell? ⟨pb, j, none⟩ = wr.cell? ⟨pb, j, none⟩ := fun j => hb.cell (p := ⟨pb, j, none⟩) h.lp
  refine ⟨h.bel.trans (hb.mono h.bel.size), ?_, fun j hj => by rw [hc]; exact h.here j hj, fun j => (hb.frozen (p := ⟨pb, j, none⟩) h.lp).trans (h.fz j), h.gp, Nat.lt_of_lt_of_le h.lp hb.size, h.ne, h.rl, h.ml, fun r b hr => by rw [hc]; exact h.row r b hr, fun r rb mb d a b c => ?_, h.n6⟩
  · obtain ⟨cap, q⟩ := h.blk
    exact ⟨cap, by rw [hb.block nb h.ln]; exact q⟩
  · obtain ⟨q1, q2⟩ := h.rep r rb mb d a b c
    exact ⟨q1.below hb, q2⟩
/-- one more is read -/
theorem NU.put (h : NU w wr nb pb n rbs mbs acc) (hi : acc.length < n) {rb mb : Nat} {d : DR} (hr : Rp wr rb acc.length (lfn d.com) mb (toE d.recs)) (h1 : rb ≠ pb) (h2 : mb ≠ pb) : NU w (wr.setCell ⟨pb, acc.length, none⟩ (.pointer (some ⟨rb, 0, none⟩))) nb pb n (rbs ++ [rb]) (mbs ++ [mb]) (acc ++ [d]) := by
  have hk : ∀ k, k ≠ pb → (wr.setCell ⟨pb, acc.length, none⟩ (.pointer (some ⟨rb, 0, none⟩))).heap[k]? = wr.heap[k]? := fun k hk => heap_set_other (by simp only; exact hk)
  have hkeep : ∀ {rb' mb' r' : Nat} {c' : Nat → Int} {E' : Recs}, Rp wr rb' r' c' mb' E' → rb' ≠ pb → mb' ≠ pb → Rp (wr.setCell ⟨pb, acc.length, none⟩ (.pointer (some ⟨rb, 0, none⟩))) rb' r' c' mb' E' := fun q a b => q.keep (hk _ a) (hk _ b)
  have hsz : (wr.setCell ⟨pb, acc.length, none⟩ (.pointer (some ⟨rb, 0, none⟩))).heap.size = wr.heap.size := by simp [World.setCell]
  obtain ⟨u, hu⟩ := Option.isSome_iff_exists.1 (h.here acc.length hi)
  have same : (wr.setCell ⟨pb, acc.length, none⟩ (.pointer (some ⟨rb, 0, none⟩))).cell? ⟨pb, acc.length, none⟩ = some (.pointer (some ⟨rb, 0, none⟩)) := World.cell?_setCell_same _ _ _ hu
  have other : ∀ j, j ≠ acc.length → (wr.setCell ⟨pb, acc.length, none⟩ (.pointer (some ⟨rb, 0, none⟩))).cell? ⟨pb, j, none⟩ = wr.cell? ⟨pb, j, none⟩ := fun j hj => World.cell?_setCell_other _ _ _ _ (by simp <;> omega)
  refine ⟨?_, ?_, fun j hj => ?_, fun j => by rw [World.frozen?_setCell]; exact h.fz j, h.gp, by rw [hsz]; exact h.lp, h.ne, by simp [h.rl], by simp [h.ml], fun r b hr' => ?_, fun r rb' mb' d' a b c => ?_, h.n6⟩
  · have := Below.setCells h.bel h.gp [.pointer (some ⟨rb, 0, none⟩)] acc.length
    exact this
  · obtain ⟨cap, q⟩ := h.blk
    exact ⟨cap, by rw [hk nb h.ne]; exact q⟩
  · by_cases e : j = acc.length
    · rw [e, same]; rfl
    · rw [other j e]; exact h.here j hj
  · by_cases e : r = acc.length
    · subst e
      rw [List.getElem?_append_right (by rw [h.rl]; exact Nat.le_refl _), h.rl] at hr'
      simp at hr'
      rw [same, hr']
    · have hlt : r < rbs.length := by
        have := (List.getElem?_eq_some_iff.1 hr').1
        simp at this
        have := h.rl
        omega
      rw [List.getElem?_append_left hlt] at hr'
      rw [other r e]
      exact h.row r b hr'
  · by_cases e : r = acc.length
    · subst e
      rw [List.getElem?_append_right (by rw [h.rl]; exact Nat.le_refl _), h.rl] at a
      rw [List.getElem?_append_right (by rw [h.ml]; exact Nat.le_refl _), h.ml] at b
      rw [List.getElem?_append_right (Nat.le_refl _)] at c
      simp at a b c
      subst a b c
      exact ⟨hkeep hr h1 h2, h1, h2⟩
    · have hlt : r < acc.length := by
        have := (List.getElem?_eq_some_iff.1 c).1
        simp at this
        omega
      rw [List.getElem?_append_left (by rw [h.rl]; exact hlt)] at a
      rw [List.getElem?_append_left (by rw [h.ml]; exact hlt)] at b
      rw [List.getElem?_append_left hlt] at c
      obtain ⟨q1, q2, q3⟩ := h.rep r rb' mb' d' a b c
      exact ⟨hkeep q1 q2 q3, q2, q3⟩
theorem NU.net (h : NU w wr nb pb n rbs mbs acc) (hl : acc.length = n) : UNet wr nb pb rbs mbs acc :=
  ⟨⟨by rw [hl]; exact h.blk, h.rl, h.row, by rw [hl]; exact h.n6⟩, h.ml, fun r rb mb d a b c => (h.rep r rb mb d a b c).1, h.ln, h.lp⟩
theorem NU.start {P : PN} (h : PNet wr nb P (newAbs n)) (hb : Below w.heap.size w wr) (hm : ∀ k, P.mem nb k → w.heap.size ≤ k) (hf : ∀ j, wr.frozen? ⟨P.pb, j, none⟩ = false) : NU w wr nb P.pb n [] [] [] := by
  have hn : (newAbs n).n = n := rfl
  have hnd := h.nd
  rw [List.nodup_cons] at hnd
  refine ⟨hb, h.net.blk, fun j hj => ?_, hf, hm _ (.inr (.inl rfl)), h.lt _ (.inr (.inl rfl)), fun e => hnd.1 (by rw [e]; simp), rfl, rfl, by simp, by simp, h.net.n6⟩
  have hl := h.net.len
  have hj' : j < P.rbs.length := by rw [hl]; exact hj
  rw [h.net.row j _ (List.getElem?_eq_getElem hj')]
  rfl
end

end Go.Proofs.YtaelaldmibgibaaGreatDoor
