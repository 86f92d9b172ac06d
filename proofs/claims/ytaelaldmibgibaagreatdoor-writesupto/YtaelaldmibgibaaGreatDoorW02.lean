/- The document's answer: spent, fresh, equal, files. The document's answer: equal, asked, files. The document's answer in memory: what single stores make of a net. -/
import Derived.Test.YtaelaldmibgibaaGreatDoorW01
import Derived.Deep.RegionWith
import Derived.Deep.RegionHeld3
import Derived.Deep.DrawnRows
import Derived.BigQuiet
import Derived.Deep.QuietTactic

namespace Go.Proofs.YtaelaldmibgibaaGreatDoor
open Go.RowKit
attribute [local go_sem ↓] Go.wp_at_zero Go.wp_at_succ
/-- a store of a whole spot, kept from the walk's own way of storing -/
def stM (t : TypeId) (p v : Value) : Sem Unit := Instr.storeAt t p v
theorem stSpot (p v : Value) : Instr.storeAt 117 p v = stM 117 p v := rfl
theorem run_stSpot (w : World) (b : Nat) (x0 : Bool) (x1 : ByteArray) (x2 x3 : Int) (a4 a5 : Option Addr) (n4 c4 n5 c5 : Nat) (ht : w.there b 0 6) :
    (stM 117 (.pointer (some ⟨b, 0, none⟩)) (.agg #[.bool x0, .string x1, .int .i64 x2, .int .i64 x3, .slice a4 n4 c4, .slice a5 n5 c5])).run Tryz.prog w =
      .ok () (w.setCells b 0 [.bool x0, .string x1, .int .i64 x2, .int .i64 x3, .slice a4 n4 c4, .slice a5 n5 c5]) :=
  run_storeAt_mid w b 0 _ #[.bool x0, .string x1, .int .i64 x2, .int .i64 x3, .slice a4 n4 c4, .slice a5 n5 c5] ht size_Spot (by simp [Value.oneCell'])
attribute [local go_sem ↓] stSpot
attribute [local go_sem] run_stSpot

theorem bcell {W w1 : World} (hb : Below W.heap.size W w1) : (∀ b o, b < W.heap.size → w1.cell? ⟨b, o, none⟩ = W.cell? ⟨b, o, none⟩) ∧ (∀ b o, b < W.heap.size → w1.frozen? ⟨b, o, none⟩ = W.frozen? ⟨b, o, none⟩) :=
  ⟨fun b o h => hb.cell (p := ⟨b, o, none⟩) h, fun b o h => hb.frozen (p := ⟨b, o, none⟩) h⟩

/-- the count of a replica -/
def RS.count (S : RS) (r : Nat) : Int := ((S.coms[r]?.getD (.slice none 0 0, [])).2).getD r 0

set_option maxHeartbeats 400000 in
theorem spent_any (b r : Nat) (ρ : Nat → Nat × Nat) (S : RS) (w : World) (h : RefRep w b ρ S) (hr : r < S.n) :
    Calls Tryz.prog 151 #[.pointer (some ⟨b, 0, none⟩), .int .i64 r] w fun e w' => e = .returned (.bool (decide (1000000000 ≤ S.count r))) ∧ w' = w := by
  obtain ⟨cg, cc, g, cap, l, ec, hc, hx, hl, _, hg, _, _, hcell, _⟩ := h.common r hr
  have h2 := h.c2
  rw [ec] at h2
  have h6 := h.n6
  have hq := hcell r hr
  have hcount : S.count r = l.getD r 0 := by unfold RS.count; rw [hx]; rfl
  rw [hcount]
  clear hcount hcell hx h
  generalize l.getD r 0 = q at *
  generalize S.n = n at *
  clear ec hl
  go_enter Tryz.func151, Tryz.ntmps151
  go_wp2
  go_ret
  exact ⟨rfl, rfl⟩

set_option maxRecDepth 100000 in
set_option maxHeartbeats 300000 in
theorem fresh_any (b r : Nat) (ρ : Nat → Nat × Nat) (S : RS) (w : World) (h : RefRep w b ρ S) (hr : r < S.n) :
    Calls Tryz.prog 102 #[.pointer (some ⟨b, 0, none⟩), .int .i64 r] w fun e w' => ∃ chv tmv l x, S.coms[r]? = some (x, l) ∧
      e = .returned (.agg #[.bool false, .string .empty, .int .i64 0, .int .i64 0, chv, tmv]) ∧ w'.ownsRow w.heap.size 3 1 chv S.n (ivs (List.replicate S.n 0)) ∧
      w'.ownsRow w.heap.size 3 1 tmv l.length (ivs l) ∧ (∀ k, chv.ownBlock = some k → tmv.ownBlock ≠ some k) ∧ Below w.heap.size w w' := by
  obtain ⟨cg, cc, g, cap, l, ec, hc, hx, hl, _, hg, hcg, _, hcell, _⟩ := h.common r hr
  have h2 := h.c2
  rw [ec] at h2
  have h0 := h.c0
  have h6 := h.n6
  have h1 := h.n1
  have hrow : intRow w (.slice (some ⟨g, 0, none⟩) S.n cap) l := (h.com r _ hx).1
  have hb : b < w.heap.size := h.lt b (by rw [h.rb]; decide)
  have keepS : ∀ w', Mine w w.heap.size 6 w' → (Mine w w.heap.size 6 w' ∧ w'.cell? ⟨b, 0, none⟩ = some (.int .i64 S.n) ∧ w'.cell? ⟨b, 2, none⟩ = some (.slice (some ⟨cg, 0, none⟩) S.n cc) ∧ w'.cell? ⟨cg, r, none⟩ = some (.slice (some ⟨g, 0, none⟩) S.n cap) ∧ w'.there w.heap.size 0 6) := fun w' hm => by
    have hb' := hm.below
    exact ⟨hm, (hb'.cell (p := ⟨b, 0, none⟩) hb).trans h0, (hb'.cell (p := ⟨b, 2, none⟩) hb).trans h2, (hb'.cell (p := ⟨cg, r, none⟩) hcg).trans hc, hm.there⟩
  have HK := hide keepS
  have keepR : ∀ w', Mine w w.heap.size 6 w' → intRow w' (.slice (some ⟨g, 0, none⟩) S.n cap) l := fun w' hb' => ownsRow_keep hrow (fun k e => hb'.below.block k (by simp [Value.ownBlock] at e; omega))
  have HR := hide keepR
  have HX := hide hx
  clear keepS keepR hrow hx hcell
  generalize S.n = n at *
  clear h
  have hsz := size_Spot
  go_enter Tryz.func102, Tryz.ntmps102
  go_wp2
  have start := unhide HK _ (Mine.made' w #[.bool false, .string ⟨#[]⟩, .int .i64 0, .int .i64 0, .slice none 0 0, .slice none 0 0] 117 (n := 6) rfl).drew
  go_region_held3 (fun w' => Mine w w.heap.size 6 w' ∧ w'.cell? ⟨b, 0, none⟩ = some (.int .i64 n) ∧ w'.cell? ⟨b, 2, none⟩ = some (.slice (some ⟨cg, 0, none⟩) n cc) ∧ w'.cell? ⟨cg, r, none⟩ = some (.slice (some ⟨g, 0, none⟩) n cap) ∧ w'.there w.heap.size 0 6)
    (first | (refine unhide HK _ ?_; first | with_reducible exact Mine.setCells (by assumption) _ _ | with_reducible exact Mine.set6 (by assumption) _ _ _ _ _ _ | with_reducible exact Mine.call (by assumption) hb2 | with_reducible exact Mine.call (by assumption) hb1 | with_reducible exact And.left (by assumption)))
    (first
      | (go_at_call 49; refine (zeros_form n h1 h6 _).mono ?_; rintro e w1 ⟨g1, c1, rfl, ho1, hg1, hl1, hb1⟩)
      | (go_at_call 153; refine (copied_form _ l _ (unhide HR _ (And.left (by assumption))) (by omega) (by omega)).mono ?_; rintro e w2 ⟨g2, c2, rfl, ho2, hg2, hl2, hb2⟩))
  go_wp2
  have hm : Mine w w.heap.size 6 w2 := Mine.call (p := True) ⟨Mine.call start hb1, trivial⟩ hb2
  have hm1 : Mine w w.heap.size 6 w1 := Mine.call start hb1
  have hne1 : g1 ≠ w.heap.size := by simp at hg1; omega
  have hne2 : g2 ≠ w.heap.size := by have := hm1.lt; omega
  refine bodyPost_ret (ret_cell1 Tryz.results102 (a := ⟨w.heap.size, 0, none⟩) rfl (load_stored (cs := [_, _, _, _, _, _]) hm.there Tryz.underlying117 rfl size_Spot)) rfl ?_
  refine ⟨_, _, l, _, HX.out, rfl, ?_, ?_, ?_, (Mine.setCells (p := True) ⟨hm, trivial⟩ 0 _).below⟩
  · refine ownsRow_base (ownsRow_keep ho1 ?_) ?_
    · intro k hk
      simp [Value.ownBlock] at hk
      subst hk
      rw [heap_setCells_other _ _ _ _ _ hne1]
      exact hb2.block _ hl1
    · intro k hk
      simp [Value.ownBlock] at hk
      subst hk
      simp at hg1; omega
  · rw [hl] at ho2 ⊢
    refine ownsRow_base (ownsRow_keep ho2 ?_) ?_
    · intro k hk
      simp [Value.ownBlock] at hk
      subst hk
      rw [heap_setCells_other _ _ _ _ _ hne2]
    · intro k hk
      simp [Value.ownBlock] at hk
      subst hk
      have := hm1.below.size
      omega
  · intro k hk
    simp [Value.ownBlock] at hk ⊢
    subst hk
    omega

end Go.Proofs.YtaelaldmibgibaaGreatDoor

namespace Go.Proofs.YtaelaldmibgibaaGreatDoor
open Go.RowKit

theorem list_eq_take (a b : List Int) (n k : Nat) (ha : a.length = n) (hb : b.length = n) (hk : ¬ k < n) (h : a.take k = b.take k) : a = b := by
  rwa [List.take_of_length_le (by omega), List.take_of_length_le (by omega)] at h
theorem list_take_succ_eq (a b : List Int) (n k : Nat) (ha : a.length = n) (hb : b.length = n) (hk : k < n) (h : a.take k = b.take k) (he : a.getD k 0 = b.getD k 0) : a.take (k + 1) = b.take (k + 1) := by
  rw [List.take_succ_eq_append_getElem (by omega), List.take_succ_eq_append_getElem (by omega), h]
  simp [List.getElem?_eq_getElem (show k < a.length by omega), List.getElem?_eq_getElem (show k < b.length by omega)] at he
  rw [he]
theorem list_ne_at (a b : List Int) (k : Nat) (he : a.getD k 0 ≠ b.getD k 0) : a ≠ b := fun h => he (by rw [h])

set_option maxHeartbeats 400000 in
theorem equal_any (va vb : Value) (la lb : List Int) (w : World) (ha : intRow w va la) (hb : intRow w vb lb) (hl : la.length = lb.length) (h0 : 0 < la.length) (h6 : la.length ≤ 6) :
    Calls Tryz.prog 164 #[va, vb] w fun e w' => e = .returned (.bool (decide (la = lb))) ∧ ∃ nq, w' = w.drewN nq := by
  obtain ⟨g, cap, rfl, hg, hc, _, _⟩ := ha.form h0
  obtain ⟨g', cap', rfl, hg', hc', _, _⟩ := hb.form (by omega)
  rw [← hl] at hc' ⊢
  have HL : Hid (lb.length = la.length) := hl.symm
  clear ha hb hl
  generalize hn : la.length = n at *
  have HN : Hid (la.length = n) := hn
  clear hn
  go_enter Tryz.func164, Tryz.ntmps164
  go_wp2
  go_loopw [5] (fun i wr => ∃ k nq : Nat, k ≤ n ∧ i = .int .i64 k ∧ Hid (la.take k = lb.take k) ∧ wr = w.drewN nq) (fun i _ => n - (intOf i).toNat)
  case atStart => exact ⟨0, 0, Nat.zero_le _, rfl, by unfold Hid; simp, rfl⟩
  case round =>
    obtain ⟨k, nq, hk, rfl, he, rfl⟩ := hrel
    by_cases hlt : k < n
    · have h1 := hc k hlt
      have h2 := hc' k hlt
      have T := hide (list_take_succ_eq la lb n k HN.out HL.out hlt he.out)
      have N := hide (list_ne_at la lb k)
      clear hc hc'
      generalize la.getD k 0 = x at *
      generalize lb.getD k 0 = y at *
      by_cases hxy : x = y
      · have T' := hide (T.out hxy)
        clear T N
        subst hxy
        go_wp2_with fail
        go_quiet (fail)
        go_wp2
        go_roundw
        case rel => exact ⟨k + 1, _, by omega, by go_num, T', rfl⟩
        case measure => simp [intOf]; omega
      · have hb : (x != y) = true := by simp [hxy]
        have N' := hide (N.out hxy)
        clear T N
        go_wp2_with fail
        go_quiet (fail)
        go_wp2
        go_ret
        exact ⟨ret_bool (decide_eq_false (N'.out)).symm, _, World.drewN_drewN _ _ _⟩
    · have E : Hid (la = lb) := list_eq_take la lb n k HN.out HL.out hlt he.out
      clear hc hc'
      go_wp2
      go_ret
      exact ⟨ret_bool (decide_eq_true E.out).symm, _, rfl⟩

set_option maxHeartbeats 400000 in
theorem asked_any (b : Nat) (r : Int) (s : ByteArray) (ρ : Nat → Nat × Nat) (S : RS) (w : World) (h : RefRep w b ρ S) (hs : s.size ≤ maxLen) :
    Calls Tryz.prog 150 #[.pointer (some ⟨b, 0, none⟩), .int .i64 r, .string s] w fun e w' =>
      e = .returned (.int .i64 (if r < 0 ∨ (S.n : Int) ≤ r then 1 else if pathOk s = true then 0 else 2)) ∧ w' = w := by
  have h0 := h.c0
  generalize S.n = n at *
  clear h
  by_cases h1 : r < 0
  · have d1 : decide (r < 0) = true := by simp [h1]
    rw [if_pos (.inl h1)]
    go_enter Tryz.func150, Tryz.ntmps150
    go_wp2
    go_ret
    exact ⟨rfl, rfl⟩
  · have d1 : decide (r < 0) = false := by simp; omega
    by_cases h2 : (n : Int) ≤ r
    · rw [if_pos (.inr h2)]
      go_enter Tryz.func150, Tryz.ntmps150
      go_wp2
      go_ret
      exact ⟨rfl, rfl⟩
    · rw [if_neg (by omega)]
      cases hp : pathOk s with
      | true =>
        go_enter Tryz.func150, Tryz.ntmps150
        go_wp2_with (go_at_call 156; refine (IsPath_any s _ hs).mono ?_; rintro e w' ⟨rfl, rfl⟩)
        go_ret
        exact ⟨rfl, rfl⟩
      | false =>
        go_enter Tryz.func150, Tryz.ntmps150
        go_wp2_with (go_at_call 156; refine (IsPath_any s _ hs).mono ?_; rintro e w' ⟨rfl, rfl⟩)
        go_ret
        exact ⟨rfl, rfl⟩

/-- how many files some spots have -/
def filesOf (l : List SP) : Nat := (l.filter (·.there)).length
theorem filesOf_le (l : List SP) : filesOf l ≤ l.length := List.length_filter_le _ _
theorem filesOf_take_succ (l : List SP) (k : Nat) (s : SP) (h : l[k]? = some s) : filesOf (l.take (k + 1)) = filesOf (l.take k) + (if s.there = true then 1 else 0) := by
  obtain ⟨hk, rfl⟩ := List.getElem?_eq_some_iff.1 h
  unfold filesOf
  rw [List.take_succ_eq_append_getElem hk, List.filter_append]
  by_cases ht : l[k].there = true <;> simp [ht]

set_option maxHeartbeats 400000 in
theorem files_any (b r : Nat) (ρ : Nat → Nat × Nat) (S : RS) (w : World) (h : RefRep w b ρ S) (hr : r < S.n) :
    Calls Tryz.prog 60 #[.pointer (some ⟨b, 0, none⟩), .int .i64 r] w fun e w' => ∃ v l, S.rows[r]? = some (v, l) ∧ e = .returned (.int .i64 (filesOf l)) ∧ w' = w := by
  obtain ⟨sg, sc, v, l, es, hs, hx, hrow, hro, hsg, _, _⟩ := h.theRow r hr
  have h3 := h.c3
  rw [es] at h3
  have h6 := h.n6
  have HX := hide hx
  have hml : l.length ≤ 9223372036854775807 ∧ ∃ a cap, v = .slice a l.length cap := by
    rcases hrow.2 with ⟨rfl, h0⟩ | ⟨g, cap, cur, rfl, _, hg, hc, hm, _⟩
    · exact ⟨by omega, none, 0, by rw [h0]⟩
    · exact ⟨by unfold maxLen at hm; omega, _, _, rfl⟩
  obtain ⟨hml, a, cap, rfl⟩ := hml
  have hcells : ∀ k s, l[k]? = some s → ∃ g, a = some ⟨g, 0, none⟩ ∧ w.cell? ⟨g, k * 6, none⟩ = some (.bool s.there) := by
    intro k s hk
    obtain ⟨g, cap', e, _, _, hc, _⟩ := spot_cells hrow k s hk
    simp at e
    exact ⟨g, e.1, by have := hc 0 (by omega); simpa [SP.cells] using this⟩
  have HC := hide hcells
  generalize S.n = n at *
  clear hcells hrow hro hx h es
  go_enter Tryz.func60, Tryz.ntmps60
  go_wp2
  go_loop [5, 6] (fun c i => ∃ k : Nat, k ≤ l.length ∧ i = .int .i64 k ∧ c = .int .i64 (filesOf (l.take k))) (fun _ i => l.length - (intOf i).toNat)
  case atStart => exact ⟨0, Nat.zero_le _, rfl, by simp [filesOf]⟩
  case round =>
    obtain ⟨k, hk, rfl, rfl⟩ := hrel
    have hfl := filesOf_le (l.take k)
    have hfl2 : (l.take k).length ≤ k := List.length_take_le _ _
    generalize hf : filesOf (l.take k) = f at *
    have HF : Hid (filesOf (l.take k) = f) := hf
    clear hf
    generalize hL : (l.take k).length = q at *
    clear hL
    by_cases hlt : k < l.length
    · obtain ⟨s, hks⟩ : ∃ s, l[k]? = some s := ⟨l[k], List.getElem?_eq_getElem hlt⟩
      obtain ⟨g, rfl, hcell⟩ := HC.out k s hks
      have F := hide (filesOf_take_succ l k s hks)
      clear hks
      cases ht : s.there with
      | true =>
        rw [ht] at hcell
        go_wp2
        go_round
        case rel => exact ⟨k + 1, by omega, by go_num, by rw [F.out, HF.out, ht]; simp⟩
        case measure => simp [intOf]; omega
      | false =>
        rw [ht] at hcell
        go_wp2
        go_round
        case rel => exact ⟨k + 1, by omega, by go_num, by rw [F.out, HF.out, ht]; simp⟩
        case measure => simp [intOf]; omega
    · have e : l.take k = l := List.take_of_length_le (by omega)
      have E : Hid (filesOf l = f) := by rw [← HF.out, e]; exact rfl
      clear e
      go_wp2
      go_ret
      exact ⟨_, l, HX.out, ret_int (by rw [E.out]), rfl⟩

end Go.Proofs.YtaelaldmibgibaaGreatDoor

namespace Go.Proofs.YtaelaldmibgibaaGreatDoor
open Go.RowKit

theorem intRow_set {w : World} {g n cap : Nat} {l : List Int} (h : intRow w (.slice (some ⟨g, 0, none⟩) n cap) l) (j : Nat) (x : Int) :
    intRow (w.setCell ⟨g, j, none⟩ (.int .i64 x)) (.slice (some ⟨g, 0, none⟩) n cap) (l.set j x) := by
  have hn : n = l.length := by
    rcases h.2 with ⟨h1, _⟩ | ⟨g', cap', cur, h1, _⟩
    · cases h1
    · simp at h1; exact h1.2.1
  subst hn
  have h' := (World.ownsRow.stored h j (.int .i64 x)).1
  rw [ivs_set] at h'
  unfold intRow
  rw [List.length_set]
  exact h'

theorem intRow_form {w : World} {v : Value} {l : List Int} (h : intRow w v l) (k : Nat) (hk : v.ownBlock = some k) : ∃ cap, v = .slice (some ⟨k, 0, none⟩) l.length cap := by
  rcases h.2 with ⟨h1, _⟩ | ⟨g', cap', cur, h1, _⟩
  · rw [h1] at hk; cases hk
  · rw [h1] at hk
    simp [Value.ownBlock] at hk
    subst hk
    exact ⟨cap', h1⟩

theorem heap_set_other {w : World} {a : Addr} {u : Value} {k : Nat} (h : k ≠ a.block) : (w.setCell a u).heap[k]? = w.heap[k]? := Below.heap_setCell _ _ _ _ h
theorem size_setCell (w : World) (a : Addr) (u : Value) : (w.setCell a u).heap.size = w.heap.size := by simp [World.setCell]

/-- a store into a block that a value does not own leaves what it owns -/
theorem ownsRow_far {w : World} {base : Nat} {e : TypeId} {size : Nat} {v : Value} {n : Nat} {xs : List Value} {a : Addr} {u : Value} {ρ : Nat → Nat × Nat} {x y : Nat × Nat}
    (h : w.ownsRow base e size v n xs) (hr : role ρ v x) (ha : ρ a.block = y) (hne : x ≠ y) : (w.setCell a u).ownsRow base e size v n xs :=
  ownsRow_keep h (fun k hk => heap_set_other (fun e => hne (by rw [← hr k hk, ← ha, e])))
theorem SpOk.far {w : World} {ρ : Nat → Nat × Nat} {n r : Nat} {s : SP} {a : Addr} {u : Value} {y : Nat × Nat} (h : SpOk w ρ n r s) (ha : ρ a.block = y) (h6 : y ≠ (6, 0)) (h7 : y ≠ (7, r)) : SpOk (w.setCell a u) ρ n r s :=
  ⟨ownsRow_far h.ch h.chr ha (Ne.symm h6), h.chl, h.chr, ownsRow_far h.tm h.tmr ha (Ne.symm h7), h.tml, h.tmr⟩

theorem map_fst_set {α β : Type} (l : List (α × β)) (r : Nat) (v : α) (x y : β) (h : l[r]? = some (v, x)) : (l.set r (v, y)).map (·.1) = l.map (·.1) := by
  apply List.ext_getElem?
  intro i
  by_cases e : i = r
  · subst e
    have hi : i < l.length := (List.getElem?_eq_some_iff.1 h).1
    simp [hi]
    have := (List.getElem?_eq_some_iff.1 h).2
    rw [this]
  · simp [List.getElem?_set_ne (Ne.symm e)]

theorem RefRep.setCom {w : World} {b : Nat} {ρ : Nat → Nat × Nat} {S : RS} (h : RefRep w b ρ S) (r : Nat) (v : Value) (l : List Int) (hx : S.coms[r]? = some (v, l)) (g : Nat) (hg : v.ownBlock = some g) (j : Nat) (x : Int) :
    RefRep (w.setCell ⟨g, j, none⟩ (.int .i64 x)) b ρ { S with coms := S.coms.set r (v, l.set j x) } := by
  have hρ : ρ g = (4, r) := (h.com r _ hx).2.2 g hg
  have hr : r < S.coms.length := (List.getElem?_eq_some_iff.1 hx).1
  refine { net := ?_, n1 := h.n1, n6 := h.n6, p := ownsRow_far h.p h.rp hρ (by simp), c := ?_, s := ownsRow_far h.s h.rs hρ (by simp), com := ?_, row := ?_, sp := ?_, rb := h.rb, rp := h.rp, rc := h.rc, rs := h.rs, lt := ?_ }
  · rw [heap_set_other (by simp only; intro e; rw [← e, h.rb] at hρ; simp at hρ)]; exact h.net
  · have := ownsRow_far (a := ⟨g, j, none⟩) (u := .int .i64 x) h.c h.rc hρ (by simp)
    rw [map_fst_set _ _ _ _ _ hx]; exact this
  · intro r' y hy
    by_cases e : r' = r
    · subst e
      simp [hr] at hy
      subst hy
      obtain ⟨cap, ev⟩ := intRow_form (h.com r' _ hx).1 g hg
      simp only at ev
      subst ev
      exact ⟨intRow_set (h.com r' _ hx).1 j x, by simpa using (h.com r' _ hx).2.1, (h.com r' _ hx).2.2⟩
    · rw [List.getElem?_set_ne (Ne.symm e)] at hy
      have q := h.com r' y hy
      exact ⟨ownsRow_far q.1 q.2.2 hρ (by simp [e]), q.2⟩
  · intro r' y hy
    exact ⟨ownsRow_far (h.row r' y hy).1 (h.row r' y hy).2 hρ (by simp), (h.row r' y hy).2⟩
  · intro r' y hy s hs
    exact (h.sp r' y hy s hs).far hρ (by simp) (by simp)
  · intro k hk
    rw [size_setCell]; exact h.lt k hk

/-- one number of a list that is what is known: of every spot of this replica whose list this is -/
def setTm (g r : Nat) (x : Int) (s : SP) : SP := if s.tmv.ownBlock = some g then { s with tm := s.tm.set r x } else s

theorem setTm_cells (g r : Nat) (x : Int) (s : SP) : (setTm g r x s).cells = s.cells := by unfold setTm; split <;> rfl
theorem spv_map_setTm (g r : Nat) (x : Int) (l : List SP) : spv (l.map (setTm g r x)) = spv l := by
  induction l with
  | nil => rfl
  | cons s l ih => simp [spv, ih, setTm_cells]

theorem RefRep.setTime {w : World} {b : Nat} {ρ : Nat → Nat × Nat} {S : RS} (h : RefRep w b ρ S) (r : Nat) (v : Value) (l : List SP) (hx : S.rows[r]? = some (v, l)) (g : Nat) (hρ : ρ g = (7, r)) (j : Nat) (x : Int) :
    RefRep (w.setCell ⟨g, j, none⟩ (.int .i64 x)) b ρ { S with rows := S.rows.set r (v, l.map (setTm g j x)) } := by
  have hr : r < S.rows.length := (List.getElem?_eq_some_iff.1 hx).1
  refine { net := ?_, n1 := h.n1, n6 := h.n6, p := ownsRow_far h.p h.rp hρ (by simp), c := ownsRow_far h.c h.rc hρ (by simp), s := ?_, com := ?_, row := ?_, sp := ?_, rb := h.rb, rp := h.rp, rc := h.rc, rs := h.rs, lt := ?_ }
  · rw [heap_set_other (by simp only; intro e; rw [← e, h.rb] at hρ; simp at hρ)]; exact h.net
  · have := ownsRow_far (a := ⟨g, j, none⟩) (u := .int .i64 x) h.s h.rs hρ (by simp)
    rw [map_fst_set _ _ _ _ _ hx]; exact this
  · intro r' y hy
    have q := h.com r' y hy
    exact ⟨ownsRow_far q.1 q.2.2 hρ (by simp), q.2⟩
  · intro r' y hy
    by_cases e : r' = r
    · subst e
      simp [hr] at hy
      subst hy
      have q := h.row r' _ hx
      refine ⟨?_, q.2⟩
      simp only [List.length_map, spv_map_setTm]
      exact ownsRow_far q.1 q.2 hρ (by simp)
    · rw [List.getElem?_set_ne (Ne.symm e)] at hy
      exact ⟨ownsRow_far (h.row r' y hy).1 (h.row r' y hy).2 hρ (by simp), (h.row r' y hy).2⟩
  · intro r' y hy s hs
    by_cases e : r' = r
    · subst e
      simp [hr] at hy
      subst hy
      simp only [List.mem_map] at hs
      obtain ⟨t, ht, rfl⟩ := hs
      have q := h.sp r' _ hx t ht
      unfold setTm
      by_cases hg : t.tmv.ownBlock = some g
      · rw [if_pos hg]
        obtain ⟨cap, ev⟩ := intRow_form q.tm g hg
        refine ⟨ownsRow_far q.ch q.chr hρ (by simp), q.chl, q.chr, ?_, by simpa using q.tml, q.tmr⟩
        simp only
        have q' := q.tm
        rw [ev] at q' ⊢
        exact intRow_set q' j x
      · rw [if_neg hg]
        refine ⟨ownsRow_far q.ch q.chr hρ (by simp), q.chl, q.chr, ownsRow_keep q.tm (fun k hk => heap_set_other ?_), q.tml, q.tmr⟩
        simp only
        rintro rfl
        exact hg hk
    · rw [List.getElem?_set_ne (Ne.symm e)] at hy
      exact (h.sp r' y hy s hs).far hρ (by simp) (by simp [Ne.symm e])
  · intro k hk
    rw [size_setCell]; exact h.lt k hk

theorem spv_set (l : List SP) (i : Nat) (s s' : SP) (j : Nat) (u : Value) (h : l[i]? = some s) (hj : j < 6) (hc : s'.cells = s.cells.set j u) : spv (l.set i s') = (spv l).set (i * 6 + j) u := by
  induction l generalizing i with
  | nil => simp at h
  | cons y l ih =>
    have hy : y.cells.length = 6 := rfl
    cases i with
    | zero =>
      simp at h; subst h
      simp only [List.set_cons_zero, spv, Nat.zero_mul, Nat.zero_add]
      rw [List.set_append_left _ _ (by omega), hc]
    | succ i =>
      simp at h
      simp only [List.set_cons_succ, spv]
      rw [List.set_append_right _ _ (by omega), ih i h]
      congr 2
      omega

/-- one cell of a spot -/
theorem RefRep.setSpot {w : World} {b : Nat} {ρ : Nat → Nat × Nat} {S : RS} (h : RefRep w b ρ S) (r : Nat) (g cap : Nat) (l : List SP) (hx : S.rows[r]? = some (.slice (some ⟨g, 0, none⟩) l.length cap, l)) (i : Nat) (s s' : SP) (hs : l[i]? = some s) (j : Nat) (u : Value) (hj : j < 6)
    (hc : s'.cells = s.cells.set j u) (hok : SpOk w ρ S.n r s') :
    RefRep (w.setCell ⟨g, i * 6 + j, none⟩ u) b ρ { S with rows := S.rows.set r (.slice (some ⟨g, 0, none⟩) l.length cap, l.set i s') } := by
  have hr : r < S.rows.length := (List.getElem?_eq_some_iff.1 hx).1
  have hρ : ρ g = (5, r) := (h.row r _ hx).2 g rfl
  refine { net := ?_, n1 := h.n1, n6 := h.n6, p := ownsRow_far h.p h.rp hρ (by simp), c := ownsRow_far h.c h.rc hρ (by simp), s := ?_, com := ?_, row := ?_, sp := ?_, rb := h.rb, rp := h.rp, rc := h.rc, rs := h.rs, lt := ?_ }
  · rw [heap_set_other (by simp only; intro e; rw [← e, h.rb] at hρ; simp at hρ)]; exact h.net
  · have := ownsRow_far (a := ⟨g, i * 6 + j, none⟩) (u := u) h.s h.rs hρ (by simp)
    rw [map_fst_set _ _ _ _ _ hx]; exact this
  · intro r' y hy
    have q := h.com r' y hy
    exact ⟨ownsRow_far q.1 q.2.2 hρ (by simp), q.2⟩
  · intro r' y hy
    by_cases e : r' = r
    · subst e
      simp [hr] at hy
      subst hy
      have q := h.row r' _ hx
      refine ⟨?_, q.2⟩
      simp only [List.length_set]
      rw [spv_set l i s s' j u hs hj hc]
      exact (World.ownsRow.stored q.1 (i * 6 + j) u).1
    · rw [List.getElem?_set_ne (Ne.symm e)] at hy
      exact ⟨ownsRow_far (h.row r' y hy).1 (h.row r' y hy).2 hρ (by simp [e]), (h.row r' y hy).2⟩
  · intro r' y hy t ht
    by_cases e : r' = r
    · subst e
      simp [hr] at hy
      subst hy
      simp only at ht
      rcases List.mem_or_eq_of_mem_set ht with ht | rfl
      · exact (h.sp r' _ hx t ht).far hρ (by simp) (by simp)
      · exact hok.far hρ (by simp) (by simp)
    · rw [List.getElem?_set_ne (Ne.symm e)] at hy
      exact (h.sp r' y hy t ht).far hρ (by simp) (by simp)
  · intro k hk
    rw [size_setCell]; exact h.lt k hk

/-- a new block takes a part -/
def upd (ρ : Nat → Nat × Nat) (k : Nat) (x : Nat × Nat) : Nat → Nat × Nat := fun q => if q = k then x else ρ q
theorem role_upd {ρ : Nat → Nat × Nat} {k : Nat} {x y : Nat × Nat} {v : Value} (h : role ρ v y) (hk : (ρ k).1 = 0) (hy : y.1 ≠ 0) : role (upd ρ k x) v y := by
  intro q hq
  have := h q hq
  unfold upd
  rw [if_neg (by rintro rfl; rw [this] at hk; exact hy hk)]
  exact this
theorem SpOk.upd {w : World} {ρ : Nat → Nat × Nat} {n r : Nat} {s : SP} (h : SpOk w ρ n r s) {k : Nat} {x : Nat × Nat} (hk : (ρ k).1 = 0) : SpOk w (upd ρ k x) n r s :=
  ⟨h.ch, h.chl, role_upd h.chr hk (by simp), h.tm, h.tml, role_upd h.tmr hk (by simp)⟩
theorem RefRep.upd {w : World} {b : Nat} {ρ : Nat → Nat × Nat} {S : RS} (h : RefRep w b ρ S) {k : Nat} (x : Nat × Nat) (hk : (ρ k).1 = 0) (hl : k < w.heap.size) : RefRep w b (upd ρ k x) S where
  net := h.net
  n1 := h.n1
  n6 := h.n6
  p := h.p
  c := h.c
  s := h.s
  com := fun r y hy => ⟨(h.com r y hy).1, (h.com r y hy).2.1, role_upd (h.com r y hy).2.2 hk (by simp)⟩
  row := fun r y hy => ⟨(h.row r y hy).1, role_upd (h.row r y hy).2 hk (by simp)⟩
  sp := fun r y hy s hs => (h.sp r y hy s hs).upd hk
  rb := by unfold Go.Proofs.YtaelaldmibgibaaGreatDoor.upd; rw [if_neg (by rintro rfl; rw [h.rb] at hk; simp at hk)]; exact h.rb
  rp := role_upd h.rp hk (by simp)
  rc := role_upd h.rc hk (by simp)
  rs := role_upd h.rs hk (by simp)
  lt := fun q hq => by
    unfold Go.Proofs.YtaelaldmibgibaaGreatDoor.upd at hq
    by_cases e : q = k
    · omega
    · rw [if_neg e] at hq; exact h.lt q hq

/-- what has a part has had one, or is new -/
def Grow (w : World) (ρ ρ' : Nat → Nat × Nat) : Prop := ∀ k, (ρ' k).1 ≠ 0 → (ρ k).1 ≠ 0 ∨ w.heap.size ≤ k
theorem Grow.refl (w : World) (ρ : Nat → Nat × Nat) : Grow w ρ ρ := fun _ h => .inl h
theorem Grow.trans {w w' : World} {ρ ρ' ρ'' : Nat → Nat × Nat} (h : Grow w ρ ρ') (hs : w.heap.size ≤ w'.heap.size) (h' : Grow w' ρ' ρ'') : Grow w ρ ρ'' := fun k hk => by
  rcases h' k hk with q | q
  · exact h k q
  · exact .inr (by omega)
theorem Grow.upd {w : World} {ρ ρ' : Nat → Nat × Nat} (h : Grow w ρ ρ') {k : Nat} (hk : w.heap.size ≤ k) (x : Nat × Nat) : Grow w ρ (upd ρ' k x) := fun q hq => by
  unfold Go.Proofs.YtaelaldmibgibaaGreatDoor.upd at hq
  by_cases e : q = k
  · exact .inr (by omega)
  · rw [if_neg e] at hq; exact h q hq
theorem RefRep.free {w : World} {b : Nat} {ρ : Nat → Nat × Nat} {S : RS} (h : RefRep w b ρ S) {k : Nat} (hk : w.heap.size ≤ k) : (ρ k).1 = 0 := by
  by_cases e : (ρ k).1 = 0
  · exact e
  · have := h.lt k e; omega

end Go.Proofs.YtaelaldmibgibaaGreatDoor
