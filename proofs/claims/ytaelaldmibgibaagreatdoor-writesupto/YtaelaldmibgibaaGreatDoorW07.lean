/- The document's answer: equal, asked, files. The document's answer in memory: what single stores make of a net. The document's answer: acts (the count of a replica goes up by 1, in all that it knows). The document's answer: a list with one thing put in; a new row, new paths. The document's answer: place (of a path, which is spoken of from now on). The document's answer: place, the new spot in a row. -/
import Derived.Test.YtaelaldmibgibaaGreatDoorW01
import Derived.Deep.DrawnRows
import Derived.BigQuiet
import Derived.Deep.QuietTactic

set_option linter.unusedVariables false
set_option linter.unusedSimpArgs false

namespace Go.Proofs.YtaelaldmibgibaaGreatDoor
open Go.RowKit

theorem list_eq_take (a b : List Int) (n k : Nat) (ha : a.length = n) (hb : b.length = n) (hk : ¬ k < n) (h : a.take k = b.take k) : a = b := by
  rwa [List.take_of_length_le (by omega), List.take_of_length_le (by omega)] at h
theorem list_take_succ_eq (a b : List Int) (n k : Nat) (ha : a.length = n) (hb : b.length = n) (hk : k < n) (h : a.take k = b.take k) (he : a.getD k 0 = b.getD k 0) : a.take (k + 1) = b.take (k + 1) := by
  rw [List.take_succ_eq_append_getElem (by omega), List.take_succ_eq_append_getElem (by omega), h]
  simp [List.getElem?_eq_getElem (show k < a.length by omega), List.getElem?_eq_getElem (show k < b.length by omega)] at he
  rw [he]
theorem list_ne_at (a b : List Int) (k : Nat) (he : a.getD k 0 ≠ b.getD k 0) : a ≠ b := fun h => he (by rw [h])

set_option maxHeartbeats 400000 in
theorem equal_any (va vb : Value) (la lb : List Int) (w : World) (ha : intRow w va la) (hb : intRow w vb lb) (hl : la.length = lb.length) (h0 : 0 < la.length) (h6 : la.length ≤ 6) :
    Calls Tryz.prog 164 #[va, vb] w fun e w' => e = .returned (.bool (decide (la = lb))) ∧ ∃ nq, w' = w.drewN nq := by
  obtain ⟨g, cap, rfl, hg, hc, _, _⟩ := ha.form h0
  obtain ⟨g', cap', rfl, hg', hc', _, _⟩ := hb.form (by omega)
  rw [← hl] at hc' ⊢
  have HL : Hid (lb.length = la.length) := hl.symm
  clear ha hb hl
  generalize hn : la.length = n at *
  have HN : Hid (la.length = n) := hn
  clear hn
  go_enter Tryz.func164, Tryz.ntmps164
  go_wp2
  go_loopw [5] (fun i wr => ∃ k nq : Nat, k ≤ n ∧ i = .int .i64 k ∧ Hid (la.take k = lb.take k) ∧ wr = w.drewN nq) (fun i _ => n - (intOf i).toNat)
  case atStart => exact ⟨0, 0, Nat.zero_le _, rfl, by unfold Hid; simp, rfl⟩
  case round =>
    obtain ⟨k, nq, hk, rfl, he, rfl⟩ := hrel
    by_cases hlt : k < n
    · have h1 := hc k hlt
      have h2 := hc' k hlt
      have T := hide (list_take_succ_eq la lb n k HN.out HL.out hlt he.out)
      have N := hide (list_ne_at la lb k)
      clear hc hc'
      generalize la.getD k 0 = x at *
      generalize lb.getD k 0 = y at *
      by_cases hxy : x = y
      · have T' := hide (T.out hxy)
        clear T N
        subst hxy
        go_wp2_with fail
        go_quiet (fail)
        go_wp2
        go_roundw
        case rel => exact ⟨k + 1, _, by omega, by go_num, T', rfl⟩
        case measure => simp [intOf]; omega
      · have hb : (x != y) = true := by simp [hxy]
        have N' := hide (N.out hxy)
        clear T N
        go_wp2_with fail
        go_quiet (fail)
        go_wp2
        go_ret
        exact ⟨ret_bool (decide_eq_false (N'.out)).symm, _, World.drewN_drewN _ _ _⟩
    · have E : Hid (la = lb) := list_eq_take la lb n k HN.out HL.out hlt he.out
      clear hc hc'
      go_wp2
      go_ret
      exact ⟨ret_bool (decide_eq_true E.out).symm, _, rfl⟩

set_option maxHeartbeats 400000 in
theorem asked_any (b : Nat) (r : Int) (s : ByteArray) (ρ : Nat → Nat × Nat) (S : RS) (w : World) (h : RefRep w b ρ S) (hs : s.size ≤ maxLen) :
    Calls Tryz.prog 150 #[.pointer (some ⟨b, 0, none⟩), .int .i64 r, .string s] w fun e w' =>
      e = .returned (.int .i64 (if r < 0 ∨ (S.n : Int) ≤ r then 1 else if pathOk s = true then 0 else 2)) ∧ w' = w := by
  have h0 := h.c0
  generalize S.n = n at *
  clear h
  by_cases h1 : r < 0
  · have d1 : decide (r < 0) = true := by simp [h1]
    rw [if_pos (.inl h1)]
    go_enter Tryz.func150, Tryz.ntmps150
    go_wp2
    go_ret
    exact ⟨rfl, rfl⟩
  · have d1 : decide (r < 0) = false := by simp; omega
    by_cases h2 : (n : Int) ≤ r
    · rw [if_pos (.inr h2)]
      go_enter Tryz.func150, Tryz.ntmps150
      go_wp2
      go_ret
      exact ⟨rfl, rfl⟩
    · rw [if_neg (by omega)]
      cases hp : pathOk s with
      | true =>
        go_enter Tryz.func150, Tryz.ntmps150
        go_wp2_with (go_at_call 156; refine (IsPath_any s _ hs).mono ?_; rintro e w' ⟨rfl, rfl⟩)
        go_ret
        exact ⟨rfl, rfl⟩
      | false =>
        go_enter Tryz.func150, Tryz.ntmps150
        go_wp2_with (go_at_call 156; refine (IsPath_any s _ hs).mono ?_; rintro e w' ⟨rfl, rfl⟩)
        go_ret
        exact ⟨rfl, rfl⟩

/-- how many files some spots have -/
def filesOf (l : List SP) : Nat := (l.filter (·.there)).length
theorem filesOf_le (l : List SP) : filesOf l ≤ l.length := List.length_filter_le _ _
theorem filesOf_take_succ (l : List SP) (k : Nat) (s : SP) (h : l[k]? = some s) : filesOf (l.take (k + 1)) = filesOf (l.take k) + (if s.there = true then 1 else 0) := by
  obtain ⟨hk, rfl⟩ := List.getElem?_eq_some_iff.1 h
  unfold filesOf
  rw [List.take_succ_eq_append_getElem hk, List.filter_append]
  by_cases ht : l[k].there = true <;> simp [ht]

set_option maxHeartbeats 400000 in
theorem files_any (b r : Nat) (ρ : Nat → Nat × Nat) (S : RS) (w : World) (h : RefRep w b ρ S) (hr : r < S.n) :
    Calls Tryz.prog 60 #[.pointer (some ⟨b, 0, none⟩), .int .i64 r] w fun e w' => ∃ v l, S.rows[r]? = some (v, l) ∧ e = .returned (.int .i64 (filesOf l)) ∧ w' = w := by
  obtain ⟨sg, sc, v, l, es, hs, hx, hrow, hro, hsg, _, _⟩ := h.theRow r hr
  have h3 := h.c3
  rw [es] at h3
  have h6 := h.n6
  have HX := hide hx
  have hml : l.length ≤ 9223372036854775807 ∧ ∃ a cap, v = .slice a l.length cap := by
    rcases hrow.2 with ⟨rfl, h0⟩ | ⟨g, cap, cur, rfl, _, hg, hc, hm, _⟩
    · exact ⟨by omega, none, 0, by rw [h0]⟩
    · exact ⟨by unfold maxLen at hm; omega, _, _, rfl⟩
  obtain ⟨hml, a, cap, rfl⟩ := hml
  have hcells : ∀ k s, l[k]? = some s → ∃ g, a = some ⟨g, 0, none⟩ ∧ w.cell? ⟨g, k * 6, none⟩ = some (.bool s.there) := by
    intro k s hk
    obtain ⟨g, cap', e, _, _, hc, _⟩ := spot_cells hrow k s hk
    simp at e
    exact ⟨g, e.1, by have := hc 0 (by omega); simpa [SP.cells] using this⟩
  have HC := hide hcells
  generalize S.n = n at *
  clear hcells hrow hro hx h es
  go_enter Tryz.func60, Tryz.ntmps60
  go_wp2
  go_loop [5, 6] (fun c i => ∃ k : Nat, k ≤ l.length ∧ i = .int .i64 k ∧ c = .int .i64 (filesOf (l.take k))) (fun _ i => l.length - (intOf i).toNat)
  case atStart => exact ⟨0, Nat.zero_le _, rfl, by simp [filesOf]⟩
  case round =>
    obtain ⟨k, hk, rfl, rfl⟩ := hrel
    have hfl := filesOf_le (l.take k)
    have hfl2 : (l.take k).length ≤ k := List.length_take_le _ _
    generalize hf : filesOf (l.take k) = f at *
    have HF : Hid (filesOf (l.take k) = f) := hf
    clear hf
    generalize hL : (l.take k).length = q at *
    clear hL
    by_cases hlt : k < l.length
    · obtain ⟨s, hks⟩ : ∃ s, l[k]? = some s := ⟨l[k], List.getElem?_eq_getElem hlt⟩
      obtain ⟨g, rfl, hcell⟩ := HC.out k s hks
      have F := hide (filesOf_take_succ l k s hks)
      clear hks
      cases ht : s.there with
      | true =>
        rw [ht] at hcell
        go_wp2
        go_round
        case rel => exact ⟨k + 1, by omega, by go_num, by rw [F.out, HF.out, ht]; simp⟩
        case measure => simp [intOf]; omega
      | false =>
        rw [ht] at hcell
        go_wp2
        go_round
        case rel => exact ⟨k + 1, by omega, by go_num, by rw [F.out, HF.out, ht]; simp⟩
        case measure => simp [intOf]; omega
    · have e : l.take k = l := List.take_of_length_le (by omega)
      have E : Hid (filesOf l = f) := by rw [← HF.out, e]; exact rfl
      clear e
      go_wp2
      go_ret
      exact ⟨_, l, HX.out, ret_int (by rw [E.out]), rfl⟩

end Go.Proofs.YtaelaldmibgibaaGreatDoor

namespace Go.Proofs.YtaelaldmibgibaaGreatDoor
open Go.RowKit

theorem intRow_set {w : World} {g n cap : Nat} {l : List Int} (h : intRow w (.slice (some ⟨g, 0, none⟩) n cap) l) (j : Nat) (x : Int) :
    intRow (w.setCell ⟨g, j, none⟩ (.int .i64 x)) (.slice (some ⟨g, 0, none⟩) n cap) (l.set j x) := by
  have hn : n = l.length := by
    rcases h.2 with ⟨h1, _⟩ | ⟨g', cap', cur, h1, _⟩
    · cases h1
    · simp at h1; exact h1.2.1
  subst hn
  have h' := (World.ownsRow.stored h j (.int .i64 x)).1
  rw [ivs_set] at h'
  unfold intRow
  rw [List.length_set]
  exact h'

theorem intRow_form {w : World} {v : Value} {l : List Int} (h : intRow w v l) (k : Nat) (hk : v.ownBlock = some k) : ∃ cap, v = .slice (some ⟨k, 0, none⟩) l.length cap := by
  rcases h.2 with ⟨h1, _⟩ | ⟨g', cap', cur, h1, _⟩
  · rw [h1] at hk; cases hk
  · rw [h1] at hk
    simp [Value.ownBlock] at hk
    subst hk
    exact ⟨cap', h1⟩

theorem heap_set_other {w : World} {a : Addr} {u : Value} {k : Nat} (h : k ≠ a.block) : (w.setCell a u).heap[k]? = w.heap[k]? := Below.heap_setCell _ _ _ _ h
theorem size_setCell (w : World) (a : Addr) (u : Value) : (w.setCell a u).heap.size = w.heap.size := by simp [World.setCell]

/-- a store into a block that a value does not own leaves what it owns -/
theorem ownsRow_far {w : World} {base : Nat} {e : TypeId} {size : Nat} {v : Value} {n : Nat} {xs : List Value} {a : Addr} {u : Value} {ρ : Nat → Nat × Nat} {x y : Nat × Nat}
    (h : w.ownsRow base e size v n xs) (hr : role ρ v x) (ha : ρ a.block = y) (hne : x ≠ y) : (w.setCell a u).ownsRow base e size v n xs :=
  ownsRow_keep h (fun k hk => heap_set_other (fun e => hne (by rw [← hr k hk, ← ha, e])))
theorem SpOk.far {w : World} {ρ : Nat → Nat × Nat} {n r : Nat} {s : SP} {a : Addr} {u : Value} {y : Nat × Nat} (h : SpOk w ρ n r s) (ha : ρ a.block = y) (h6 : y ≠ (6, 0)) (h7 : y ≠ (7, r)) : SpOk (w.setCell a u) ρ n r s :=
  ⟨ownsRow_far h.ch h.chr ha (Ne.symm h6), h.chl, h.chr, ownsRow_far h.tm h.tmr ha (Ne.symm h7), h.tml, h.tmr⟩

theorem map_fst_set {α β : Type} (l : List (α × β)) (r : Nat) (v : α) (x y : β) (h : l[r]? = some (v, x)) : (l.set r (v, y)).map (·.1) = l.map (·.1) := by
  apply List.ext_getElem?
  intro i
  by_cases e : i = r
  · subst e
    have hi : i < l.length := (List.getElem?_eq_some_iff.1 h).1
    simp [hi]
    have := (List.getElem?_eq_some_iff.1 h).2
    rw [this]
  · simp [List.getElem?_set_ne (Ne.symm e)]

theorem RefRep.setCom {w : World} {b : Nat} {ρ : Nat → Nat × Nat} {S : RS} (h : RefRep w b ρ S) (r : Nat) (v : Value) (l : List Int) (hx : S.coms[r]? = some (v, l)) (g : Nat) (hg : v.ownBlock = some g) (j : Nat) (x : Int) :
    RefRep (w.setCell ⟨g, j, none⟩ (.int .i64 x)) b ρ { S with coms := S.coms.set r (v, l.set j x) } := by
  have hρ : ρ g = (4, r) := (h.com r _ hx).2.2 g hg
  have hr : r < S.coms.length := (List.getElem?_eq_some_iff.1 hx).1
  refine { net := ?_, n1 := h.n1, n6 := h.n6, p := ownsRow_far h.p h.rp hρ (by simp), c := ?_, s := ownsRow_far h.s h.rs hρ (by simp), com := ?_, row := ?_, sp := ?_, rb := h.rb, rp := h.rp, rc := h.rc, rs := h.rs, lt := ?_ }
  · rw [heap_set_other (by simp only; intro e; rw [← e, h.rb] at hρ; simp at hρ)]; exact h.net
  · have := ownsRow_far (a := ⟨g, j, none⟩) (u := .int .i64 x) h.c h.rc hρ (by simp)
    rw [map_fst_set _ _ _ _ _ hx]; exact this
  · intro r' y hy
    by_cases e : r' = r
    · subst e
      simp [hr] at hy
      subst hy
      obtain ⟨cap, ev⟩ := intRow_form (h.com r' _ hx).1 g hg
      simp only at ev
      subst ev
      exact ⟨intRow_set (h.com r' _ hx).1 j x, by simpa using (h.com r' _ hx).2.1, (h.com r' _ hx).2.2⟩
    · rw [List.getElem?_set_ne (Ne.symm e)] at hy
      have q := h.com r' y hy
      exact ⟨ownsRow_far q.1 q.2.2 hρ (by simp [e]), q.2⟩
  · intro r' y hy
    exact ⟨ownsRow_far (h.row r' y hy).1 (h.row r' y hy).2 hρ (by simp), (h.row r' y hy).2⟩
  · intro r' y hy s hs
    exact (h.sp r' y hy s hs).far hρ (by simp) (by simp)
  · intro k hk
    rw [size_setCell]; exact h.lt k hk

/-- one number of a list that is what is known: of every spot of this replica whose list this is -/
def setTm (g r : Nat) (x : Int) (s : SP) : SP := if s.tmv.ownBlock = some g then { s with tm := s.tm.set r x } else s

theorem setTm_cells (g r : Nat) (x : Int) (s : SP) : (setTm g r x s).cells = s.cells := by unfold setTm; split <;> rfl
theorem spv_map_setTm (g r : Nat) (x : Int) (l : List SP) : spv (l.map (setTm g r x)) = spv l := by
  induction l with
  | nil => rfl
  | cons s l ih => simp [spv, ih, setTm_cells]

theorem RefRep.setTime {w : World} {b : Nat} {ρ : Nat → Nat × Nat} {S : RS} (h : RefRep w b ρ S) (r : Nat) (v : Value) (l : List SP) (hx : S.rows[r]? = some (v, l)) (g : Nat) (hρ : ρ g = (7, r)) (j : Nat) (x : Int) :
    RefRep (w.setCell ⟨g, j, none⟩ (.int .i64 x)) b ρ { S with rows := S.rows.set r (v, l.map (setTm g j x)) } := by
  have hr : r < S.rows.length := (List.getElem?_eq_some_iff.1 hx).1
  refine { net := ?_, n1 := h.n1, n6 := h.n6, p := ownsRow_far h.p h.rp hρ (by simp), c := ownsRow_far h.c h.rc hρ (by simp), s := ?_, com := ?_, row := ?_, sp := ?_, rb := h.rb, rp := h.rp, rc := h.rc, rs := h.rs, lt := ?_ }
  · rw [heap_set_other (by simp only; intro e; rw [← e, h.rb] at hρ; simp at hρ)]; exact h.net
  · have := ownsRow_far (a := ⟨g, j, none⟩) (u := .int .i64 x) h.s h.rs hρ (by simp)
    rw [map_fst_set _ _ _ _ _ hx]; exact this
  · intro r' y hy
    have q := h.com r' y hy
    exact ⟨ownsRow_far q.1 q.2.2 hρ (by simp), q.2⟩
  · intro r' y hy
    by_cases e : r' = r
    · subst e
      simp [hr] at hy
      subst hy
      have q := h.row r' _ hx
      refine ⟨?_, q.2⟩
      simp only [List.length_map, spv_map_setTm]
      exact ownsRow_far q.1 q.2 hρ (by simp)
    · rw [List.getElem?_set_ne (Ne.symm e)] at hy
      exact ⟨ownsRow_far (h.row r' y hy).1 (h.row r' y hy).2 hρ (by simp), (h.row r' y hy).2⟩
  · intro r' y hy s hs
    by_cases e : r' = r
    · subst e
      simp [hr] at hy
      subst hy
      simp only [List.mem_map] at hs
      obtain ⟨t, ht, rfl⟩ := hs
      have q := h.sp r' _ hx t ht
      unfold setTm
      by_cases hg : t.tmv.ownBlock = some g
      · rw [if_pos hg]
        obtain ⟨cap, ev⟩ := intRow_form q.tm g hg
        refine ⟨ownsRow_far q.ch q.chr hρ (by simp), q.chl, q.chr, ?_, by simpa using q.tml, q.tmr⟩
        simp only
        have q' := q.tm
        rw [ev] at q' ⊢
        exact intRow_set q' j x
      · rw [if_neg hg]
        refine ⟨ownsRow_far q.ch q.chr hρ (by simp), q.chl, q.chr, ownsRow_keep q.tm (fun k hk => heap_set_other ?_), q.tml, q.tmr⟩
        simp only
        rintro rfl
        exact hg hk
    · rw [List.getElem?_set_ne (Ne.symm e)] at hy
      exact (h.sp r' y hy s hs).far hρ (by simp) (by simp [Ne.symm e])
  · intro k hk
    rw [size_setCell]; exact h.lt k hk

theorem spv_set (l : List SP) (i : Nat) (s s' : SP) (j : Nat) (u : Value) (h : l[i]? = some s) (hj : j < 6) (hc : s'.cells = s.cells.set j u) : spv (l.set i s') = (spv l).set (i * 6 + j) u := by
  induction l generalizing i with
  | nil => simp at h
  | cons y l ih =>
    have hy : y.cells.length = 6 := rfl
    cases i with
    | zero =>
      simp at h; subst h
      simp only [List.set_cons_zero, spv, Nat.zero_mul, Nat.zero_add]
      rw [List.set_append_left _ _ (by omega), hc]
    | succ i =>
      simp at h
      simp only [List.set_cons_succ, spv]
      rw [List.set_append_right _ _ (by omega), ih i h]
      congr 2
      omega

/-- one cell of a spot -/
theorem RefRep.setSpot {w : World} {b : Nat} {ρ : Nat → Nat × Nat} {S : RS} (h : RefRep w b ρ S) (r : Nat) (g cap : Nat) (l : List SP) (hx : S.rows[r]? = some (.slice (some ⟨g, 0, none⟩) l.length cap, l)) (i : Nat) (s s' : SP) (hs : l[i]? = some s) (j : Nat) (u : Value) (hj : j < 6)
    (hc : s'.cells = s.cells.set j u) (hok : SpOk w ρ S.n r s') :
    RefRep (w.setCell ⟨g, i * 6 + j, none⟩ u) b ρ { S with rows := S.rows.set r (.slice (some ⟨g, 0, none⟩) l.length cap, l.set i s') } := by
  have hr : r < S.rows.length := (List.getElem?_eq_some_iff.1 hx).1
  have hρ : ρ g = (5, r) := (h.row r _ hx).2 g rfl
  refine { net := ?_, n1 := h.n1, n6 := h.n6, p := ownsRow_far h.p h.rp hρ (by simp), c := ownsRow_far h.c h.rc hρ (by simp), s := ?_, com := ?_, row := ?_, sp := ?_, rb := h.rb, rp := h.rp, rc := h.rc, rs := h.rs, lt := ?_ }
  · rw [heap_set_other (by simp only; intro e; rw [← e, h.rb] at hρ; simp at hρ)]; exact h.net
  · have := ownsRow_far (a := ⟨g, i * 6 + j, none⟩) (u := u) h.s h.rs hρ (by simp)
    rw [map_fst_set _ _ _ _ _ hx]; exact this
  · intro r' y hy
    have q := h.com r' y hy
    exact ⟨ownsRow_far q.1 q.2.2 hρ (by simp), q.2⟩
  · intro r' y hy
    by_cases e : r' = r
    · subst e
      simp [hr] at hy
      subst hy
      have q := h.row r' _ hx
      refine ⟨?_, q.2⟩
      simp only [List.length_set]
      rw [spv_set l i s s' j u hs hj hc]
      exact (World.ownsRow.stored q.1 (i * 6 + j) u).1
    · rw [List.getElem?_set_ne (Ne.symm e)] at hy
      exact ⟨ownsRow_far (h.row r' y hy).1 (h.row r' y hy).2 hρ (by simp [e]), (h.row r' y hy).2⟩
  · intro r' y hy t ht
    by_cases e : r' = r
    · subst e
      simp [hr] at hy
      subst hy
      simp only at ht
      rcases List.mem_or_eq_of_mem_set ht with ht | rfl
      · exact (h.sp r' _ hx t ht).far hρ (by simp) (by simp)
      · exact hok.far hρ (by simp) (by simp)
    · rw [List.getElem?_set_ne (Ne.symm e)] at hy
      exact (h.sp r' y hy t ht).far hρ (by simp) (by simp)
  · intro k hk
    rw [size_setCell]; exact h.lt k hk

/-- a new block takes a part -/
def upd (ρ : Nat → Nat × Nat) (k : Nat) (x : Nat × Nat) : Nat → Nat × Nat := fun q => if q = k then x else ρ q
theorem role_upd {ρ : Nat → Nat × Nat} {k : Nat} {x y : Nat × Nat} {v : Value} (h : role ρ v y) (hk : (ρ k).1 = 0) (hy : y.1 ≠ 0) : role (upd ρ k x) v y := by
  intro q hq
  have := h q hq
  unfold upd
  rw [if_neg (by rintro rfl; rw [this] at hk; exact hy hk)]
  exact this
theorem SpOk.upd {w : World} {ρ : Nat → Nat × Nat} {n r : Nat} {s : SP} (h : SpOk w ρ n r s) {k : Nat} {x : Nat × Nat} (hk : (ρ k).1 = 0) : SpOk w (upd ρ k x) n r s :=
  ⟨h.ch, h.chl, role_upd h.chr hk (by simp), h.tm, h.tml, role_upd h.tmr hk (by simp)⟩
theorem RefRep.upd {w : World} {b : Nat} {ρ : Nat → Nat × Nat} {S : RS} (h : RefRep w b ρ S) {k : Nat} (x : Nat × Nat) (hk : (ρ k).1 = 0) (hl : k < w.heap.size) : RefRep w b (upd ρ k x) S where
  net := h.net
  n1 := h.n1
  n6 := h.n6
  p := h.p
  c := h.c
  s := h.s
  com := fun r y hy => ⟨(h.com r y hy).1, (h.com r y hy).2.1, role_upd (h.com r y hy).2.2 hk (by simp)⟩
  row := fun r y hy => ⟨(h.row r y hy).1, role_upd (h.row r y hy).2 hk (by simp)⟩
  sp := fun r y hy s hs => (h.sp r y hy s hs).upd hk
  rb := by unfold Go.Proofs.YtaelaldmibgibaaGreatDoor.upd; rw [if_neg (by rintro rfl; rw [h.rb] at hk; simp at hk)]; exact h.rb
  rp := role_upd h.rp hk (by simp)
  rc := role_upd h.rc hk (by simp)
  rs := role_upd h.rs hk (by simp)
  lt := fun q hq => by
    unfold Go.Proofs.YtaelaldmibgibaaGreatDoor.upd at hq
    by_cases e : q = k
    · omega
    · rw [if_neg e] at hq; exact h.lt q hq

/-- what has a part has had one, or is new -/
def Grow (w : World) (ρ ρ' : Nat → Nat × Nat) : Prop := ∀ k, (ρ' k).1 ≠ 0 → (ρ k).1 ≠ 0 ∨ w.heap.size ≤ k
theorem Grow.refl (w : World) (ρ : Nat → Nat × Nat) : Grow w ρ ρ := fun _ h => .inl h
theorem Grow.trans {w w' : World} {ρ ρ' ρ'' : Nat → Nat × Nat} (h : Grow w ρ ρ') (hs : w.heap.size ≤ w'.heap.size) (h' : Grow w' ρ' ρ'') : Grow w ρ ρ'' := fun k hk => by
  rcases h' k hk with q | q
  · exact h k q
  · exact .inr (by omega)
theorem Grow.upd {w : World} {ρ ρ' : Nat → Nat × Nat} (h : Grow w ρ ρ') {k : Nat} (hk : w.heap.size ≤ k) (x : Nat × Nat) : Grow w ρ (upd ρ' k x) := fun q hq => by
  unfold Go.Proofs.YtaelaldmibgibaaGreatDoor.upd at hq
  by_cases e : q = k
  · exact .inr (by omega)
  · rw [if_neg e] at hq; exact h q hq
theorem RefRep.free {w : World} {b : Nat} {ρ : Nat → Nat × Nat} {S : RS} (h : RefRep w b ρ S) {k : Nat} (hk : w.heap.size ≤ k) : (ρ k).1 = 0 := by
  by_cases e : (ρ k).1 = 0
  · exact e
  · have := h.lt k e; omega

end Go.Proofs.YtaelaldmibgibaaGreatDoor

namespace Go.Proofs.YtaelaldmibgibaaGreatDoor
open Go.RowKit

def setTms (bs : List (Option Nat)) (r : Nat) (x : Int) (s : SP) : SP := if s.tmv.ownBlock ∈ bs then { s with tm := s.tm.set r x } else s
theorem setTms_nil (r : Nat) (x : Int) (l : List SP) : l.map (setTms [] r x) = l := by
  have : setTms [] r x = id := by funext s; simp [setTms]
  rw [this, List.map_id]
theorem setTms_snoc (bs : List (Option Nat)) (g r : Nat) (x : Int) (l : List SP) : (l.map (setTms bs r x)).map (setTm g r x) = l.map (setTms (bs ++ [some g]) r x) := by
  rw [List.map_map]
  apply List.map_congr_left
  intro s _
  show setTm g r x (setTms bs r x s) = setTms (bs ++ [some g]) r x s
  by_cases h1 : s.tmv.ownBlock ∈ bs
  · have e : setTms bs r x s = { s with tm := s.tm.set r x } := if_pos h1
    have e' : setTms (bs ++ [some g]) r x s = { s with tm := s.tm.set r x } := if_pos (List.mem_append_left _ h1)
    rw [e, e']
    unfold setTm
    split
    · simp
    · rfl
  · have e : setTms bs r x s = s := if_neg h1
    rw [e]
    by_cases h2 : s.tmv.ownBlock = some g
    · have e' : setTms (bs ++ [some g]) r x s = { s with tm := s.tm.set r x } := if_pos (by rw [h2]; simp)
      rw [e']; exact if_pos h2
    · have e' : setTms (bs ++ [some g]) r x s = s := if_neg (by simp [h1, h2])
      rw [e']; exact if_neg h2
theorem setTms_all (r : Nat) (x : Int) (l : List SP) : l.map (setTms (l.map (·.tmv.ownBlock)) r x) = l.map (fun s => { s with tm := s.tm.set r x }) := by
  apply List.map_congr_left
  intro s hs
  unfold setTms
  rw [if_pos (List.mem_map.2 ⟨s, hs, rfl⟩)]
theorem setTms_tmv (bs : List (Option Nat)) (r : Nat) (x : Int) (s : SP) : (setTms bs r x s).tmv = s.tmv := by unfold setTms; split <;> rfl

/-- behind acts -/
def RS.acted (S : RS) (r : Nat) (x : Int) (cw : Value) (cl : List Int) (v : Value) (l : List SP) (bs : List (Option Nat)) : RS :=
  { S with coms := S.coms.set r (cw, cl.set r x), rows := S.rows.set r (v, l.map (setTms bs r x)) }

theorem acted_zero {S : RS} {r : Nat} {x : Int} {cw : Value} {cl : List Int} {v : Value} {l : List SP} (hx : S.rows[r]? = some (v, l)) : S.acted r x cw cl v l [] = { S with coms := S.coms.set r (cw, cl.set r x) } := by
  unfold RS.acted
  rw [setTms_nil]
  congr 1
  apply List.ext_getElem?
  intro i
  by_cases e : i = r
  · subst e
    have hi : i < S.rows.length := (List.getElem?_eq_some_iff.1 hx).1
    simp [hi]
    exact ((List.getElem?_eq_some_iff.1 hx).2).symm
  · rw [List.getElem?_set_ne (Ne.symm e)]

/-- the loop's end -/
theorem acts_len {w : World} {b : Nat} {ρ : Nat → Nat × Nat} {S : RS} {r : Nat} {x : Int} {cw : Value} {cl : List Int} {v : Value} {l : List SP} {bs : List (Option Nat)} (hr : r < S.rows.length)
    (h : RefRep w b ρ (S.acted r x cw cl v l bs)) (hrn : r < S.n) : ∃ sg sc a cap, w.cell? ⟨b, 3, none⟩ = some (.slice (some ⟨sg, 0, none⟩) S.n sc) ∧ w.cell? ⟨sg, r, none⟩ = some (.slice a l.length cap) := by
  obtain ⟨sg, sc, v', l', es, hs, hx, hrow, hro, _, _, _⟩ := h.theRow r hrn
  have hx' : (v', l') = (v, l.map (setTms bs r x)) := by
    have : (S.acted r x cw cl v l bs).rows[r]? = some (v, l.map (setTms bs r x)) := by
      simp [RS.acted, hr]
    rw [this] at hx
    simpa using hx.symm
  simp only [Prod.mk.injEq] at hx'
  obtain ⟨rfl, rfl⟩ := hx'
  have hf : ∃ a cap, v' = .slice a (l.map (setTms bs r x)).length cap := by
    rcases hrow.2 with ⟨rfl, h0⟩ | ⟨g, cap, cur, rfl, _⟩
    · exact ⟨none, 0, by rw [h0]⟩
    · exact ⟨_, _, rfl⟩
  obtain ⟨a, cap, ev⟩ := hf
  rw [List.length_map] at ev
  exact ⟨sg, sc, a, cap, by rw [h.c3, es]; rfl, by rw [hs, ev]⟩

/-- what the round reads and writes -/
theorem acts_round {w : World} {b : Nat} {ρ : Nat → Nat × Nat} {S : RS} {r : Nat} {x : Int} {cw : Value} {cl : List Int} {v : Value} {l : List SP} (hr : r < S.rows.length) (k : Nat) (hk : k < l.length)
    (h : RefRep w b ρ (S.acted r x cw cl v l ((l.take k).map (·.tmv.ownBlock)))) (hrn : r < S.n) :
    ∃ sg sc g cap gt ct, w.cell? ⟨b, 3, none⟩ = some (.slice (some ⟨sg, 0, none⟩) S.n sc) ∧ w.cell? ⟨sg, r, none⟩ = some (.slice (some ⟨g, 0, none⟩) l.length cap) ∧
      w.cell? ⟨g, k * 6 + 5, none⟩ = some (.slice (some ⟨gt, 0, none⟩) S.n ct) ∧ (∃ y, w.cell? ⟨gt, r, none⟩ = some (.int .i64 y)) ∧ w.frozen? ⟨gt, r, none⟩ = false ∧ ρ gt = (7, r) ∧
      RefRep (w.setCell ⟨gt, r, none⟩ (.int .i64 x)) b ρ (S.acted r x cw cl v l ((l.take (k + 1)).map (·.tmv.ownBlock))) := by
  obtain ⟨sg, sc, v', l', es, hs, hx, hrow, hro, _, _, _⟩ := h.theRow r hrn
  have hx' : (v', l') = (v, l.map (setTms ((l.take k).map (·.tmv.ownBlock)) r x)) := by
    have : (S.acted r x cw cl v l ((l.take k).map (·.tmv.ownBlock))).rows[r]? = some (v, l.map (setTms ((l.take k).map (·.tmv.ownBlock)) r x)) := by
      simp [RS.acted, hr]
    rw [this] at hx
    simpa using hx.symm
  simp only [Prod.mk.injEq] at hx'
  obtain ⟨rfl, rfl⟩ := hx'
  have hks : (l.map (setTms ((l.take k).map (·.tmv.ownBlock)) r x))[k]? = some (setTms ((l.take k).map (·.tmv.ownBlock)) r x l[k]) := by simp [hk]
  obtain ⟨g, cap, ev, hg, _, hcell, _⟩ := spot_cells hrow k _ hks
  have hsp := h.sp r _ hx _ (List.mem_of_getElem? hks)
  obtain ⟨gt, ct, et, hgt, htc, htf, _⟩ := hsp.tm.form (by rw [hsp.tml]; have := h.n1; omega)
  rw [hsp.tml] at et htc
  have hρ : ρ gt = (7, r) := hsp.tmr gt (by rw [et]; rfl)
  refine ⟨sg, sc, g, cap, gt, ct, ?_, ?_, ?_, ⟨_, htc r hrn⟩, htf _, hρ, ?_⟩
  · rw [h.c3, es]; rfl
  · rw [hs, ev]; simp
  · rw [hcell 5 (by omega)]
    simp only [SP.cells]
    rw [et]; rfl
  · have hset := h.setTime r _ _ hx gt hρ r x
    have e1 : { S.acted r x cw cl v' l ((l.take k).map (·.tmv.ownBlock)) with rows := (S.acted r x cw cl v' l ((l.take k).map (·.tmv.ownBlock))).rows.set r (v', (l.map (setTms ((l.take k).map (·.tmv.ownBlock)) r x)).map (setTm gt r x)) } =
        S.acted r x cw cl v' l ((l.take (k + 1)).map (·.tmv.ownBlock)) := by
      rw [setTms_snoc]
      have e2 : (l.take (k + 1)).map (·.tmv.ownBlock) = (l.take k).map (·.tmv.ownBlock) ++ [some gt] := by
        rw [List.take_succ_eq_append_getElem hk, List.map_append]
        have : l[k].tmv.ownBlock = some gt := by
          rw [setTms_tmv] at et; rw [et]; rfl
        simp [this]
      rw [e2]
      simp [RS.acted]
    rw [e1] at hset
    exact hset

set_option maxHeartbeats 600000 in
theorem acts_any (b r : Nat) (ρ : Nat → Nat × Nat) (S : RS) (w : World) (h : RefRep w b ρ S) (hr : r < S.n) (h0 : 0 ≤ S.count r) (hcn : S.count r < 1000000000) :
    Calls Tryz.prog 152 #[.pointer (some ⟨b, 0, none⟩), .int .i64 r] w fun e w' => ∃ cw cl v l, S.coms[r]? = some (cw, cl) ∧ S.rows[r]? = some (v, l) ∧ e = .returned (.int .i64 (S.count r + 1)) ∧
      RefRep w' b ρ { S with coms := S.coms.set r (cw, cl.set r (S.count r + 1)), rows := S.rows.set r (v, l.map (fun s => { s with tm := s.tm.set r (S.count r + 1) })) } ∧ Fr (fun k => (ρ k).1 ≠ 0) w w' ∧ w'.heap.size = w.heap.size := by
  obtain ⟨cg, cc, g, cap, cl, ec, hc, hx, hl, hρ, hg, hcg, hρc, hcell, hfz⟩ := h.common r hr
  obtain ⟨sg, sc, v, l, es, hs, hxr, hrow, hro, hsg, hρs, _⟩ := h.theRow r hr
  have hml : l.length ≤ 9223372036854775807 := by
    rcases hrow.2 with ⟨rfl, h0⟩ | ⟨g, cap, cur, rfl, _, hg, hc, hm, _⟩
    · omega
    · unfold maxLen at hm; omega
  have h2 := h.c2
  rw [ec] at h2
  have h6 := h.n6
  have hq := hcell r hr
  have hf := hfz r
  have hcount : S.count r = cl.getD r 0 := by unfold RS.count; rw [hx]; rfl
  have hrl : r < S.rows.length := by have := h.rowl; omega
  have hb : b < w.heap.size := h.lt b (by rw [h.rb]; decide)
  generalize hX : S.count r + 1 = x at *
  -- behind the first store
  have hset := h.setCom r _ cl hx g rfl r x
  rw [← acted_zero (x := x) (cw := .slice (some ⟨g, 0, none⟩) S.n cap) (cl := cl) hxr] at hset
  have hfr : Fr (fun k => (ρ k).1 ≠ 0) w (w.setCell ⟨g, r, none⟩ (.int .i64 x)) := (Fr.refl _ _).setCell (.inl (by rw [hρ]; simp)) _
  have hend : ∀ w', RefRep w' b ρ (S.acted r x (.slice (some ⟨g, 0, none⟩) S.n cap) cl v l ((l.take l.length).map (·.tmv.ownBlock))) →
      RefRep w' b ρ { S with coms := S.coms.set r (.slice (some ⟨g, 0, none⟩) S.n cap, cl.set r x), rows := S.rows.set r (v, l.map (fun s => { s with tm := s.tm.set r x })) } := by
    intro w' hw'
    rw [List.take_length] at hw'
    unfold RS.acted at hw'
    rw [setTms_all] at hw'
    exact hw'
  have HS := hide hset
  have HF := hide hfr
  have HE := hide hend
  have HX := hide hx
  have HXR := hide hxr
  have hcgb : cg ≠ g := by rintro rfl; rw [hρ] at hρc; simp at hρc
  have hbg : b ≠ g := by rintro rfl; rw [h.rb] at hρ; simp at hρ
  have HCX : Hid (S.count r + 1 = x) := hX
  rw [hcount] at h0 hcn hX
  generalize cl.getD r 0 = q at *
  subst hX
  clear hset hfr hend hx hxr hcell hfz hrow hro h ec es hl hcount hs
  go_enter Tryz.func152, Tryz.ntmps152
  go_wp2
  generalize hcw : Value.slice (some ⟨g, 0, none⟩) S.n cap = cw at HS HE HX
  go_loopw [6] (fun i wr => ∃ k : Nat, k ≤ l.length ∧ i = .int .i64 k ∧ Hid (RefRep wr b ρ (S.acted r (q + 1) cw cl v l ((l.take k).map (·.tmv.ownBlock)))) ∧ Hid (Fr (fun k => (ρ k).1 ≠ 0) w wr) ∧ Hid (wr.heap.size = w.heap.size)) (fun i _ => l.length - (intOf i).toNat)
  case atStart => exact ⟨0, Nat.zero_le _, rfl, by rw [List.take_zero]; exact HS, HF, size_setCell _ _ _⟩
  case round =>
    obtain ⟨k, hk, rfl, hR, hF, hZ⟩ := hrel
    have HCW := hide hcw
    by_cases hlt : k < l.length
    · obtain ⟨sg', sc', g', cap', gt, ct, e1, e2, e3, ⟨y, e4⟩, e5, e6, e7⟩ := acts_round hrl k hlt hR.out hr
      have R := hide e7
      have F := hide (hF.out.setCell (p := ⟨gt, r, none⟩) (.inl (by simp only; rw [e6]; simp)) (.int .i64 (q + 1)))
      have Z : Hid ((wr.setCell ⟨gt, r, none⟩ (.int .i64 (q + 1))).heap.size = w.heap.size) := (size_setCell _ _ _).trans hZ.out
      clear e6 e7 hR hF hZ hcw hq hf h2 hc
      generalize S.n = n at *
      go_wp2
      go_roundw
      case rel => exact ⟨k + 1, by omega, by go_num, R, F, Z⟩
      case measure => simp [intOf]; omega
    · obtain ⟨sg', sc', a', cap', e1, e2⟩ := acts_len hrl hR.out hr
      have ek : k = l.length := by omega
      have R := hide (HE.out wr (by rw [← ek]; exact hR.out))
      clear hcw hq hf h2 hc ek
      go_wp2
      go_ret
      exact ⟨cw, cl, v, l, HX.out, HXR.out, rfl, R.out, hF.out, hZ.out⟩

end Go.Proofs.YtaelaldmibgibaaGreatDoor

namespace Go.Proofs.YtaelaldmibgibaaGreatDoor
open Go.RowKit

/-- the first k of a list, with x put in at a place, once it is passed -/
def ins {α : Type} (a : Nat) (x : α) (l : List α) (k : Nat) : List α := if k ≤ a then l.take k else l.take a ++ x :: (l.take k).drop a
theorem ins_zero {α : Type} (a : Nat) (x : α) (l : List α) : ins a x l 0 = [] := by simp [ins]
theorem ins_lt {α : Type} (a : Nat) (x : α) (l : List α) (k : Nat) (y : α) (h : k < a) (hy : l[k]? = some y) : ins a x l (k + 1) = ins a x l k ++ [y] := by
  obtain ⟨hk, rfl⟩ := List.getElem?_eq_some_iff.1 hy
  unfold ins
  rw [if_pos (by omega), if_pos (by omega), List.take_succ_eq_append_getElem hk]
theorem ins_at {α : Type} (a : Nat) (x : α) (l : List α) (y : α) (hy : l[a]? = some y) : ins a x l (a + 1) = ins a x l a ++ [x] ++ [y] := by
  obtain ⟨hk, rfl⟩ := List.getElem?_eq_some_iff.1 hy
  unfold ins
  rw [if_neg (by omega), if_pos (by omega), List.take_succ_eq_append_getElem hk, List.drop_append]
  have e1 : List.drop a (List.take a l) = [] := List.drop_of_length_le (List.length_take_le _ _)
  have e2 : (List.take a l).length = a := by rw [List.length_take]; omega
  rw [e1, e2]
  simp
theorem ins_gt {α : Type} (a : Nat) (x : α) (l : List α) (k : Nat) (y : α) (h : a < k) (hy : l[k]? = some y) : ins a x l (k + 1) = ins a x l k ++ [y] := by
  obtain ⟨hk, rfl⟩ := List.getElem?_eq_some_iff.1 hy
  unfold ins
  rw [if_neg (by omega), if_neg (by omega), List.take_succ_eq_append_getElem hk, List.drop_append]
  have e2 : a - (List.take k l).length = 0 := by rw [List.length_take]; omega
  rw [e2]
  simp
theorem ins_end {α : Type} (a : Nat) (x : α) (l : List α) (h : a < l.length) : ins a x l l.length = l.take a ++ x :: l.drop a := by
  unfold ins
  rw [if_neg (by omega), List.take_length]
theorem ins_len {α : Type} (l : List α) (x : α) : ins l.length x l l.length ++ [x] = l.take l.length ++ x :: l.drop l.length := by
  unfold ins
  rw [if_pos (by omega)]
  simp

theorem RefRep.setPaths {w : World} {b : Nat} {ρ : Nat → Nat × Nat} {S : RS} (h : RefRep w b ρ S) (pv : Value) (ps : List ByteArray) (hp : w.ownsRow 0 9 1 pv ps.length (svs ps)) (hr : role ρ pv (2, 0)) :
    RefRep (w.setCell ⟨b, 1, none⟩ pv) b ρ { S with paths := ps, pv := pv } := by
  have hρ := h.rb
  refine { net := ?_, n1 := h.n1, n6 := h.n6, p := ownsRow_far hp hr hρ (by simp), c := ownsRow_far h.c h.rc hρ (by simp), s := ownsRow_far h.s h.rs hρ (by simp), com := ?_, row := ?_, sp := ?_, rb := h.rb, rp := hr, rc := h.rc, rs := h.rs, lt := ?_ }
  · have := heap_setCell_same w b 1 _ _ pv h.net
    simpa using this
  · intro r' y hy
    have q := h.com r' y hy
    exact ⟨ownsRow_far q.1 q.2.2 hρ (by simp), q.2⟩
  · intro r' y hy
    exact ⟨ownsRow_far (h.row r' y hy).1 (h.row r' y hy).2 hρ (by simp), (h.row r' y hy).2⟩
  · intro r' y hy s hs
    exact (h.sp r' y hy s hs).far hρ (by simp) (by simp)
  · intro k hk
    rw [size_setCell]; exact h.lt k hk

theorem RefRep.setRow {w : World} {b : Nat} {ρ : Nat → Nat × Nat} {S : RS} (h : RefRep w b ρ S) (sg sc r : Nat) (es : S.sv = .slice (some ⟨sg, 0, none⟩) S.n sc) (hrn : r < S.n) (v : Value) (l : List SP)
    (hv : w.ownsRow 0 117 6 v l.length (spv l)) (hr : role ρ v (5, r)) (hsp : ∀ s ∈ l, SpOk w ρ S.n r s) :
    RefRep (w.setCell ⟨sg, r, none⟩ v) b ρ { S with rows := S.rows.set r (v, l) } := by
  have hρ : ρ sg = (8, 0) := h.rs sg (by rw [es]; rfl)
  have hrl : r < S.rows.length := by have := h.rowl; omega
  refine { net := ?_, n1 := h.n1, n6 := h.n6, p := ownsRow_far h.p h.rp hρ (by simp), c := ownsRow_far h.c h.rc hρ (by simp), s := ?_, com := ?_, row := ?_, sp := ?_, rb := h.rb, rp := h.rp, rc := h.rc, rs := h.rs, lt := ?_ }
  · rw [heap_set_other (by simp only; intro e; rw [← e, h.rb] at hρ; simp at hρ)]; exact h.net
  · simp only [List.map_set]
    have hs := h.s
    rw [es] at hs ⊢
    exact (World.ownsRow.stored hs r v).1
  · intro r' y hy
    have q := h.com r' y hy
    exact ⟨ownsRow_far q.1 q.2.2 hρ (by simp), q.2⟩
  · intro r' y hy
    by_cases e : r' = r
    · subst e
      simp [hrl] at hy
      subst hy
      exact ⟨ownsRow_far hv hr hρ (by simp), hr⟩
    · rw [List.getElem?_set_ne (Ne.symm e)] at hy
      exact ⟨ownsRow_far (h.row r' y hy).1 (h.row r' y hy).2 hρ (by simp), (h.row r' y hy).2⟩
  · intro r' y hy t ht
    by_cases e : r' = r
    · subst e
      simp [hrl] at hy
      subst hy
      exact (hsp t ht).far hρ (by simp) (by simp)
    · rw [List.getElem?_set_ne (Ne.symm e)] at hy
      exact (h.sp r' y hy t ht).far hρ (by simp) (by simp)
  · intro k hk
    rw [size_setCell]; exact h.lt k hk

end Go.Proofs.YtaelaldmibgibaaGreatDoor

namespace Go.Proofs.YtaelaldmibgibaaGreatDoor
open Go.RowKit

/-- Go's '<' and '==' on strings -/
def slt (a b : ByteArray) : Bool := Op.bytesLess a.toList b.toList
def seq (a b : ByteArray) : Bool := a.toList == b.toList
theorem seq_iff (a b : ByteArray) : seq a b = true ↔ a = b := by
  unfold seq
  rw [beq_iff_eq, ByteArray.toList_eq, ByteArray.toList_eq]
  constructor
  · intro h
    cases a; cases b
    simp only [ByteArray.mk.injEq]
    exact Array.toList_inj.1 h
  · rintro rfl; rfl

/-- the place of a path: how many come ahead of it -/
def atOf (ps : List ByteArray) (s : ByteArray) : Nat := (ps.takeWhile (slt · s)).length
theorem atOf_eq (ps : List ByteArray) (s : ByteArray) (k : Nat) (hk : k ≤ ps.length) (hall : ∀ q ∈ ps.take k, slt q s = true) (hend : ∀ q, ps[k]? = some q → slt q s = false) : atOf ps s = k := by
  unfold atOf
  induction ps generalizing k with
  | nil => simp at hk; subst hk; rfl
  | cons p ps ih =>
    cases k with
    | zero =>
      have := hend p (by simp)
      simp [this]
    | succ k =>
      have h1 := hall p (by simp)
      rw [List.takeWhile_cons, if_pos h1, List.length_cons, ih k (by simpa using hk) (fun q hq => hall q (by simp [hq])) (fun q hq => hend q (by simpa using hq))]

/-- a row of strings, its cells -/
theorem strRow_form {w : World} {v : Value} {l : List ByteArray} {base : Nat} (h : w.ownsRow base 9 1 v l.length (svs l)) :
    l.length ≤ maxLen ∧ ∃ a cap, v = .slice a l.length cap ∧ (∀ k s, l[k]? = some s → ∃ g, a = some ⟨g, 0, none⟩ ∧ g < w.heap.size ∧ w.cell? ⟨g, k, none⟩ = some (.string s)) := by
  rcases h.2 with ⟨rfl, h0⟩ | ⟨g, cap, cur, rfl, _, hg, hc, hm, _⟩
  · refine ⟨by omega, none, 0, by rw [h0], fun k s hk => ?_⟩
    have := (List.getElem?_eq_some_iff.1 hk).1
    omega
  · refine ⟨by omega, some ⟨g, 0, none⟩, cap, rfl, fun k s hk => ⟨g, rfl, (Array.getElem?_eq_some_iff.1 hg).1, ?_⟩⟩
    obtain ⟨hk', e⟩ := List.getElem?_eq_some_iff.1 hk
    rw [World.ownsRow.cellAt h k (by omega), svs_get l k hk', List.getD_eq_getElem?_getD, hk]
    rfl

/-- the walk along the paths stops at the path's place -/
theorem at_stop {ps : List ByteArray} {s : ByteArray} {k : Nat} (hk : k ≤ ps.length) (ha : ∀ q ∈ ps.take k, slt q s = true) (hend : ∀ q, ps[k]? = some q → slt q s = false) : k = atOf ps s := (atOf_eq ps s k hk ha hend).symm
theorem all_take_snoc {ps : List ByteArray} {s p : ByteArray} {k : Nat} (ha : ∀ q ∈ ps.take k, slt q s = true) (hp : ps[k]? = some p) (hl : slt p s = true) : ∀ q ∈ ps.take (k + 1), slt q s = true := by
  obtain ⟨hk, rfl⟩ := List.getElem?_eq_some_iff.1 hp
  rw [List.take_succ_eq_append_getElem hk]
  intro q hq
  rw [List.mem_append] at hq
  rcases hq with hq | hq
  · exact ha q hq
  · simp at hq; subst hq; exact hl

set_option maxHeartbeats 600000 in
/-- the path is there already -/
theorem place_old (b : Nat) (s : ByteArray) (ρ : Nat → Nat × Nat) (S : RS) (w : World) (h : RefRep w b ρ S) (hin : S.paths[atOf S.paths s]? = some s) :
    Calls Tryz.prog 56 #[.pointer (some ⟨b, 0, none⟩), .string s] w fun e w' => e = .returned (.int .i64 (atOf S.paths s)) ∧ w' = w := by
  obtain ⟨hml, a, cap, ep, hcp⟩ := strRow_form h.p
  have h1 := h.c1
  rw [ep] at h1
  have HC := hide hcp
  unfold maxLen at hml
  clear hcp ep
  have HI := hide hin
  clear hin h
  go_enter Tryz.func56, Tryz.ntmps56
  go_wp2
  go_loop [5] (fun i => ∃ k : Nat, k ≤ S.paths.length ∧ i = .int .i64 k ∧ Hid (∀ q ∈ S.paths.take k, slt q s = true)) (fun i => S.paths.length - (intOf i).toNat)
  case atStart => exact ⟨0, Nat.zero_le _, rfl, by unfold Hid; simp⟩
  case round =>
    obtain ⟨k, hk, rfl, ha⟩ := hrel
    by_cases hlt : k < S.paths.length
    · obtain ⟨p, hp⟩ : ∃ p, S.paths[k]? = some p := ⟨S.paths[k], List.getElem?_eq_getElem hlt⟩
      obtain ⟨g, rfl, hg, hcell⟩ := HC.out k p hp
      cases hb : Op.bytesLess p.toList s.toList with
      | true =>
        have T := hide (all_take_snoc ha.out hp hb)
        clear hp
        go_wp2
        go_round
        case rel => exact ⟨k + 1, by omega, by go_num, T⟩
        case measure => simp [intOf]; omega
      | false =>
        have hk' := at_stop hk ha.out (fun q hq => by rw [hp] at hq; simp at hq; subst hq; exact hb)
        have hps : p = s := by
          have := HI.out
          rw [← hk', hp] at this
          simpa using this
        have hbe : (p.toList == s.toList) = true := (seq_iff p s).2 hps
        have HK := hide hk'
        clear hp hk' hps
        go_wp2
        go_ret
        exact ⟨ret_int (by rw [← HK.out]), rfl⟩
    · have hk' := at_stop hk ha.out (fun q hq => by have := (List.getElem?_eq_some_iff.1 hq).1; omega)
      have := HI.out
      rw [← hk'] at this
      have := (List.getElem?_eq_some_iff.1 this).1
      omega

/-- what is new in a row -/
structure Fresh (n : Nat) (l : List Int) (s : SP) : Prop where
  there : s.there = false
  text : s.text = ⟨#[]⟩
  by_ : s.by_ = 0
  num : s.num = 0
  ch : s.ch = List.replicate n 0
  tm : s.tm = l

structure FrOk (W w : World) (n : Nat) (l : List Int) (v : Value) (fr : SP) : Prop where
  fresh : Fresh n l fr
  ch : w.ownsRow W.heap.size 3 1 fr.chv n (ivs (List.replicate n 0))
  tm : w.ownsRow W.heap.size 3 1 fr.tmv l.length (ivs l)
  ne : ∀ k, fr.chv.ownBlock = some k → fr.tmv.ownBlock ≠ some k
  vch : ∀ k, fr.chv.ownBlock = some k → v.ownBlock ≠ some k
  vtm : ∀ k, fr.tmv.ownBlock = some k → v.ownBlock ≠ some k

theorem FrOk.alloc {W w : World} {n : Nat} {l : List Int} {v : Value} {fr : SP} (h : FrOk W w n l v fr) (o : Obj) : FrOk W (w.alloc o) n l v fr :=
  ⟨h.fresh, h.ch.alloc o, h.tm.alloc o, h.ne, h.vch, h.vtm⟩
/-- behind an append to the row v -/
theorem FrOk.grown {W w w1 : World} {n : Nat} {l : List Int} {v : Value} {fr : SP} (h : FrOk W w n l v fr) {g m cap : Nat} (hg : w.grownBy w1 v.ownBlock) (hat : v.ownBlock = some g ∨ g = w.heap.size) : FrOk W w1 n l (.slice (some ⟨g, 0, none⟩) m cap) fr := by
  have hc := World.ownsRow.lt h.ch
  have ht := World.ownsRow.lt h.tm
  refine ⟨h.fresh, ownsRow_keep h.ch (fun k hk => hg.block k (hc k hk).2 (fun e => h.vch k hk e.symm)), ownsRow_keep h.tm (fun k hk => hg.block k (ht k hk).2 (fun e => h.vtm k hk e.symm)), h.ne, ?_, ?_⟩
  · intro k hk e
    simp [Value.ownBlock] at e
    subst e
    rcases hat with q | q
    · exact h.vch _ hk q
    · have := (hc _ hk).2; omega
  · intro k hk e
    simp [Value.ownBlock] at e
    subst e
    rcases hat with q | q
    · exact h.vtm _ hk q
    · have := (ht _ hk).2; omega

/-- a spot's six cells, written out -/
theorem RefRep.six {w : World} {b : Nat} {ρ : Nat → Nat × Nat} {S : RS} (h : RefRep w b ρ S) (r : Nat) (v : Value) (l : List SP) (hx : S.rows[r]? = some (v, l)) (k : Nat) (s : SP) (hk : l[k]? = some s) :
    ∃ g cap gc cc gt ct, v = .slice (some ⟨g, 0, none⟩) l.length cap ∧ g < w.heap.size ∧ s.chv = .slice (some ⟨gc, 0, none⟩) S.n cc ∧ s.tmv = .slice (some ⟨gt, 0, none⟩) S.n ct ∧
      w.cell? ⟨g, k * 6, none⟩ = some (.bool s.there) ∧ w.cell? ⟨g, k * 6 + 1, none⟩ = some (.string s.text) ∧ w.cell? ⟨g, k * 6 + 2, none⟩ = some (.int .i64 s.by_) ∧ w.cell? ⟨g, k * 6 + 3, none⟩ = some (.int .i64 s.num) ∧
      w.cell? ⟨g, k * 6 + 4, none⟩ = some (.slice (some ⟨gc, 0, none⟩) S.n cc) ∧ w.cell? ⟨g, k * 6 + 5, none⟩ = some (.slice (some ⟨gt, 0, none⟩) S.n ct) := by
  obtain ⟨g, cap, ev, hg, _, hc, _⟩ := spot_cells (h.row r _ hx).1 k s hk
  have hsp := h.sp r _ hx s (List.mem_of_getElem? hk)
  have hn := h.n1
  obtain ⟨gc, cc, ec, _⟩ := hsp.ch.form (by rw [hsp.chl]; omega)
  obtain ⟨gt, ct, et, _⟩ := hsp.tm.form (by rw [hsp.tml]; omega)
  rw [hsp.chl] at ec
  rw [hsp.tml] at et
  refine ⟨g, cap, gc, cc, gt, ct, ev, hg, ec, et, ?_, ?_, ?_, ?_, ?_, ?_⟩
  · simpa [SP.cells] using hc 0 (by omega)
  · simpa [SP.cells] using hc 1 (by omega)
  · simpa [SP.cells] using hc 2 (by omega)
  · simpa [SP.cells] using hc 3 (by omega)
  · rw [← ec]; simpa [SP.cells] using hc 4 (by omega)
  · rw [← et]; simpa [SP.cells] using hc 5 (by omega)

/-- the spots that are gathered: k of them are passed -/
structure Gather (W w : World) (n at_ : Nat) (c : List Int) (l : List SP) (k : Nat) (v : Value) : Prop where
  below : Below W.heap.size W w
  low : k ≤ at_ → w.ownsRow W.heap.size 117 6 v k (spv (l.take k))
  high : at_ < k → ∃ fr, FrOk W w n c v fr ∧ w.ownsRow W.heap.size 117 6 v (k + 1) (spv (ins at_ fr l k))

theorem spv_one (s : SP) : spv [s] = s.cells := by simp [spv]
theorem Gather.start (W : World) (n at_ : Nat) (c : List Int) (l : List SP) : Gather W W n at_ c l 0 (.slice none 0 0) :=
  ⟨Below.refl _ _, fun _ => by simpa [spv] using World.ownsRow_nil W W.heap.size _ 6, fun h => by omega⟩
/-- one more, ahead of the place -/
theorem Gather.lo {W w w1 : World} {n at_ : Nat} {c : List Int} {l : List SP} {k : Nat} {v : Value} (h : Gather W w n at_ c l k v) (hk : k < at_) (s : SP) (hs : l[k]? = some s) (o : Obj) (g cap : Nat)
    (ho : w1.ownsRow W.heap.size 117 6 (.slice (some ⟨g, 0, none⟩) (k + 1) cap) (k + 1) (spv (l.take k) ++ s.cells)) (hg : (w.alloc o).grownBy w1 v.ownBlock) : Gather W w1 n at_ c l (k + 1) (.slice (some ⟨g, 0, none⟩) (k + 1) cap) := by
  have hbl : Below W.heap.size W (w.alloc o) := h.below.alloc h.below.size o
  have hown := h.low (by omega)
  refine ⟨grown_below hbl hg (fun q hq => (World.ownsRow.lt hown q hq).1), fun _ => ?_, fun q => by omega⟩
  obtain ⟨hk', rfl⟩ := List.getElem?_eq_some_iff.1 hs
  rw [List.take_succ_eq_append_getElem hk', spv_append, spv_one]
  exact ho
/-- one more, behind the place -/
theorem Gather.hi {W w w1 : World} {n at_ : Nat} {c : List Int} {l : List SP} {k : Nat} {v : Value} (hb : Below W.heap.size W w) (hk : at_ < k) (fr : SP) (hf : FrOk W w n c v fr) (hown : w.ownsRow W.heap.size 117 6 v (k + 1) (spv (ins at_ fr l k))) (s : SP) (hs : l[k]? = some s) (o : Obj) (g cap : Nat)
    (ho : w1.ownsRow W.heap.size 117 6 (.slice (some ⟨g, 0, none⟩) (k + 1 + 1) cap) (k + 1 + 1) (spv (ins at_ fr l k) ++ s.cells)) (hg : (w.alloc o).grownBy w1 v.ownBlock) (hat : v.ownBlock = some g ∨ g = (w.alloc o).heap.size) :
    Gather W w1 n at_ c l (k + 1) (.slice (some ⟨g, 0, none⟩) (k + 1 + 1) cap) := by
  refine ⟨grown_below (hb.alloc hb.size o) hg (fun q hq => (World.ownsRow.lt hown q hq).1), fun q => by omega, fun _ => ⟨fr, (hf.alloc o).grown hg hat, ?_⟩⟩
  rw [ins_gt at_ fr l k s hk hs, spv_append, spv_one]
  exact ho

end Go.Proofs.YtaelaldmibgibaaGreatDoor

namespace Go.Proofs.YtaelaldmibgibaaGreatDoor
open Go.RowKit

/-- the new spot is in, what comes behind it is not yet -/
structure Half (W w : World) (n at_ : Nat) (c : List Int) (l : List SP) (v : Value) : Prop where
  below : Below W.heap.size W w
  own : ∃ fr, FrOk W w n c v fr ∧ w.ownsRow W.heap.size 117 6 v (at_ + 1) (spv (l.take at_ ++ [fr]))

theorem Gather.put {W w wf w1 : World} {n at_ : Nat} {c : List Int} {l : List SP} {v : Value} (h : Gather W w n at_ c l at_ v) (hb : Below w.heap.size w wf) (fr : SP) (hfr : Fresh n c fr)
    (hch : wf.ownsRow w.heap.size 3 1 fr.chv n (ivs (List.replicate n 0))) (htm : wf.ownsRow w.heap.size 3 1 fr.tmv c.length (ivs c)) (hne : ∀ k, fr.chv.ownBlock = some k → fr.tmv.ownBlock ≠ some k)
    (o : Obj) (g cap : Nat) (ho : w1.ownsRow W.heap.size 117 6 (.slice (some ⟨g, 0, none⟩) (at_ + 1) cap) (at_ + 1) (spv (l.take at_) ++ fr.cells))
    (hg : (wf.alloc o).grownBy w1 v.ownBlock) (hat : v.ownBlock = some g ∨ g = (wf.alloc o).heap.size) : Half W w1 n at_ c l (.slice (some ⟨g, 0, none⟩) (at_ + 1) cap) := by
  have hown := h.low (Nat.le_refl _)
  have hlt := World.ownsRow.lt hown
  have hWw := h.below.size
  have hblf : Below W.heap.size W wf := h.below.trans (hb.mono hWw)
  have F : FrOk W wf n c v fr := by
    refine ⟨hfr, ownsRow_base hch (fun k hk => Nat.le_trans hWw (World.ownsRow.lt hch k hk).1), ownsRow_base htm (fun k hk => Nat.le_trans hWw (World.ownsRow.lt htm k hk).1), hne, ?_, ?_⟩
    · intro k hk e
      have a1 := (hlt k e).2
      have a2 := (World.ownsRow.lt hch k hk).1
      omega
    · intro k hk e
      have a1 := (hlt k e).2
      have a2 := (World.ownsRow.lt htm k hk).1
      omega
  refine ⟨grown_below (hblf.alloc hblf.size o) hg (fun q hq => (hlt q hq).1), fr, (F.alloc o).grown hg hat, ?_⟩
  rw [spv_append, spv_one]
  exact ho

theorem Half.next {W w w1 : World} {n at_ : Nat} {c : List Int} {l : List SP} {v : Value} (hb : Below W.heap.size W w) (fr : SP) (hf : FrOk W w n c v fr) (hown : w.ownsRow W.heap.size 117 6 v (at_ + 1) (spv (l.take at_ ++ [fr]))) (s : SP) (hs : l[at_]? = some s) (o : Obj) (g cap : Nat)
    (ho : w1.ownsRow W.heap.size 117 6 (.slice (some ⟨g, 0, none⟩) (at_ + 1 + 1) cap) (at_ + 1 + 1) (spv (l.take at_ ++ [fr]) ++ s.cells))
    (hg : (w.alloc o).grownBy w1 v.ownBlock) (hat : v.ownBlock = some g ∨ g = (w.alloc o).heap.size) : Gather W w1 n at_ c l (at_ + 1) (.slice (some ⟨g, 0, none⟩) (at_ + 1 + 1) cap) := by
  refine ⟨grown_below (hb.alloc hb.size o) hg (fun q hq => (World.ownsRow.lt hown q hq).1), fun q => by omega, fun _ => ⟨fr, (hf.alloc o).grown hg hat, ?_⟩⟩
  rw [ins_at at_ fr l s hs, spv_append, spv_one]
  have e : ins at_ fr l at_ = l.take at_ := by unfold ins; rw [if_pos (Nat.le_refl _)]
  rw [e]
  exact ho

/-- a row is whole: the new spot at its place -/
structure Whole (W w : World) (n at_ : Nat) (c : List Int) (l : List SP) (v : Value) : Prop where
  below : Below W.heap.size W w
  own : ∃ fr, FrOk W w n c v fr ∧ w.ownsRow W.heap.size 117 6 v (l.length + 1) (spv (l.take at_ ++ fr :: l.drop at_))
theorem Gather.whole {W w : World} {n at_ : Nat} {c : List Int} {l : List SP} {v : Value} (h : Gather W w n at_ c l l.length v) (hlt : at_ < l.length) : Whole W w n at_ c l v := by
  obtain ⟨fr, hf, ho⟩ := h.high hlt
  rw [ins_end at_ fr l hlt] at ho
  exact ⟨h.below, fr, hf, ho⟩
theorem Half.whole {W w : World} {n at_ : Nat} {c : List Int} {l : List SP} {v : Value} (h : Half W w n at_ c l v) (he : at_ = l.length) : Whole W w n at_ c l v := by
  obtain ⟨fr, hf, ho⟩ := h.own
  subst he
  refine ⟨h.below, fr, hf, ?_⟩
  rw [List.drop_length]
  exact ho

/-- the row is put in its place -/
theorem Whole.store {W w : World} {b : Nat} {ρ : Nat → Nat × Nat} {S : RS} {at_ r : Nat} {c : List Int} {l : List SP} {v ov cw : Value} (h : Whole W w S.n at_ c l v) (hR : RefRep W b ρ S) (hx : S.rows[r]? = some (ov, l)) (hc : S.coms[r]? = some (cw, c)) (sg sc : Nat)
    (es : S.sv = .slice (some ⟨sg, 0, none⟩) S.n sc) (hrn : r < S.n) :
    ∃ ρ' fr, RefRep (w.setCell ⟨sg, r, none⟩ v) b ρ' { S with rows := S.rows.set r (v, l.take at_ ++ fr :: l.drop at_) } ∧ Grow W ρ ρ' ∧ Fresh S.n c fr ∧ (∃ g cap, v = .slice (some ⟨g, 0, none⟩) (l.length + 1) cap) := by
  obtain ⟨fr, hf, ho⟩ := h.own
  have hn := hR.n1
  obtain ⟨gv, cv, rfl, hgv, hgvl⟩ := World.ownsRow.form ho (by omega)
  obtain ⟨gc, cc, ec, hgc, hgcl⟩ := World.ownsRow.form hf.ch (by omega)
  have hcl : c.length = S.n := (hR.com r _ hc).2.1
  obtain ⟨gt, ct, et, hgt, hgtl⟩ := World.ownsRow.form hf.tm (by omega)
  have hR1 : RefRep w b ρ S := hR.below h.below
  have n1 : gv ≠ gc := by intro e; subst e; exact hf.vch gv (by rw [ec]; rfl) rfl
  have n2 : gv ≠ gt := by intro e; subst e; exact hf.vtm gv (by rw [et]; rfl) rfl
  have n3 : gc ≠ gt := by intro e; subst e; exact hf.ne gc (by rw [ec]; rfl) (by rw [et]; rfl)
  have f1 : (ρ gv).1 = 0 := hR.free hgv
  have f2 : (ρ gc).1 = 0 := hR.free hgc
  have f3 : (ρ gt).1 = 0 := hR.free hgt
  have R1 := hR1.upd (5, r) f1 hgvl
  have R2 := R1.upd (k := gc) (6, 0) (by unfold upd; rw [if_neg (Ne.symm n1)]; exact f2) hgcl
  have R3 := R2.upd (k := gt) (7, r) (by unfold upd; rw [if_neg (Ne.symm n3), if_neg (Ne.symm n2)]; exact f3) hgtl
  have r1 : role (upd (upd (upd ρ gv (5, r)) gc (6, 0)) gt (7, r)) (.slice (some ⟨gv, 0, none⟩) (l.length + 1) cv) (5, r) := by
    intro k hk; simp [Value.ownBlock] at hk; subst hk
    unfold upd; rw [if_neg n2, if_neg n1, if_pos rfl]
  have r2 : role (upd (upd (upd ρ gv (5, r)) gc (6, 0)) gt (7, r)) fr.chv (6, 0) := by
    intro k hk; rw [ec] at hk; simp [Value.ownBlock] at hk; subst hk
    unfold upd; rw [if_neg n3, if_pos rfl]
  have r3 : role (upd (upd (upd ρ gv (5, r)) gc (6, 0)) gt (7, r)) fr.tmv (7, r) := by
    intro k hk; rw [et] at hk; simp [Value.ownBlock] at hk; subst hk
    unfold upd; rw [if_pos rfl]
  refine ⟨_, fr, R3.setRow sg sc r es hrn _ _ ?_ r1 ?_, (((Grow.refl W ρ).upd hgv _).upd hgc _).upd hgt _, hf.fresh, gv, cv, rfl⟩
  · have e : (l.take at_ ++ fr :: l.drop at_).length = l.length + 1 := by
      simp only [List.length_append, List.length_cons, List.length_take, List.length_drop]; omega
    rw [e]
    exact ownsRow_base ho (fun _ _ => Nat.zero_le _)
  · intro t ht
    have ht' : t ∈ l ∨ t = fr := by
      simp only [List.mem_append, List.mem_cons] at ht
      rcases ht with ht | ht | ht
      · exact .inl (List.mem_of_mem_take ht)
      · exact .inr ht
      · exact .inl (List.mem_of_mem_drop ht)
    rcases ht' with ht' | rfl
    · exact R3.sp r _ hx t ht'
    · refine ⟨?_, ?_, r2, ?_, ?_, r3⟩
      · unfold intRow
        rw [hf.fresh.ch, List.length_replicate]
        exact ownsRow_base hf.ch (fun _ _ => Nat.zero_le _)
      · rw [hf.fresh.ch, List.length_replicate]
      · unfold intRow
        rw [hf.fresh.tm]
        exact ownsRow_base hf.tm (fun _ _ => Nat.zero_le _)
      · rw [hf.fresh.tm]; exact hcl

/-- how far the rows have come: those below r have the new spot -/
structure Rowed (S Sr : RS) (at_ : Nat) (ps : List ByteArray) (r : Nat) : Prop where
  n : Sr.n = S.n
  coms : Sr.coms = S.coms
  paths : Sr.paths = ps
  lo : ∀ r' v l, S.rows[r']? = some (v, l) → r' < r → ∃ v' fr cw c, Sr.rows[r']? = some (v', l.take at_ ++ fr :: l.drop at_) ∧ S.coms[r']? = some (cw, c) ∧ Fresh S.n c fr
  hi : ∀ r' x, S.rows[r']? = some x → r ≤ r' → Sr.rows[r']? = some x
theorem Rowed.next {S Sr : RS} {at_ r : Nat} {ps : List ByteArray} (h : Rowed S Sr at_ ps r) (hr : r < Sr.rows.length) (v ov : Value) (l : List SP) (hx : S.rows[r]? = some (ov, l)) (fr : SP) (cw : Value) (c : List Int) (hc : S.coms[r]? = some (cw, c)) (hf : Fresh S.n c fr) :
    Rowed S { Sr with rows := Sr.rows.set r (v, l.take at_ ++ fr :: l.drop at_) } at_ ps (r + 1) := by
  refine ⟨h.n, h.coms, h.paths, ?_, ?_⟩
  · intro r' v' l' hx' hlt
    by_cases e : r' = r
    · subst e
      rw [hx] at hx'
      simp at hx'
      obtain ⟨rfl, rfl⟩ := hx'
      exact ⟨v, fr, cw, c, by simp [hr], hc, hf⟩
    · obtain ⟨v'', fr', cw', c', h1, h2⟩ := h.lo r' v' l' hx' (by omega)
      exact ⟨v'', fr', cw', c', by rw [List.getElem?_set_ne (Ne.symm e)]; exact h1, h2⟩
  · intro r' x hx' hle
    rw [List.getElem?_set_ne (by omega)]
    exact h.hi r' x hx' (by omega)

/-- the row as it stands where it can be appended to, in a world behind -/
theorem Gather.lowf {W w wf : World} {n at_ : Nat} {c : List Int} {l : List SP} {k : Nat} {v : Value} (h : Gather W w n at_ c l k v) (hk : k ≤ at_) (hb : Below w.heap.size w wf) : wf.ownsRow W.heap.size 117 6 v k (spv (l.take k)) :=
  ownsRow_keep (h.low hk) (fun q hq => hb.block q (World.ownsRow.lt (h.low hk) q hq).2)

/-- fresh, its two lists written out -/
theorem fresh_form (b r : Nat) (ρ : Nat → Nat × Nat) (S : RS) (w : World) (h : RefRep w b ρ S) (hr : r < S.n) (cw : Value) (c : List Int) (hc : S.coms[r]? = some (cw, c)) :
    Calls Tryz.prog 102 #[.pointer (some ⟨b, 0, none⟩), .int .i64 r] w fun e w' => ∃ gc cc gt ct,
      e = .returned (.agg #[.bool false, .string ⟨#[]⟩, .int .i64 0, .int .i64 0, .slice (some ⟨gc, 0, none⟩) S.n cc, .slice (some ⟨gt, 0, none⟩) S.n ct]) ∧ Hid (w'.ownsRow w.heap.size 3 1 (.slice (some ⟨gc, 0, none⟩) S.n cc) S.n (ivs (List.replicate S.n 0))) ∧
      Hid (w'.ownsRow w.heap.size 3 1 (.slice (some ⟨gt, 0, none⟩) S.n ct) c.length (ivs c)) ∧ gc ≠ gt ∧ Hid (Below w.heap.size w w') := by
  have hn := h.n1
  have hcl := (h.com r _ hc).2.1
  refine (fresh_any b r ρ S w h hr).mono ?_
  rintro e w' ⟨chv, tmv, l, x, hx, rfl, h1, h2, h3, h4⟩
  rw [hc] at hx
  simp at hx
  obtain ⟨rfl, rfl⟩ := hx
  obtain ⟨gc, cc, rfl, _⟩ := World.ownsRow.form h1 (by omega)
  simp only at hcl
  obtain ⟨gt, ct, rfl, _⟩ := World.ownsRow.form h2 (by omega)
  rw [hcl] at h2 ⊢
  exact ⟨gc, cc, gt, ct, rfl, h1, h2, fun e => h3 gc rfl (by rw [e]; rfl), h4⟩

end Go.Proofs.YtaelaldmibgibaaGreatDoor
