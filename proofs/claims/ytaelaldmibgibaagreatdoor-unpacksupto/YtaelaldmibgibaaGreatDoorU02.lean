/- The document's answer in memory: what a net of it is (RefRep), and what of the world it hangs on. The document's answer: equal, asked, files. The document's text: within, value. The document's text: a reader; is, want. -/
import Derived.Test.YtaelaldmibgibaaGreatDoorU01
import Derived.Deep.DrawnRows
import Derived.BigQuiet
import Derived.Deep.QuietTactic

set_option linter.unusedVariables false
set_option linter.unusedSimpArgs false

namespace Go.Proofs.YtaelaldmibgibaaGreatDoor
open Go.RowKit

theorem zeros_form (n : Nat) (h1 : 1 ≤ n) (hn : n ≤ 6) (w : World) :
    Calls Tryz.prog 49 #[.int .i64 n] w fun e w' => ∃ g cap, e = .returned (.slice (some ⟨g, 0, none⟩) n cap) ∧ w'.ownsRow w.heap.size 3 1 (.slice (some ⟨g, 0, none⟩) n cap) n (ivs (List.replicate n 0)) ∧ w.heap.size ≤ g ∧ g < w'.heap.size ∧ Below w.heap.size w w' := by
  refine (zeros_any n hn w).mono ?_
  rintro e w' ⟨v, rfl, ho, hb⟩
  obtain ⟨g, cap, rfl, hg, hlt⟩ := World.ownsRow.form ho (by omega)
  exact ⟨g, cap, rfl, by simpa [ivs] using ho, hg, hlt, hb⟩
theorem copied_form (v : Value) (l : List Int) (w : World) (h : intRow w v l) (h0 : 0 < l.length) (h6 : l.length ≤ 6) :
    Calls Tryz.prog 153 #[v] w fun e w' => ∃ g cap, e = .returned (.slice (some ⟨g, 0, none⟩) l.length cap) ∧ w'.ownsRow w.heap.size 3 1 (.slice (some ⟨g, 0, none⟩) l.length cap) l.length (ivs l) ∧ w.heap.size ≤ g ∧ g < w'.heap.size ∧ Below w.heap.size w w' := by
  refine (copied_any v l w h h0 h6).mono ?_
  rintro e w' ⟨v, rfl, ho, hb⟩
  obtain ⟨g, cap, rfl, hg, hlt⟩ := World.ownsRow.form ho (by omega)
  exact ⟨g, cap, rfl, ho, hg, hlt, hb⟩

/-- A spot: what its cells hold, and what its two lists hold. -/
structure SP where
  there : Bool
  text : ByteArray
  by_ : Int
  num : Int
  chv : Value
  ch : List Int
  tmv : Value
  tm : List Int

def SP.cells (s : SP) : List Value := [.bool s.there, .string s.text, .int .i64 s.by_, .int .i64 s.num, s.chv, s.tmv]
def spv : List SP → List Value
  | [] => []
  | s :: l => s.cells ++ spv l

theorem spv_append (a b : List SP) : spv (a ++ b) = spv a ++ spv b := by
  induction a with
  | nil => rfl
  | cons s a ih => simp [spv, ih]
theorem spv_length (l : List SP) : (spv l).length = l.length * 6 := by
  induction l with
  | nil => rfl
  | cons s l ih => simp [spv, ih, SP.cells]; omega
theorem spv_get (l : List SP) (i : Nat) (s : SP) (h : l[i]? = some s) (j : Nat) (hj : j < 6) : (spv l)[i * 6 + j]? = s.cells[j]? := by
  induction l generalizing i with
  | nil => simp at h
  | cons x l ih =>
    have hx : x.cells.length = 6 := rfl
    cases i with
    | zero =>
      simp at h; subst h
      simp only [spv, Nat.zero_mul, Nat.zero_add]
      rw [List.getElem?_append_left (by omega)]
    | succ i =>
      simp at h
      simp only [spv]
      rw [List.getElem?_append_right (by omega), ← ih i h]
      congr 1; omega

/-- All that a net of the document's answer holds. -/
structure RS where
  n : Nat
  paths : List ByteArray
  pv : Value
  cv : Value
  sv : Value
  coms : List (Value × List Int)
  rows : List (Value × List SP)

def role (ρ : Nat → Nat × Nat) (v : Value) (x : Nat × Nat) : Prop := ∀ k, v.ownBlock = some k → ρ k = x

structure SpOk (w : World) (ρ : Nat → Nat × Nat) (n r : Nat) (s : SP) : Prop where
  ch : intRow w s.chv s.ch
  chl : s.ch.length = n
  chr : role ρ s.chv (6, 0)
  tm : intRow w s.tmv s.tm
  tml : s.tm.length = n
  tmr : role ρ s.tmv (7, r)

structure RefRep (w : World) (b : Nat) (ρ : Nat → Nat × Nat) (S : RS) : Prop where
  net : w.heap[b]? = some (.cells #[.int .i64 S.n, S.pv, S.cv, S.sv] 103 (0, 0))
  n1 : 1 ≤ S.n
  n6 : S.n ≤ 6
  p : w.ownsRow 0 9 1 S.pv S.paths.length (svs S.paths)
  c : w.ownsRow 0 58 1 S.cv S.n (S.coms.map (·.1))
  s : w.ownsRow 0 112 1 S.sv S.n (S.rows.map (·.1))
  com : ∀ r x, S.coms[r]? = some x → intRow w x.1 x.2 ∧ x.2.length = S.n ∧ role ρ x.1 (4, r)
  row : ∀ r x, S.rows[r]? = some x → w.ownsRow 0 117 6 x.1 x.2.length (spv x.2) ∧ role ρ x.1 (5, r)
  sp : ∀ r x, S.rows[r]? = some x → ∀ y ∈ x.2, SpOk w ρ S.n r y
  rb : ρ b = (1, 0)
  rp : role ρ S.pv (2, 0)
  rc : role ρ S.cv (3, 0)
  rs : role ρ S.sv (8, 0)
  lt : ∀ k, (ρ k).1 ≠ 0 → k < w.heap.size

theorem RefRep.coml {w b ρ S} (h : RefRep w b ρ S) : S.coms.length = S.n := by simpa using h.c.1
theorem RefRep.rowl {w b ρ S} (h : RefRep w b ρ S) : S.rows.length = S.n := by simpa using h.s.1

theorem SpOk.keep {w w' : World} {ρ : Nat → Nat × Nat} {n r : Nat} {s : SP} (h : SpOk w ρ n r s) (hk : ∀ k, (ρ k).1 ≠ 0 → w'.heap[k]? = w.heap[k]?) : SpOk w' ρ n r s :=
  ⟨ownsRow_keep h.ch (fun k e => hk k (by rw [h.chr k e]; decide)), h.chl, h.chr, ownsRow_keep h.tm (fun k e => hk k (by rw [h.tmr k e]; simp)), h.tml, h.tmr⟩

/-- a net stays what it is where its blocks stay -/
theorem RefRep.keep {w w' : World} {b : Nat} {ρ : Nat → Nat × Nat} {S : RS} (h : RefRep w b ρ S) (hs : w.heap.size ≤ w'.heap.size) (hk : ∀ k, (ρ k).1 ≠ 0 → w'.heap[k]? = w.heap[k]?) : RefRep w' b ρ S where
  net := by rw [hk b (by rw [h.rb]; decide)]; exact h.net
  n1 := h.n1
  n6 := h.n6
  p := ownsRow_keep h.p (fun k e => hk k (by rw [h.rp k e]; decide))
  c := ownsRow_keep h.c (fun k e => hk k (by rw [h.rc k e]; decide))
  s := ownsRow_keep h.s (fun k e => hk k (by rw [h.rs k e]; decide))
  com := fun r x hx => ⟨ownsRow_keep (h.com r x hx).1 (fun k e => hk k (by rw [(h.com r x hx).2.2 k e]; simp)), (h.com r x hx).2⟩
  row := fun r x hx => ⟨ownsRow_keep (h.row r x hx).1 (fun k e => hk k (by rw [(h.row r x hx).2 k e]; simp)), (h.row r x hx).2⟩
  sp := fun r x hx y hy => (h.sp r x hx y hy).keep hk
  rb := h.rb
  rp := h.rp
  rc := h.rc
  rs := h.rs
  lt := fun k hk' => Nat.lt_of_lt_of_le (h.lt k hk') hs

theorem RefRep.fr {w w' : World} {b : Nat} {ρ : Nat → Nat × Nat} {S : RS} {F : Nat → Prop} (h : RefRep w b ρ S) (hf : Fr F w w') (hd : ∀ k, (ρ k).1 ≠ 0 → ¬ F k) : RefRep w' b ρ S :=
  h.keep hf.size (fun k hk => hf.block k (h.lt k hk) (hd k hk))
theorem RefRep.below {w w' : World} {b : Nat} {ρ : Nat → Nat × Nat} {S : RS} (h : RefRep w b ρ S) (hf : Below w.heap.size w w') : RefRep w' b ρ S :=
  h.keep hf.size (fun k hk => hf.block k (h.lt k hk))

/-- the cells of the net's own block -/
theorem RefRep.c0 {w b ρ S} (h : RefRep w b ρ S) : w.cell? ⟨b, 0, none⟩ = some (.int .i64 S.n) := by simp [World.cell?, h.net]
theorem RefRep.c1 {w b ρ S} (h : RefRep w b ρ S) : w.cell? ⟨b, 1, none⟩ = some S.pv := by simp [World.cell?, h.net]
theorem RefRep.c2 {w b ρ S} (h : RefRep w b ρ S) : w.cell? ⟨b, 2, none⟩ = some S.cv := by simp [World.cell?, h.net]
theorem RefRep.c3 {w b ρ S} (h : RefRep w b ρ S) : w.cell? ⟨b, 3, none⟩ = some S.sv := by simp [World.cell?, h.net]

/-- the common time of a replica, down to its numbers -/
theorem RefRep.common {w b ρ S} (h : RefRep w b ρ S) (r : Nat) (hr : r < S.n) :
    ∃ cg cc g cap l, S.cv = .slice (some ⟨cg, 0, none⟩) S.n cc ∧ w.cell? ⟨cg, r, none⟩ = some (.slice (some ⟨g, 0, none⟩) S.n cap) ∧ S.coms[r]? = some (.slice (some ⟨g, 0, none⟩) S.n cap, l) ∧
      l.length = S.n ∧ ρ g = (4, r) ∧ g < w.heap.size ∧ cg < w.heap.size ∧ ρ cg = (3, 0) ∧ (∀ k, k < S.n → w.cell? ⟨g, k, none⟩ = some (.int .i64 (l.getD k 0))) ∧ (∀ k, w.frozen? ⟨g, k, none⟩ = false) := by
  have h1 := h.n1
  obtain ⟨cg, cc, ec, _, hcl⟩ := World.ownsRow.form h.c (by omega)
  have hl := h.coml
  have hx : S.coms[r]? = some S.coms[r] := List.getElem?_eq_getElem (by omega)
  generalize hxe : S.coms[r] = x at hx
  obtain ⟨hi, hlen, hro⟩ := h.com r x hx
  obtain ⟨g, cap, ev, hg, hcell, hfz, _⟩ := hi.form (by omega)
  refine ⟨cg, cc, g, cap, x.2, ec, ?_, ?_, hlen, hro g (by rw [ev]; rfl), hg, hcl, h.rc cg (by rw [ec]; rfl), fun k hk => hcell k (by omega), hfz⟩
  · have hc := h.c
    rw [ec] at hc
    rw [World.ownsRow.cellAt hc r (by omega)]
    simp only [List.getElem?_map, hx, Option.map_some]
    rw [ev, hlen]
  · rw [hx]; congr 1; ext1
    · simp only; rw [ev, hlen]
    · rfl

/-- the row of a replica's spots -/
theorem RefRep.theRow {w b ρ S} (h : RefRep w b ρ S) (r : Nat) (hr : r < S.n) :
    ∃ sg sc v l, S.sv = .slice (some ⟨sg, 0, none⟩) S.n sc ∧ w.cell? ⟨sg, r, none⟩ = some v ∧ S.rows[r]? = some (v, l) ∧ w.ownsRow 0 117 6 v l.length (spv l) ∧ role ρ v (5, r) ∧
      sg < w.heap.size ∧ ρ sg = (8, 0) ∧ (∀ k, w.frozen? ⟨sg, k, none⟩ = false) := by
  have h1 := h.n1
  obtain ⟨sg, sc, es, _, hsl⟩ := World.ownsRow.form h.s (by omega)
  have hl := h.rowl
  have hx : S.rows[r]? = some S.rows[r] := List.getElem?_eq_getElem (by omega)
  generalize hxe : S.rows[r] = x at hx
  have hs := h.s
  rw [es] at hs
  refine ⟨sg, sc, x.1, x.2, es, ?_, hx, (h.row r x hx).1, (h.row r x hx).2, hsl, h.rs sg (by rw [es]; rfl), fun k => World.ownsRow.frozenAt hs k⟩
  rw [World.ownsRow.cellAt hs r (by omega)]
  simp [List.getElem?_map, hx]

/-- a spot of a row: its cells -/
theorem spot_cells {w : World} {base e : Nat} {v : Value} {l : List SP} (h : w.ownsRow base e 6 v l.length (spv l)) (i : Nat) (s : SP) (hs : l[i]? = some s) :
    ∃ g cap, v = .slice (some ⟨g, 0, none⟩) l.length cap ∧ g < w.heap.size ∧ i < l.length ∧ (∀ j, j < 6 → w.cell? ⟨g, i * 6 + j, none⟩ = s.cells[j]?) ∧ (∀ k, w.frozen? ⟨g, k, none⟩ = false) := by
  have hi : i < l.length := (List.getElem?_eq_some_iff.1 hs).1
  obtain ⟨g, cap, rfl, _, hlt⟩ := World.ownsRow.form h (by omega)
  refine ⟨g, cap, rfl, hlt, hi, fun j hj => ?_, fun k => World.ownsRow.frozenAt h k⟩
  rw [World.ownsRow.cellAt h _ (by omega)]
  exact spv_get l i s hs j hj

end Go.Proofs.YtaelaldmibgibaaGreatDoor

namespace Go.Proofs.YtaelaldmibgibaaGreatDoor
open Go.RowKit

theorem list_eq_take (a b : List Int) (n k : Nat) (ha : a.length = n) (hb : b.length = n) (hk : ¬ k < n) (h : a.take k = b.take k) : a = b := by
  rwa [List.take_of_length_le (by omega), List.take_of_length_le (by omega)] at h
theorem list_take_succ_eq (a b : List Int) (n k : Nat) (ha : a.length = n) (hb : b.length = n) (hk : k < n) (h : a.take k = b.take k) (he : a.getD k 0 = b.getD k 0) : a.take (k + 1) = b.take (k + 1) := by
  rw [List.take_succ_eq_append_getElem (by omega), List.take_succ_eq_append_getElem (by omega), h]
  simp [List.getElem?_eq_getElem (show k < a.length by omega), List.getElem?_eq_getElem (show k < b.length by omega)] at he
  rw [he]
theorem list_ne_at (a b : List Int) (k : Nat) (he : a.getD k 0 ≠ b.getD k 0) : a ≠ b := fun h => he (by rw [h])

set_option maxHeartbeats 400000 in
theorem equal_any (va vb : Value) (la lb : List Int) (w : World) (ha : intRow w va la) (hb : intRow w vb lb) (hl : la.length = lb.length) (h0 : 0 < la.length) (h6 : la.length ≤ 6) :
    Calls Tryz.prog 164 #[va, vb] w fun e w' => e = .returned (.bool (decide (la = lb))) ∧ ∃ nq, w' = w.drewN nq := by
  obtain ⟨g, cap, rfl, hg, hc, _, _⟩ := ha.form h0
  obtain ⟨g', cap', rfl, hg', hc', _, _⟩ := hb.form (by omega)
  rw [← hl] at hc' ⊢
  have HL : Hid (lb.length = la.length) := hl.symm
  clear ha hb hl
  generalize hn : la.length = n at *
  have HN : Hid (la.length = n) := hn
  clear hn
  go_enter Tryz.func164, Tryz.ntmps164
  go_wp2
  go_loopw [5] (fun i wr => ∃ k nq : Nat, k ≤ n ∧ i = .int .i64 k ∧ Hid (la.take k = lb.take k) ∧ wr = w.drewN nq) (fun i _ => n - (intOf i).toNat)
  case atStart => exact ⟨0, 0, Nat.zero_le _, rfl, by unfold Hid; simp, rfl⟩
  case round =>
    obtain ⟨k, nq, hk, rfl, he, rfl⟩ := hrel
    by_cases hlt : k < n
    · have h1 := hc k hlt
      have h2 := hc' k hlt
      have T := hide (list_take_succ_eq la lb n k HN.out HL.out hlt he.out)
      have N := hide (list_ne_at la lb k)
      clear hc hc'
      generalize la.getD k 0 = x at *
      generalize lb.getD k 0 = y at *
      by_cases hxy : x = y
      · have T' := hide (T.out hxy)
        clear T N
        subst hxy
        go_wp2_with fail
        go_quiet (fail)
        go_wp2
        go_roundw
        case rel => exact ⟨k + 1, _, by omega, by go_num, T', rfl⟩
        case measure => simp [intOf]; omega
      · have hb : (x != y) = true := by simp [hxy]
        have N' := hide (N.out hxy)
        clear T N
        go_wp2_with fail
        go_quiet (fail)
        go_wp2
        go_ret
        exact ⟨ret_bool (decide_eq_false (N'.out)).symm, _, World.drewN_drewN _ _ _⟩
    · have E : Hid (la = lb) := list_eq_take la lb n k HN.out HL.out hlt he.out
      clear hc hc'
      go_wp2
      go_ret
      exact ⟨ret_bool (decide_eq_true E.out).symm, _, rfl⟩

set_option maxHeartbeats 400000 in
theorem asked_any (b : Nat) (r : Int) (s : ByteArray) (ρ : Nat → Nat × Nat) (S : RS) (w : World) (h : RefRep w b ρ S) (hs : s.size ≤ maxLen) :
    Calls Tryz.prog 150 #[.pointer (some ⟨b, 0, none⟩), .int .i64 r, .string s] w fun e w' =>
      e = .returned (.int .i64 (if r < 0 ∨ (S.n : Int) ≤ r then 1 else if pathOk s = true then 0 else 2)) ∧ w' = w := by
  have h0 := h.c0
  generalize S.n = n at *
  clear h
  by_cases h1 : r < 0
  · have d1 : decide (r < 0) = true := by simp [h1]
    rw [if_pos (.inl h1)]
    go_enter Tryz.func150, Tryz.ntmps150
    go_wp2
    go_ret
    exact ⟨rfl, rfl⟩
  · have d1 : decide (r < 0) = false := by simp; omega
    by_cases h2 : (n : Int) ≤ r
    · rw [if_pos (.inr h2)]
      go_enter Tryz.func150, Tryz.ntmps150
      go_wp2
      go_ret
      exact ⟨rfl, rfl⟩
    · rw [if_neg (by omega)]
      cases hp : pathOk s with
      | true =>
        go_enter Tryz.func150, Tryz.ntmps150
        go_wp2_with (go_at_call 156; refine (IsPath_any s _ hs).mono ?_; rintro e w' ⟨rfl, rfl⟩)
        go_ret
        exact ⟨rfl, rfl⟩
      | false =>
        go_enter Tryz.func150, Tryz.ntmps150
        go_wp2_with (go_at_call 156; refine (IsPath_any s _ hs).mono ?_; rintro e w' ⟨rfl, rfl⟩)
        go_ret
        exact ⟨rfl, rfl⟩

/-- how many files some spots have -/
def filesOf (l : List SP) : Nat := (l.filter (·.there)).length
theorem filesOf_le (l : List SP) : filesOf l ≤ l.length := List.length_filter_le _ _
theorem filesOf_take_succ (l : List SP) (k : Nat) (s : SP) (h : l[k]? = some s) : filesOf (l.take (k + 1)) = filesOf (l.take k) + (if s.there = true then 1 else 0) := by
  obtain ⟨hk, rfl⟩ := List.getElem?_eq_some_iff.1 h
  unfold filesOf
  rw [List.take_succ_eq_append_getElem hk, List.filter_append]
  by_cases ht : l[k].there = true <;> simp [ht]

set_option maxHeartbeats 400000 in
theorem files_any (b r : Nat) (ρ : Nat → Nat × Nat) (S : RS) (w : World) (h : RefRep w b ρ S) (hr : r < S.n) :
    Calls Tryz.prog 60 #[.pointer (some ⟨b, 0, none⟩), .int .i64 r] w fun e w' => ∃ v l, S.rows[r]? = some (v, l) ∧ e = .returned (.int .i64 (filesOf l)) ∧ w' = w := by
  obtain ⟨sg, sc, v, l, es, hs, hx, hrow, hro, hsg, _, _⟩ := h.theRow r hr
  have h3 := h.c3
  rw [es] at h3
  have h6 := h.n6
  have HX := hide hx
  have hml : l.length ≤ 9223372036854775807 ∧ ∃ a cap, v = .slice a l.length cap := by
    rcases hrow.2 with ⟨rfl, h0⟩ | ⟨g, cap, cur, rfl, _, hg, hc, hm, _⟩
    · exact ⟨by omega, none, 0, by rw [h0]⟩
    · exact ⟨by unfold maxLen at hm; omega, _, _, rfl⟩
  obtain ⟨hml, a, cap, rfl⟩ := hml
  have hcells : ∀ k s, l[k]? = some s → ∃ g, a = some ⟨g, 0, none⟩ ∧ w.cell? ⟨g, k * 6, none⟩ = some (.bool s.there) := by
    intro k s hk
    obtain ⟨g, cap', e, _, _, hc, _⟩ := spot_cells hrow k s hk
    simp at e
    exact ⟨g, e.1, by have := hc 0 (by omega); simpa [SP.cells] using this⟩
  have HC := hide hcells
  generalize S.n = n at *
  clear hcells hrow hro hx h es
  go_enter Tryz.func60, Tryz.ntmps60
  go_wp2
  go_loop [5, 6] (fun c i => ∃ k : Nat, k ≤ l.length ∧ i = .int .i64 k ∧ c = .int .i64 (filesOf (l.take k))) (fun _ i => l.length - (intOf i).toNat)
  case atStart => exact ⟨0, Nat.zero_le _, rfl, by simp [filesOf]⟩
  case round =>
    obtain ⟨k, hk, rfl, rfl⟩ := hrel
    have hfl := filesOf_le (l.take k)
    have hfl2 : (l.take k).length ≤ k := List.length_take_le _ _
    generalize hf : filesOf (l.take k) = f at *
    have HF : Hid (filesOf (l.take k) = f) := hf
    clear hf
    generalize hL : (l.take k).length = q at *
    clear hL
    by_cases hlt : k < l.length
    · obtain ⟨s, hks⟩ : ∃ s, l[k]? = some s := ⟨l[k], List.getElem?_eq_getElem hlt⟩
      obtain ⟨g, rfl, hcell⟩ := HC.out k s hks
      have F := hide (filesOf_take_succ l k s hks)
      clear hks
      cases ht : s.there with
      | true =>
        rw [ht] at hcell
        go_wp2
        go_round
        case rel => exact ⟨k + 1, by omega, by go_num, by rw [F.out, HF.out, ht]; simp⟩
        case measure => simp [intOf]; omega
      | false =>
        rw [ht] at hcell
        go_wp2
        go_round
        case rel => exact ⟨k + 1, by omega, by go_num, by rw [F.out, HF.out, ht]; simp⟩
        case measure => simp [intOf]; omega
    · have e : l.take k = l := List.take_of_length_le (by omega)
      have E : Hid (filesOf l = f) := by rw [← HF.out, e]; exact rfl
      clear e
      go_wp2
      go_ret
      exact ⟨_, l, HX.out, ret_int (by rw [E.out]), rfl⟩

end Go.Proofs.YtaelaldmibgibaaGreatDoor

namespace Go.Proofs.YtaelaldmibgibaaGreatDoor
open Go.RowKit

/-- none of a time's numbers is above the other's -/
def wIn (a b : List Int) : Prop := ∀ j, j < a.length → a.getD j 0 ≤ b.getD j 0
def wInD (a b : List Int) : Bool := decide (∀ j, j < a.length → a.getD j 0 ≤ b.getD j 0)
theorem wInD_iff (a b : List Int) : wInD a b = true ↔ wIn a b := by
  unfold wInD wIn
  exact decide_eq_true_iff
theorem wInD_true {a b : List Int} (h : wIn a b) : wInD a b = true := (wInD_iff a b).2 h
theorem wInD_false {a b : List Int} (h : ¬ wIn a b) : wInD a b = false := by
  cases e : wInD a b with
  | false => rfl
  | true => exact absurd ((wInD_iff a b).1 e) h
theorem wIn_not {a b : List Int} {k : Nat} (hk : k < a.length) (h : b.getD k 0 < a.getD k 0) : ¬ wIn a b := fun q => by have := q k hk; omega

set_option maxHeartbeats 400000 in
theorem within_any (va vb : Value) (la lb : List Int) (w : World) (ha : intRow w va la) (hb : intRow w vb lb) (hl : la.length = lb.length) (h0 : 0 < la.length) (h6 : la.length ≤ 6) :
    Calls Tryz.prog 58 #[va, vb] w fun e w' => e = .returned (.bool (wInD la lb)) ∧ ∃ nq, w' = w.drewN nq := by
  obtain ⟨g, cap, rfl, hg, hc, _, _⟩ := ha.form h0
  obtain ⟨g', cap', rfl, hg', hc', _, _⟩ := hb.form (by omega)
  rw [← hl] at hc' ⊢
  clear ha hb hl
  generalize hn : la.length = n at *
  have HN : Hid (la.length = n) := hn
  clear hn
  go_enter Tryz.func58, Tryz.ntmps58
  go_wp2
  go_loopw [5] (fun i wr => ∃ k nq : Nat, k ≤ n ∧ i = .int .i64 k ∧ Hid (∀ j, j < k → la.getD j 0 ≤ lb.getD j 0) ∧ wr = w.drewN nq) (fun i _ => n - (intOf i).toNat)
  case atStart => exact ⟨0, 0, Nat.zero_le _, rfl, fun j hj => by omega, rfl⟩
  case round =>
    obtain ⟨k, nq, hk, rfl, he, rfl⟩ := hrel
    by_cases hlt : k < n
    · have h1 := hc k hlt
      have h2 := hc' k hlt
      have T : Hid (la.getD k 0 ≤ lb.getD k 0 → ∀ j, j < k + 1 → la.getD j 0 ≤ lb.getD j 0) := fun q j hj => by
        by_cases e : j = k
        · rw [e]; exact q
        · exact he.out j (by omega)
      have N : Hid (lb.getD k 0 < la.getD k 0 → ¬ wIn la lb) := wIn_not (by rw [HN.out]; exact hlt)
      clear hc hc'
      generalize hX : la.getD k 0 = x at *
      generalize hY : lb.getD k 0 = y at *
      clear hX hY
      by_cases hxy : y < x
      · have N' := hide (N.out hxy)
        have hd : decide (y < x) = true := by simp [hxy]
        clear T N
        go_wp2_with fail
        go_quiet (fail)
        go_wp2
        go_ret
        exact ⟨ret_bool (wInD_false (N'.out)).symm, _, World.drewN_drewN _ _ _⟩
      · have T' := hide (T.out (by omega))
        have hd : decide (y < x) = false := by simp; omega
        clear T N
        go_wp2_with fail
        go_quiet (fail)
        go_wp2
        go_roundw
        case rel => exact ⟨k + 1, _, by omega, by go_num, T', rfl⟩
        case measure => simp [intOf]; omega
    · have E : Hid (wIn la lb) := fun j hj => he.out j (by rw [HN.out] at hj; omega)
      clear hc hc'
      go_wp2
      go_ret
      exact ⟨ret_bool (wInD_true E.out).symm, _, rfl⟩

/-- the digits of the document's texts -/
def digs : ByteArray := ⟨#[48, 49, 50, 51, 52, 53, 54, 55, 56, 57, 97, 98, 99, 100, 101, 102]⟩
/-- a digit's value, looked for from the k-th on -/
def valFrom : Nat → Nat → Int → Int
  | 0, _, _ => -1
  | m + 1, k, b => if ((digs.data.getD k 0).toNat : Int) = b then k else valFrom m (k + 1) b
def valOf (b : Int) : Int := valFrom 16 0 b

set_option maxRecDepth 100000 in
set_option maxHeartbeats 1000000 in
theorem value_any (b : Int) (w : World) : Calls Tryz.prog 166 #[.int .u8 b] w fun e w' => e = .returned (.int .i64 (valOf b)) ∧ w' = w := by
  go_enter Tryz.func166, Tryz.ntmps166
  go_wp2
  go_loopw [3] (fun i wr => ∃ k : Nat, k ≤ 16 ∧ i = .int .i64 k ∧ Hid (valOf b = valFrom (16 - k) k b) ∧ w = wr) (fun i _ => 16 - (intOf i).toNat)
  case atStart => exact ⟨0, by omega, rfl, rfl, rfl⟩
  case round =>
    obtain ⟨k, hk, rfl, he, rfl⟩ := hrel
    by_cases hlt : k < 16
    · have hsz : k < (⟨#[48, 49, 50, 51, 52, 53, 54, 55, 56, 57, 97, 98, 99, 100, 101, 102]⟩ : ByteArray).size := hlt
      have hx : digs.data.getD k 0 = (⟨#[48, 49, 50, 51, 52, 53, 54, 55, 56, 57, 97, 98, 99, 100, 101, 102]⟩ : ByteArray)[k] := (Array.getElem_eq_getD (h := hlt) 0).symm
      have st : valFrom (16 - k) k b = if ((digs.data.getD k 0).toNat : Int) = b then (k : Int) else valFrom (16 - (k + 1)) (k + 1) b := by
        rw [show 16 - k = (16 - (k + 1)) + 1 by omega]; rfl
      rw [hx] at st
      have ST := hide st
      clear st hx
      by_cases hb : (((⟨#[48, 49, 50, 51, 52, 53, 54, 55, 56, 57, 97, 98, 99, 100, 101, 102]⟩ : ByteArray)[k].toNat : Nat) : Int) = b
      · have hd : ((((⟨#[48, 49, 50, 51, 52, 53, 54, 55, 56, 57, 97, 98, 99, 100, 101, 102]⟩ : ByteArray)[k].toNat : Nat) : Int) == b) = true := by simp only [hb, beq_self_eq_true]
        have V : Hid (valOf b = k) := by
          have := he.out.trans ST.out
          rwa [if_pos hb] at this
        clear he ST hb
        go_wp2
        go_ret
        exact ⟨by rw [V.out]; rfl, rfl⟩
      · have hd : ((((⟨#[48, 49, 50, 51, 52, 53, 54, 55, 56, 57, 97, 98, 99, 100, 101, 102]⟩ : ByteArray)[k].toNat : Nat) : Int) == b) = false := beq_eq_false_iff_ne.2 hb
        have V : Hid (valOf b = valFrom (16 - (k + 1)) (k + 1) b) := by
          have := he.out.trans ST.out
          rwa [if_neg hb] at this
        clear he ST hb
        go_wp2
        go_roundw
        case rel => exact ⟨k + 1, by omega, by go_num, V, by trivial⟩
        case measure => simp [intOf]; omega
    · have e : k = 16 := by omega
      subst e
      have V : Hid (valOf b = -1) := he.out
      clear he
      go_wp2
      go_ret
      exact ⟨by rw [V.out]; rfl, rfl⟩

end Go.Proofs.YtaelaldmibgibaaGreatDoor

namespace Go.Proofs.YtaelaldmibgibaaGreatDoor
open Go.RowKit

/-- a reader: its text, how far it is read, whether the text is not as it must be -/
structure Rd (w : World) (b : Nat) (s : ByteArray) (a : Nat) (no : Bool) : Prop where
  blk : w.heap[b]? = some (.cells #[.string s, .int .i64 a, .bool no] 109 (0, 0))
  ha : a ≤ s.size
  hs : s.size ≤ 1000000000000
theorem Rd.c0 {w b s a no} (h : Rd w b s a no) : w.cell? ⟨b, 0, none⟩ = some (.string s) := by simp [World.cell?, h.blk]
theorem Rd.c1 {w b s a no} (h : Rd w b s a no) : w.cell? ⟨b, 1, none⟩ = some (.int .i64 a) := by simp [World.cell?, h.blk]
theorem Rd.c2 {w b s a no} (h : Rd w b s a no) : w.cell? ⟨b, 2, none⟩ = some (.bool no) := by simp [World.cell?, h.blk]
theorem Rd.fz {w b s a no} (h : Rd w b s a no) (j : Nat) : w.frozen? ⟨b, j, none⟩ = false := by simp [World.frozen?, h.blk]
theorem Rd.lt {w b s a no} (h : Rd w b s a no) : b < w.heap.size := (Array.getElem?_eq_some_iff.1 h.blk).1
theorem Rd.keep {w w' : World} {b : Nat} {s : ByteArray} {a : Nat} {no : Bool} (h : Rd w b s a no) (hk : w'.heap[b]? = w.heap[b]?) : Rd w' b s a no := ⟨by rw [hk]; exact h.blk, h.ha, h.hs⟩
theorem heap_set1 (w : World) (b o : Nat) (cs : Array Value) (t : TypeId) (x : Nat × Nat) (v : Value) (h : w.heap[b]? = some (.cells cs t x)) : (w.setCell ⟨b, o, none⟩ v).heap[b]? = some (.cells (cs.setIfInBounds o v) t x) := by
  simp only [World.setCell, Array.getElem?_modify, h, if_true, Option.map_some]
  rfl
theorem Rd.setAt {w : World} {b : Nat} {s : ByteArray} {a : Nat} {no : Bool} (h : Rd w b s a no) (x : Nat) (hx : x ≤ s.size) : Rd (w.setCell ⟨b, 1, none⟩ (.int .i64 x)) b s x no :=
  ⟨by simpa using heap_set1 w b 1 _ _ _ (.int .i64 x) h.blk, hx, h.hs⟩
theorem Rd.setNo {w : World} {b : Nat} {s : ByteArray} {a : Nat} {no : Bool} (h : Rd w b s a no) (x : Bool) : Rd (w.setCell ⟨b, 2, none⟩ (.bool x)) b s a x :=
  ⟨by simpa using heap_set1 w b 2 _ _ _ (.bool x) h.blk, h.ha, h.hs⟩

/-- what follows is this text -/
def hasAt (s : ByteArray) (a : Nat) (no : Bool) (p : ByteArray) : Bool := !no && (decide (a + p.size ≤ s.size) && ((s.extract a (a + p.size)).toList == p.toList))
def passed (s : ByteArray) (a : Nat) (no : Bool) (p : ByteArray) : Nat := if hasAt s a no p = true then a + p.size else a

set_option maxHeartbeats 1000000 in
theorem is_any (b : Nat) (s : ByteArray) (a : Nat) (no : Bool) (p : ByteArray) (hp : p.size ≤ 1000) (w : World) (h : Rd w b s a no) :
    Calls Tryz.prog 98 #[.pointer (some ⟨b, 0, none⟩), .string p] w fun e w' => e = .returned (.bool (hasAt s a no p)) ∧ Rd w' b s (passed s a no p) no ∧ Fr (fun k => k = b) w w' := by
  have c0 := h.c0
  have c1 := h.c1
  have c2 := h.c2
  have f1 := h.fz 1
  have ha := h.ha
  have hs := h.hs
  have H := hide h
  have F : Hid (∀ n, Fr (fun k => k = b) w (w.drewN n)) := fun n => (Fr.refl _ w).drewN n
  have N : Hid (hasAt s a no p = false → ∀ n, Rd (w.drewN n) b s (passed s a no p) no) := fun q n => by
    unfold passed
    rw [if_neg (by rw [q]; simp)]
    exact h.keep rfl
  have Y : Hid (hasAt s a no p = true → ∀ n, Rd ((w.drewN n).setCell ⟨b, 1, none⟩ (.int .i64 ((a : Int) + (p.size : Int)))) b s (passed s a no p) no) := fun q n => by
    unfold passed
    rw [if_pos q]
    have hle : a + p.size ≤ s.size := by
      unfold hasAt at q
      simp only [Bool.and_eq_true, decide_eq_true_eq] at q
      exact q.2.1
    have := (h.keep (w' := w.drewN n) rfl).setAt (a + p.size) hle
    rwa [Int.natCast_add] at this
  clear h
  cases no
  · by_cases h1 : (s.size : Int) - a < p.size
    · have hd : decide ((s.size : Int) - a < p.size) = true := by simp; omega
      have X : Hid (hasAt s a false p = false) := by
        unfold Hid hasAt
        rw [decide_eq_false (show ¬ (a + p.size ≤ s.size) by omega)]; rfl
      have N' := hide (N.out X.out)
      clear N Y
      go_enter Tryz.func98, Tryz.ntmps98
      go_wp2
      go_quiet (fail)
      go_wp2
      go_ret
      exact ⟨by rw [X.out]; rfl, N'.out _, F.out _⟩
    · have hd : decide ((s.size : Int) - a < p.size) = false := by simp; omega
      have X : Hid (hasAt s a false p = ((s.extract a (a + p.size)).toList == p.toList)) := by
        unfold Hid hasAt
        rw [decide_eq_true (show a + p.size ≤ s.size by omega)]; simp
      rw [X.out] at N Y
      cases he : ((s.extract a (a + p.size)).toList == p.toList)
      · have N' := hide (N.out he)
        have X' := hide (X.out.trans he)
        clear N Y X
        go_enter Tryz.func98, Tryz.ntmps98
        go_wp2
        go_quiet (fail)
        go_wp2
        go_ret
        exact ⟨by rw [X'.out]; rfl, N'.out _, F.out _⟩
      · have Y' := hide (Y.out he)
        have X' := hide (X.out.trans he)
        clear N Y X
        go_enter Tryz.func98, Tryz.ntmps98
        go_wp2
        go_quiet (fail)
        go_wp2
        go_ret
        exact ⟨by rw [X'.out]; rfl, Y'.out _, (F.out _).setCell (.inl rfl) _⟩
  · have X : Hid (hasAt s a true p = false) := rfl
    have N' := hide (N.out X.out)
    clear N Y
    go_enter Tryz.func98, Tryz.ntmps98
    go_wp2
    go_quiet (fail)
    go_wp2
    go_ret
    exact ⟨by rw [X.out]; rfl, N'.out _, F.out _⟩

set_option maxHeartbeats 400000 in
theorem want_any (b : Nat) (s : ByteArray) (a : Nat) (no : Bool) (p : ByteArray) (hp : p.size ≤ 1000) (w : World) (h : Rd w b s a no) :
    Calls Tryz.prog 50 #[.pointer (some ⟨b, 0, none⟩), .string p] w fun e w' => e = .returned (.tuple #[]) ∧ Rd w' b s (passed s a no p) (!hasAt s a no p) ∧ Fr (fun k => k = b) w w' := by
  have C := hide (is_any b s a no p hp w h)
  have NO : Hid (hasAt s a no p = true → no = false) := fun q => by
    unfold hasAt at q
    cases no
    · rfl
    · simp at q
  clear h
  generalize passed s a no p = a' at C ⊢
  cases hq : hasAt s a no p
  · rw [hq] at C
    clear NO hq
    go_enter Tryz.func50, Tryz.ntmps50
    go_wp2_with (go_at_call 98; refine C.out.mono ?_; rintro e w1 ⟨rfl, hr, hf⟩; have R1 := hide hr; have F1 := hide hf; have c2 := hr.c2; have f2 := hr.fz 2; clear hr hf)
    go_end0
    exact ⟨rfl, R1.out.setNo true, F1.out.setCell (.inl rfl) _⟩
  · rw [hq] at C
    have e := NO.out hq
    subst e
    clear NO hq
    go_enter Tryz.func50, Tryz.ntmps50
    go_wp2_with (go_at_call 98; refine C.out.mono ?_; rintro e w1 ⟨rfl, hr, hf⟩; have R1 := hide hr; have F1 := hide hf; clear hr hf)
    go_end0
    exact ⟨rfl, R1.out, F1.out⟩

end Go.Proofs.YtaelaldmibgibaaGreatDoor
