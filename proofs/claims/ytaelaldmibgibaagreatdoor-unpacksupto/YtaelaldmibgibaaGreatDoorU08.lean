/- The document's answer in memory: what single stores make of a net. The document's answer: acts (the count of a replica goes up by 1, in all that it knows). The document's answer: a list with one thing put in; a new row, new paths. The document's answer: place (of a path, which is spoken of from now on). What a net is, without memory: for each replica its count and its files, by rising paths; what the calls make of it. The document's answer: place, the new spot in a row. The document's answer: place, of a path that was not spoken of. -/
import Derived.Test.YtaelaldmibgibaaGreatDoorU02
import Derived.Deep.DeepMust

set_option linter.unusedVariables false
set_option linter.unusedSimpArgs false

namespace Go.Proofs.YtaelaldmibgibaaGreatDoor
open Go.RowKit

theorem intRow_set {w : World} {g n cap : Nat} {l : List Int} (h : intRow w (.slice (some ⟨g, 0, none⟩) n cap) l) (j : Nat) (x : Int) :
    intRow (w.setCell ⟨g, j, none⟩ (.int .i64 x)) (.slice (some ⟨g, 0, none⟩) n cap) (l.set j x) := by
  have hn : n = l.length := by
    rcases h.2 with ⟨h1, _⟩ | ⟨g', cap', cur, h1, _⟩
    · cases h1
    · simp at h1; exact h1.2.1
  subst hn
  have h' := (World.ownsRow.stored h j (.int .i64 x)).1
  rw [ivs_set] at h'
  unfold intRow
  rw [List.length_set]
  exact h'

theorem intRow_form {w : World} {v : Value} {l : List Int} (h : intRow w v l) (k : Nat) (hk : v.ownBlock = some k) : ∃ cap, v = .slice (some ⟨k, 0, none⟩) l.length cap := by
  rcases h.2 with ⟨h1, _⟩ | ⟨g', cap', cur, h1, _⟩
  · rw [h1] at hk; cases hk
  · rw [h1] at hk
    simp [Value.ownBlock] at hk
    subst hk
    exact ⟨cap', h1⟩

theorem heap_set_other {w : World} {a : Addr} {u : Value} {k : Nat} (h : k ≠ a.block) : (w.setCell a u).heap[k]? = w.heap[k]? := Below.heap_setCell _ _ _ _ h
theorem size_setCell (w : World) (a : Addr) (u : Value) : (w.setCell a u).heap.size = w.heap.size := by simp [World.setCell]

/-- a store into a block that a value does not own leaves what it owns -/
theorem ownsRow_far {w : World} {base : Nat} {e : TypeId} {size : Nat} {v : Value} {n : Nat} {xs : List Value} {a : Addr} {u : Value} {ρ : Nat → Nat × Nat} {x y : Nat × Nat}
    (h : w.ownsRow base e size v n xs) (hr : role ρ v x) (ha : ρ a.block = y) (hne : x ≠ y) : (w.setCell a u).ownsRow base e size v n xs :=
  ownsRow_keep h (fun k hk => heap_set_other (fun e => hne (by rw [← hr k hk, ← ha, e])))
theorem SpOk.far {w : World} {ρ : Nat → Nat × Nat} {n r : Nat} {s : SP} {a : Addr} {u : Value} {y : Nat × Nat} (h : SpOk w ρ n r s) (ha : ρ a.block = y) (h6 : y ≠ (6, 0)) (h7 : y ≠ (7, r)) : SpOk (w.setCell a u) ρ n r s :=
  ⟨ownsRow_far h.ch h.chr ha (Ne.symm h6), h.chl, h.chr, ownsRow_far h.tm h.tmr ha (Ne.symm h7), h.tml, h.tmr⟩

theorem map_fst_set {α β : Type} (l : List (α × β)) (r : Nat) (v : α) (x y : β) (h : l[r]? = some (v, x)) : (l.set r (v, y)).map (·.1) = l.map (·.1) := by
  apply List.ext_getElem?
  intro i
  by_cases e : i = r
  · subst e
    have hi : i < l.length := (List.getElem?_eq_some_iff.1 h).1
    simp [hi]
    have := (List.getElem?_eq_some_iff.1 h).2
    rw [this]
  · simp [List.getElem?_set_ne (Ne.symm e)]

theorem RefRep.setCom {w : World} {b : Nat} {ρ : Nat → Nat × Nat} {S : RS} (h : RefRep w b ρ S) (r : Nat) (v : Value) (l : List Int) (hx : S.coms[r]? = some (v, l)) (g : Nat) (hg : v.ownBlock = some g) (j : Nat) (x : Int) :
    RefRep (w.setCell ⟨g, j, none⟩ (.int .i64 x)) b ρ { S with coms := S.coms.set r (v, l.set j x) } := by
  have hρ : ρ g = (4, r) := (h.com r _ hx).2.2 g hg
  have hr : r < S.coms.length := (List.getElem?_eq_some_iff.1 hx).1
  refine { net := ?_, n1 := h.n1, n6 := h.n6, p := ownsRow_far h.p h.rp hρ (by simp), c := ?_, s := ownsRow_far h.s h.rs hρ (by simp), com := ?_, row := ?_, sp := ?_, rb := h.rb, rp := h.rp, rc := h.rc, rs := h.rs, lt := ?_ }
  · rw [heap_set_other (by simp only; intro e; rw [← e, h.rb] at hρ; simp at hρ)]; exact h.net
  · have := ownsRow_far (a := ⟨g, j, none⟩) (u := .int .i64 x) h.c h.rc hρ (by simp)
    rw [map_fst_set _ _ _ _ _ hx]; exact this
  · intro r' y hy
    by_cases e : r' = r
    · subst e
      simp [hr] at hy
      subst hy
      obtain ⟨cap, ev⟩ := intRow_form (h.com r' _ hx).1 g hg
      simp only at ev
      subst ev
      exact ⟨intRow_set (h.com r' _ hx).1 j x, by simpa using (h.com r' _ hx).2.1, (h.com r' _ hx).2.2⟩
    · rw [List.getElem?_set_ne (Ne.symm e)] at hy
      have q := h.com r' y hy
      exact ⟨ownsRow_far q.1 q.2.2 hρ (by simp [e]), q.2⟩
  · intro r' y hy
    exact ⟨ownsRow_far (h.row r' y hy).1 (h.row r' y hy).2 hρ (by simp), (h.row r' y hy).2⟩
  · intro r' y hy s hs
    exact (h.sp r' y hy s hs).far hρ (by simp) (by simp)
  · intro k hk
    rw [size_setCell]; exact h.lt k hk

/-- one number of a list that is what is known: of every spot of this replica whose list this is -/
def setTm (g r : Nat) (x : Int) (s : SP) : SP := if s.tmv.ownBlock = some g then { s with tm := s.tm.set r x } else s

theorem setTm_cells (g r : Nat) (x : Int) (s : SP) : (setTm g r x s).cells = s.cells := by unfold setTm; split <;> rfl
theorem spv_map_setTm (g r : Nat) (x : Int) (l : List SP) : spv (l.map (setTm g r x)) = spv l := by
  induction l with
  | nil => rfl
  | cons s l ih => simp [spv, ih, setTm_cells]

theorem RefRep.setTime {w : World} {b : Nat} {ρ : Nat → Nat × Nat} {S : RS} (h : RefRep w b ρ S) (r : Nat) (v : Value) (l : List SP) (hx : S.rows[r]? = some (v, l)) (g : Nat) (hρ : ρ g = (7, r)) (j : Nat) (x : Int) :
    RefRep (w.setCell ⟨g, j, none⟩ (.int .i64 x)) b ρ { S with rows := S.rows.set r (v, l.map (setTm g j x)) } := by
  have hr : r < S.rows.length := (List.getElem?_eq_some_iff.1 hx).1
  refine { net := ?_, n1 := h.n1, n6 := h.n6, p := ownsRow_far h.p h.rp hρ (by simp), c := ownsRow_far h.c h.rc hρ (by simp), s := ?_, com := ?_, row := ?_, sp := ?_, rb := h.rb, rp := h.rp, rc := h.rc, rs := h.rs, lt := ?_ }
  · rw [heap_set_other (by simp only; intro e; rw [← e, h.rb] at hρ; simp at hρ)]; exact h.net
  · have := ownsRow_far (a := ⟨g, j, none⟩) (u := .int .i64 x) h.s h.rs hρ (by simp)
    rw [map_fst_set _ _ _ _ _ hx]; exact this
  · intro r' y hy
    have q := h.com r' y hy
    exact ⟨ownsRow_far q.1 q.2.2 hρ (by simp), q.2⟩
  · intro r' y hy
    by_cases e : r' = r
    · subst e
      simp [hr] at hy
      subst hy
      have q := h.row r' _ hx
      refine ⟨?_, q.2⟩
      simp only [List.length_map, spv_map_setTm]
      exact ownsRow_far q.1 q.2 hρ (by simp)
    · rw [List.getElem?_set_ne (Ne.symm e)] at hy
      exact ⟨ownsRow_far (h.row r' y hy).1 (h.row r' y hy).2 hρ (by simp), (h.row r' y hy).2⟩
  · intro r' y hy s hs
    by_cases e : r' = r
    · subst e
      simp [hr] at hy
      subst hy
      simp only [List.mem_map] at hs
      obtain ⟨t, ht, rfl⟩ := hs
      have q := h.sp r' _ hx t ht
      unfold setTm
      by_cases hg : t.tmv.ownBlock = some g
      · rw [if_pos hg]
        obtain ⟨cap, ev⟩ := intRow_form q.tm g hg
        refine ⟨ownsRow_far q.ch q.chr hρ (by simp), q.chl, q.chr, ?_, by simpa using q.tml, q.tmr⟩
        simp only
        have q' := q.tm
        rw [ev] at q' ⊢
        exact intRow_set q' j x
      · rw [if_neg hg]
        refine ⟨ownsRow_far q.ch q.chr hρ (by simp), q.chl, q.chr, ownsRow_keep q.tm (fun k hk => heap_set_other ?_), q.tml, q.tmr⟩
        simp only
        rintro rfl
        exact hg hk
    · rw [List.getElem?_set_ne (Ne.symm e)] at hy
      exact (h.sp r' y hy s hs).far hρ (by simp) (by simp [Ne.symm e])
  · intro k hk
    rw [size_setCell]; exact h.lt k hk

theorem spv_set (l : List SP) (i : Nat) (s s' : SP) (j : Nat) (u : Value) (h : l[i]? = some s) (hj : j < 6) (hc : s'.cells = s.cells.set j u) : spv (l.set i s') = (spv l).set (i * 6 + j) u := by
  induction l generalizing i with
  | nil => simp at h
  | cons y l ih =>
    have hy : y.cells.length = 6 := rfl
    cases i with
    | zero =>
      simp at h; subst h
      simp only [List.set_cons_zero, spv, Nat.zero_mul, Nat.zero_add]
      rw [List.set_append_left _ _ (by omega), hc]
    | succ i =>
      simp at h
      simp only [List.set_cons_succ, spv]
      rw [List.set_append_right _ _ (by omega), ih i h]
      congr 2
      omega

/-- one cell of a spot -/
theorem RefRep.setSpot {w : World} {b : Nat} {ρ : Nat → Nat × Nat} {S : RS} (h : RefRep w b ρ S) (r : Nat) (g cap : Nat) (l : List SP) (hx : S.rows[r]? = some (.slice (some ⟨g, 0, none⟩) l.length cap, l)) (i : Nat) (s s' : SP) (hs : l[i]? = some s) (j : Nat) (u : Value) (hj : j < 6)
    (hc : s'.cells = s.cells.set j u) (hok : SpOk w ρ S.n r s') :
    RefRep (w.setCell ⟨g, i * 6 + j, none⟩ u) b ρ { S with rows := S.rows.set r (.slice (some ⟨g, 0, none⟩) l.length cap, l.set i s') } := by
  have hr : r < S.rows.length := (List.getElem?_eq_some_iff.1 hx).1
  have hρ : ρ g = (5, r) := (h.row r _ hx).2 g rfl
  refine { net := ?_, n1 := h.n1, n6 := h.n6, p := ownsRow_far h.p h.rp hρ (by simp), c := ownsRow_far h.c h.rc hρ (by simp), s := ?_, com := ?_, row := ?_, sp := ?_, rb := h.rb, rp := h.rp, rc := h.rc, rs := h.rs, lt := ?_ }
  · rw [heap_set_other (by simp only; intro e; rw [← e, h.rb] at hρ; simp at hρ)]; exact h.net
  · have := ownsRow_far (a := ⟨g, i * 6 + j, none⟩) (u := u) h.s h.rs hρ (by simp)
    rw [map_fst_set _ _ _ _ _ hx]; exact this
  · intro r' y hy
    have q := h.com r' y hy
    exact ⟨ownsRow_far q.1 q.2.2 hρ (by simp), q.2⟩
  · intro r' y hy
    by_cases e : r' = r
    · subst e
      simp [hr] at hy
      subst hy
      have q := h.row r' _ hx
      refine ⟨?_, q.2⟩
      simp only [List.length_set]
      rw [spv_set l i s s' j u hs hj hc]
      exact (World.ownsRow.stored q.1 (i * 6 + j) u).1
    · rw [List.getElem?_set_ne (Ne.symm e)] at hy
      exact ⟨ownsRow_far (h.row r' y hy).1 (h.row r' y hy).2 hρ (by simp [e]), (h.row r' y hy).2⟩
  · intro r' y hy t ht
    by_cases e : r' = r
    · subst e
      simp [hr] at hy
      subst hy
      simp only at ht
      rcases List.mem_or_eq_of_mem_set ht with ht | rfl
      · exact (h.sp r' _ hx t ht).far hρ (by simp) (by simp)
      · exact hok.far hρ (by simp) (by simp)
    · rw [List.getElem?_set_ne (Ne.symm e)] at hy
      exact (h.sp r' y hy t ht).far hρ (by simp) (by simp)
  · intro k hk
    rw [size_setCell]; exact h.lt k hk

/-- a new block takes a part -/
def upd (ρ : Nat → Nat × Nat) (k : Nat) (x : Nat × Nat) : Nat → Nat × Nat := fun q => if q = k then x else ρ q
theorem role_upd {ρ : Nat → Nat × Nat} {k : Nat} {x y : Nat × Nat} {v : Value} (h : role ρ v y) (hk : (ρ k).1 = 0) (hy : y.1 ≠ 0) : role (upd ρ k x) v y := by
  intro q hq
  have := h q hq
  unfold upd
  rw [if_neg (by rintro rfl; rw [this] at hk; exact hy hk)]
  exact this
theorem SpOk.upd {w : World} {ρ : Nat → Nat × Nat} {n r : Nat} {s : SP} (h : SpOk w ρ n r s) {k : Nat} {x : Nat × Nat} (hk : (ρ k).1 = 0) : SpOk w (upd ρ k x) n r s :=
  ⟨h.ch, h.chl, role_upd h.chr hk (by simp), h.tm, h.tml, role_upd h.tmr hk (by simp)⟩
theorem RefRep.upd {w : World} {b : Nat} {ρ : Nat → Nat × Nat} {S : RS} (h : RefRep w b ρ S) {k : Nat} (x : Nat × Nat) (hk : (ρ k).1 = 0) (hl : k < w.heap.size) : RefRep w b (upd ρ k x) S where
  net := h.net
  n1 := h.n1
  n6 := h.n6
  p := h.p
  c := h.c
  s := h.s
  com := fun r y hy => ⟨(h.com r y hy).1, (h.com r y hy).2.1, role_upd (h.com r y hy).2.2 hk (by simp)⟩
  row := fun r y hy => ⟨(h.row r y hy).1, role_upd (h.row r y hy).2 hk (by simp)⟩
  sp := fun r y hy s hs => (h.sp r y hy s hs).upd hk
  rb := by unfold Go.Proofs.YtaelaldmibgibaaGreatDoor.upd; rw [if_neg (by rintro rfl; rw [h.rb] at hk; simp at hk)]; exact h.rb
  rp := role_upd h.rp hk (by simp)
  rc := role_upd h.rc hk (by simp)
  rs := role_upd h.rs hk (by simp)
  lt := fun q hq => by
    unfold Go.Proofs.YtaelaldmibgibaaGreatDoor.upd at hq
    by_cases e : q = k
    · omega
    · rw [if_neg e] at hq; exact h.lt q hq

/-- what has a part has had one, or is new -/
def Grow (w : World) (ρ ρ' : Nat → Nat × Nat) : Prop := ∀ k, (ρ' k).1 ≠ 0 → (ρ k).1 ≠ 0 ∨ w.heap.size ≤ k
theorem Grow.refl (w : World) (ρ : Nat → Nat × Nat) : Grow w ρ ρ := fun _ h => .inl h
theorem Grow.trans {w w' : World} {ρ ρ' ρ'' : Nat → Nat × Nat} (h : Grow w ρ ρ') (hs : w.heap.size ≤ w'.heap.size) (h' : Grow w' ρ' ρ'') : Grow w ρ ρ'' := fun k hk => by
  rcases h' k hk with q | q
  · exact h k q
  · exact .inr (by omega)
theorem Grow.upd {w : World} {ρ ρ' : Nat → Nat × Nat} (h : Grow w ρ ρ') {k : Nat} (hk : w.heap.size ≤ k) (x : Nat × Nat) : Grow w ρ (upd ρ' k x) := fun q hq => by
  unfold Go.Proofs.YtaelaldmibgibaaGreatDoor.upd at hq
  by_cases e : q = k
  · exact .inr (by omega)
  · rw [if_neg e] at hq; exact h q hq
theorem RefRep.free {w : World} {b : Nat} {ρ : Nat → Nat × Nat} {S : RS} (h : RefRep w b ρ S) {k : Nat} (hk : w.heap.size ≤ k) : (ρ k).1 = 0 := by
  by_cases e : (ρ k).1 = 0
  · exact e
  · have := h.lt k e; omega

end Go.Proofs.YtaelaldmibgibaaGreatDoor

namespace Go.Proofs.YtaelaldmibgibaaGreatDoor
open Go.RowKit

def setTms (bs : List (Option Nat)) (r : Nat) (x : Int) (s : SP) : SP := if s.tmv.ownBlock ∈ bs then { s with tm := s.tm.set r x } else s
theorem setTms_nil (r : Nat) (x : Int) (l : List SP) : l.map (setTms [] r x) = l := by
  have : setTms [] r x = id := by funext s; simp [setTms]
  rw [this, List.map_id]
theorem setTms_snoc (bs : List (Option Nat)) (g r : Nat) (x : Int) (l : List SP) : (l.map (setTms bs r x)).map (setTm g r x) = l.map (setTms (bs ++ [some g]) r x) := by
  rw [List.map_map]
  apply List.map_congr_left
  intro s _
  show setTm g r x (setTms bs r x s) = setTms (bs ++ [some g]) r x s
  by_cases h1 : s.tmv.ownBlock ∈ bs
  · have e : setTms bs r x s = { s with tm := s.tm.set r x } := if_pos h1
    have e' : setTms (bs ++ [some g]) r x s = { s with tm := s.tm.set r x } := if_pos (List.mem_append_left _ h1)
    rw [e, e']
    unfold setTm
    split
    · simp
    · rfl
  · have e : setTms bs r x s = s := if_neg h1
    rw [e]
    by_cases h2 : s.tmv.ownBlock = some g
    · have e' : setTms (bs ++ [some g]) r x s = { s with tm := s.tm.set r x } := if_pos (by rw [h2]; simp)
      rw [e']; exact if_pos h2
    · have e' : setTms (bs ++ [some g]) r x s = s := if_neg (by simp [h1, h2])
      rw [e']; exact if_neg h2
theorem setTms_all (r : Nat) (x : Int) (l : List SP) : l.map (setTms (l.map (·.tmv.ownBlock)) r x) = l.map (fun s => { s with tm := s.tm.set r x }) := by
  apply List.map_congr_left
  intro s hs
  unfold setTms
  rw [if_pos (List.mem_map.2 ⟨s, hs, rfl⟩)]
theorem setTms_tmv (bs : List (Option Nat)) (r : Nat) (x : Int) (s : SP) : (setTms bs r x s).tmv = s.tmv := by unfold setTms; split <;> rfl

/-- behind acts -/
def RS.acted (S : RS) (r : Nat) (x : Int) (cw : Value) (cl : List Int) (v : Value) (l : List SP) (bs : List (Option Nat)) : RS :=
  { S with coms := S.coms.set r (cw, cl.set r x), rows := S.rows.set r (v, l.map (setTms bs r x)) }

theorem acted_zero {S : RS} {r : Nat} {x : Int} {cw : Value} {cl : List Int} {v : Value} {l : List SP} (hx : S.rows[r]? = some (v, l)) : S.acted r x cw cl v l [] = { S with coms := S.coms.set r (cw, cl.set r x) } := by
  unfold RS.acted
  rw [setTms_nil]
  congr 1
  apply List.ext_getElem?
  intro i
  by_cases e : i = r
  · subst e
    have hi : i < S.rows.length := (List.getElem?_eq_some_iff.1 hx).1
    simp [hi]
    exact ((List.getElem?_eq_some_iff.1 hx).2).symm
  · rw [List.getElem?_set_ne (Ne.symm e)]

/-- the loop's end -/
theorem acts_len {w : World} {b : Nat} {ρ : Nat → Nat × Nat} {S : RS} {r : Nat} {x : Int} {cw : Value} {cl : List Int} {v : Value} {l : List SP} {bs : List (Option Nat)} (hr : r < S.rows.length)
    (h : RefRep w b ρ (S.acted r x cw cl v l bs)) (hrn : r < S.n) : ∃ sg sc a cap, w.cell? ⟨b, 3, none⟩ = some (.slice (some ⟨sg, 0, none⟩) S.n sc) ∧ w.cell? ⟨sg, r, none⟩ = some (.slice a l.length cap) := by
  obtain ⟨sg, sc, v', l', es, hs, hx, hrow, hro, _, _, _⟩ := h.theRow r hrn
  have hx' : (v', l') = (v, l.map (setTms bs r x)) := by
    have : (S.acted r x cw cl v l bs).rows[r]? = some (v, l.map (setTms bs r x)) := by
      simp [RS.acted, hr]
    rw [this] at hx
    simpa using hx.symm
  simp only [Prod.mk.injEq] at hx'
  obtain ⟨rfl, rfl⟩ := hx'
  have hf : ∃ a cap, v' = .slice a (l.map (setTms bs r x)).length cap := by
    rcases hrow.2 with ⟨rfl, h0⟩ | ⟨g, cap, cur, rfl, _⟩
    · exact ⟨none, 0, by rw [h0]⟩
    · exact ⟨_, _, rfl⟩
  obtain ⟨a, cap, ev⟩ := hf
  rw [List.length_map] at ev
  exact ⟨sg, sc, a, cap, by rw [h.c3, es]; rfl, by rw [hs, ev]⟩

/-- what the round reads and writes -/
theorem acts_round {w : World} {b : Nat} {ρ : Nat → Nat × Nat} {S : RS} {r : Nat} {x : Int} {cw : Value} {cl : List Int} {v : Value} {l : List SP} (hr : r < S.rows.length) (k : Nat) (hk : k < l.length)
    (h : RefRep w b ρ (S.acted r x cw cl v l ((l.take k).map (·.tmv.ownBlock)))) (hrn : r < S.n) :
    ∃ sg sc g cap gt ct, w.cell? ⟨b, 3, none⟩ = some (.slice (some ⟨sg, 0, none⟩) S.n sc) ∧ w.cell? ⟨sg, r, none⟩ = some (.slice (some ⟨g, 0, none⟩) l.length cap) ∧
      w.cell? ⟨g, k * 6 + 5, none⟩ = some (.slice (some ⟨gt, 0, none⟩) S.n ct) ∧ (∃ y, w.cell? ⟨gt, r, none⟩ = some (.int .i64 y)) ∧ w.frozen? ⟨gt, r, none⟩ = false ∧ ρ gt = (7, r) ∧
      RefRep (w.setCell ⟨gt, r, none⟩ (.int .i64 x)) b ρ (S.acted r x cw cl v l ((l.take (k + 1)).map (·.tmv.ownBlock))) := by
  obtain ⟨sg, sc, v', l', es, hs, hx, hrow, hro, _, _, _⟩ := h.theRow r hrn
  have hx' : (v', l') = (v, l.map (setTms ((l.take k).map (·.tmv.ownBlock)) r x)) := by
    have : (S.acted r x cw cl v l ((l.take k).map (·.tmv.ownBlock))).rows[r]? = some (v, l.map (setTms ((l.take k).map (·.tmv.ownBlock)) r x)) := by
      simp [RS.acted, hr]
    rw [this] at hx
    simpa using hx.symm
  simp only [Prod.mk.injEq] at hx'
  obtain ⟨rfl, rfl⟩ := hx'
  have hks : (l.map (setTms ((l.take k).map (·.tmv.ownBlock)) r x))[k]? = some (setTms ((l.take k).map (·.tmv.ownBlock)) r x l[k]) := by simp [hk]
  obtain ⟨g, cap, ev, hg, _, hcell, _⟩ := spot_cells hrow k _ hks
  have hsp := h.sp r _ hx _ (List.mem_of_getElem? hks)
  obtain ⟨gt, ct, et, hgt, htc, htf, _⟩ := hsp.tm.form (by rw [hsp.tml]; have := h.n1; omega)
  rw [hsp.tml] at et htc
  have hρ : ρ gt = (7, r) := hsp.tmr gt (by rw [et]; rfl)
  refine ⟨sg, sc, g, cap, gt, ct, ?_, ?_, ?_, ⟨_, htc r hrn⟩, htf _, hρ, ?_⟩
  · rw [h.c3, es]; rfl
  · rw [hs, ev]; simp
  · rw [hcell 5 (by omega)]
    simp only [SP.cells]
    rw [et]; rfl
  · have hset := h.setTime r _ _ hx gt hρ r x
    have e1 : { S.acted r x cw cl v' l ((l.take k).map (·.tmv.ownBlock)) with rows := (S.acted r x cw cl v' l ((l.take k).map (·.tmv.ownBlock))).rows.set r (v', (l.map (setTms ((l.take k).map (·.tmv.ownBlock)) r x)).map (setTm gt r x)) } =
        S.acted r x cw cl v' l ((l.take (k + 1)).map (·.tmv.ownBlock)) := by
      rw [setTms_snoc]
      have e2 : (l.take (k + 1)).map (·.tmv.ownBlock) = (l.take k).map (·.tmv.ownBlock) ++ [some gt] := by
        rw [List.take_succ_eq_append_getElem hk, List.map_append]
        have : l[k].tmv.ownBlock = some gt := by
          rw [setTms_tmv] at et; rw [et]; rfl
        simp [this]
      rw [e2]
      simp [RS.acted]
    rw [e1] at hset
    exact hset

set_option maxHeartbeats 600000 in
theorem acts_any (b r : Nat) (ρ : Nat → Nat × Nat) (S : RS) (w : World) (h : RefRep w b ρ S) (hr : r < S.n) (h0 : 0 ≤ S.count r) (hcn : S.count r < 1000000000) :
    Calls Tryz.prog 152 #[.pointer (some ⟨b, 0, none⟩), .int .i64 r] w fun e w' => ∃ cw cl v l, S.coms[r]? = some (cw, cl) ∧ S.rows[r]? = some (v, l) ∧ e = .returned (.int .i64 (S.count r + 1)) ∧
      RefRep w' b ρ { S with coms := S.coms.set r (cw, cl.set r (S.count r + 1)), rows := S.rows.set r (v, l.map (fun s => { s with tm := s.tm.set r (S.count r + 1) })) } ∧ Fr (fun k => (ρ k).1 ≠ 0) w w' ∧ w'.heap.size = w.heap.size := by
  obtain ⟨cg, cc, g, cap, cl, ec, hc, hx, hl, hρ, hg, hcg, hρc, hcell, hfz⟩ := h.common r hr
  obtain ⟨sg, sc, v, l, es, hs, hxr, hrow, hro, hsg, hρs, _⟩ := h.theRow r hr
  have hml : l.length ≤ 9223372036854775807 := by
    rcases hrow.2 with ⟨rfl, h0⟩ | ⟨g, cap, cur, rfl, _, hg, hc, hm, _⟩
    · omega
    · unfold maxLen at hm; omega
  have h2 := h.c2
  rw [ec] at h2
  have h6 := h.n6
  have hq := hcell r hr
  have hf := hfz r
  have hcount : S.count r = cl.getD r 0 := by unfold RS.count; rw [hx]; rfl
  have hrl : r < S.rows.length := by have := h.rowl; omega
  have hb : b < w.heap.size := h.lt b (by rw [h.rb]; decide)
  generalize hX : S.count r + 1 = x at *
  -- behind the first store
  have hset := h.setCom r _ cl hx g rfl r x
  rw [← acted_zero (x := x) (cw := .slice (some ⟨g, 0, none⟩) S.n cap) (cl := cl) hxr] at hset
  have hfr : Fr (fun k => (ρ k).1 ≠ 0) w (w.setCell ⟨g, r, none⟩ (.int .i64 x)) := (Fr.refl _ _).setCell (.inl (by rw [hρ]; simp)) _
  have hend : ∀ w', RefRep w' b ρ (S.acted r x (.slice (some ⟨g, 0, none⟩) S.n cap) cl v l ((l.take l.length).map (·.tmv.ownBlock))) →
      RefRep w' b ρ { S with coms := S.coms.set r (.slice (some ⟨g, 0, none⟩) S.n cap, cl.set r x), rows := S.rows.set r (v, l.map (fun s => { s with tm := s.tm.set r x })) } := by
    intro w' hw'
    rw [List.take_length] at hw'
    unfold RS.acted at hw'
    rw [setTms_all] at hw'
    exact hw'
  have HS := hide hset
  have HF := hide hfr
  have HE := hide hend
  have HX := hide hx
  have HXR := hide hxr
  have hcgb : cg ≠ g := by rintro rfl; rw [hρ] at hρc; simp at hρc
  have hbg : b ≠ g := by rintro rfl; rw [h.rb] at hρ; simp at hρ
  have HCX : Hid (S.count r + 1 = x) := hX
  rw [hcount] at h0 hcn hX
  generalize cl.getD r 0 = q at *
  subst hX
  clear hset hfr hend hx hxr hcell hfz hrow hro h ec es hl hcount hs
  go_enter Tryz.func152, Tryz.ntmps152
  go_wp2
  generalize hcw : Value.slice (some ⟨g, 0, none⟩) S.n cap = cw at HS HE HX
  go_loopw [6] (fun i wr => ∃ k : Nat, k ≤ l.length ∧ i = .int .i64 k ∧ Hid (RefRep wr b ρ (S.acted r (q + 1) cw cl v l ((l.take k).map (·.tmv.ownBlock)))) ∧ Hid (Fr (fun k => (ρ k).1 ≠ 0) w wr) ∧ Hid (wr.heap.size = w.heap.size)) (fun i _ => l.length - (intOf i).toNat)
  case atStart => exact ⟨0, Nat.zero_le _, rfl, by rw [List.take_zero]; exact HS, HF, size_setCell _ _ _⟩
  case round =>
    obtain ⟨k, hk, rfl, hR, hF, hZ⟩ := hrel
    have HCW := hide hcw
    by_cases hlt : k < l.length
    · obtain ⟨sg', sc', g', cap', gt, ct, e1, e2, e3, ⟨y, e4⟩, e5, e6, e7⟩ := acts_round hrl k hlt hR.out hr
      have R := hide e7
      have F := hide (hF.out.setCell (p := ⟨gt, r, none⟩) (.inl (by simp only; rw [e6]; simp)) (.int .i64 (q + 1)))
      have Z : Hid ((wr.setCell ⟨gt, r, none⟩ (.int .i64 (q + 1))).heap.size = w.heap.size) := (size_setCell _ _ _).trans hZ.out
      clear e6 e7 hR hF hZ hcw hq hf h2 hc
      generalize S.n = n at *
      go_wp2
      go_roundw
      case rel => exact ⟨k + 1, by omega, by go_num, R, F, Z⟩
      case measure => simp [intOf]; omega
    · obtain ⟨sg', sc', a', cap', e1, e2⟩ := acts_len hrl hR.out hr
      have ek : k = l.length := by omega
      have R := hide (HE.out wr (by rw [← ek]; exact hR.out))
      clear hcw hq hf h2 hc ek
      go_wp2
      go_ret
      exact ⟨cw, cl, v, l, HX.out, HXR.out, rfl, R.out, hF.out, hZ.out⟩

end Go.Proofs.YtaelaldmibgibaaGreatDoor

namespace Go.Proofs.YtaelaldmibgibaaGreatDoor
open Go.RowKit

/-- the first k of a list, with x put in at a place, once it is passed -/
def ins {α : Type} (a : Nat) (x : α) (l : List α) (k : Nat) : List α := if k ≤ a then l.take k else l.take a ++ x :: (l.take k).drop a
theorem ins_zero {α : Type} (a : Nat) (x : α) (l : List α) : ins a x l 0 = [] := by simp [ins]
theorem ins_lt {α : Type} (a : Nat) (x : α) (l : List α) (k : Nat) (y : α) (h : k < a) (hy : l[k]? = some y) : ins a x l (k + 1) = ins a x l k ++ [y] := by
  obtain ⟨hk, rfl⟩ := List.getElem?_eq_some_iff.1 hy
  unfold ins
  rw [if_pos (by omega), if_pos (by omega), List.take_succ_eq_append_getElem hk]
theorem ins_at {α : Type} (a : Nat) (x : α) (l : List α) (y : α) (hy : l[a]? = some y) : ins a x l (a + 1) = ins a x l a ++ [x] ++ [y] := by
  obtain ⟨hk, rfl⟩ := List.getElem?_eq_some_iff.1 hy
  unfold ins
  rw [if_neg (by omega), if_pos (by omega), List.take_succ_eq_append_getElem hk, List.drop_append]
  have e1 : List.drop a (List.take a l) = [] := List.drop_of_length_le (List.length_take_le _ _)
  have e2 : (List.take a l).length = a := by rw [List.length_take]; omega
  rw [e1, e2]
  simp
theorem ins_gt {α : Type} (a : Nat) (x : α) (l : List α) (k : Nat) (y : α) (h : a < k) (hy : l[k]? = some y) : ins a x l (k + 1) = ins a x l k ++ [y] := by
  obtain ⟨hk, rfl⟩ := List.getElem?_eq_some_iff.1 hy
  unfold ins
  rw [if_neg (by omega), if_neg (by omega), List.take_succ_eq_append_getElem hk, List.drop_append]
  have e2 : a - (List.take k l).length = 0 := by rw [List.length_take]; omega
  rw [e2]
  simp
theorem ins_end {α : Type} (a : Nat) (x : α) (l : List α) (h : a < l.length) : ins a x l l.length = l.take a ++ x :: l.drop a := by
  unfold ins
  rw [if_neg (by omega), List.take_length]
theorem ins_len {α : Type} (l : List α) (x : α) : ins l.length x l l.length ++ [x] = l.take l.length ++ x :: l.drop l.length := by
  unfold ins
  rw [if_pos (by omega)]
  simp

theorem RefRep.setPaths {w : World} {b : Nat} {ρ : Nat → Nat × Nat} {S : RS} (h : RefRep w b ρ S) (pv : Value) (ps : List ByteArray) (hp : w.ownsRow 0 9 1 pv ps.length (svs ps)) (hr : role ρ pv (2, 0)) :
    RefRep (w.setCell ⟨b, 1, none⟩ pv) b ρ { S with paths := ps, pv := pv } := by
  have hρ := h.rb
  refine { net := ?_, n1 := h.n1, n6 := h.n6, p := ownsRow_far hp hr hρ (by simp), c := ownsRow_far h.c h.rc hρ (by simp), s := ownsRow_far h.s h.rs hρ (by simp), com := ?_, row := ?_, sp := ?_, rb := h.rb, rp := hr, rc := h.rc, rs := h.rs, lt := ?_ }
  · have := heap_setCell_same w b 1 _ _ pv h.net
    simpa using this
  · intro r' y hy
    have q := h.com r' y hy
    exact ⟨ownsRow_far q.1 q.2.2 hρ (by simp), q.2⟩
  · intro r' y hy
    exact ⟨ownsRow_far (h.row r' y hy).1 (h.row r' y hy).2 hρ (by simp), (h.row r' y hy).2⟩
  · intro r' y hy s hs
    exact (h.sp r' y hy s hs).far hρ (by simp) (by simp)
  · intro k hk
    rw [size_setCell]; exact h.lt k hk

theorem RefRep.setRow {w : World} {b : Nat} {ρ : Nat → Nat × Nat} {S : RS} (h : RefRep w b ρ S) (sg sc r : Nat) (es : S.sv = .slice (some ⟨sg, 0, none⟩) S.n sc) (hrn : r < S.n) (v : Value) (l : List SP)
    (hv : w.ownsRow 0 117 6 v l.length (spv l)) (hr : role ρ v (5, r)) (hsp : ∀ s ∈ l, SpOk w ρ S.n r s) :
    RefRep (w.setCell ⟨sg, r, none⟩ v) b ρ { S with rows := S.rows.set r (v, l) } := by
  have hρ : ρ sg = (8, 0) := h.rs sg (by rw [es]; rfl)
  have hrl : r < S.rows.length := by have := h.rowl; omega
  refine { net := ?_, n1 := h.n1, n6 := h.n6, p := ownsRow_far h.p h.rp hρ (by simp), c := ownsRow_far h.c h.rc hρ (by simp), s := ?_, com := ?_, row := ?_, sp := ?_, rb := h.rb, rp := h.rp, rc := h.rc, rs := h.rs, lt := ?_ }
  · rw [heap_set_other (by simp only; intro e; rw [← e, h.rb] at hρ; simp at hρ)]; exact h.net
  · simp only [List.map_set]
    have hs := h.s
    rw [es] at hs ⊢
    exact (World.ownsRow.stored hs r v).1
  · intro r' y hy
    have q := h.com r' y hy
    exact ⟨ownsRow_far q.1 q.2.2 hρ (by simp), q.2⟩
  · intro r' y hy
    by_cases e : r' = r
    · subst e
      simp [hrl] at hy
      subst hy
      exact ⟨ownsRow_far hv hr hρ (by simp), hr⟩
    · rw [List.getElem?_set_ne (Ne.symm e)] at hy
      exact ⟨ownsRow_far (h.row r' y hy).1 (h.row r' y hy).2 hρ (by simp), (h.row r' y hy).2⟩
  · intro r' y hy t ht
    by_cases e : r' = r
    · subst e
      simp [hrl] at hy
      subst hy
      exact (hsp t ht).far hρ (by simp) (by simp)
    · rw [List.getElem?_set_ne (Ne.symm e)] at hy
      exact (h.sp r' y hy t ht).far hρ (by simp) (by simp)
  · intro k hk
    rw [size_setCell]; exact h.lt k hk

end Go.Proofs.YtaelaldmibgibaaGreatDoor

namespace Go.Proofs.YtaelaldmibgibaaGreatDoor
open Go.RowKit

/-- Go's '<' and '==' on strings -/
def slt (a b : ByteArray) : Bool := Op.bytesLess a.toList b.toList
def seq (a b : ByteArray) : Bool := a.toList == b.toList
theorem seq_iff (a b : ByteArray) : seq a b = true ↔ a = b := by
  unfold seq
  rw [beq_iff_eq, ByteArray.toList_eq, ByteArray.toList_eq]
  constructor
  · intro h
    cases a; cases b
    simp only [ByteArray.mk.injEq]
    exact Array.toList_inj.1 h
  · rintro rfl; rfl

/-- the place of a path: how many come ahead of it -/
def atOf (ps : List ByteArray) (s : ByteArray) : Nat := (ps.takeWhile (slt · s)).length
theorem atOf_eq (ps : List ByteArray) (s : ByteArray) (k : Nat) (hk : k ≤ ps.length) (hall : ∀ q ∈ ps.take k, slt q s = true) (hend : ∀ q, ps[k]? = some q → slt q s = false) : atOf ps s = k := by
  unfold atOf
  induction ps generalizing k with
  | nil => simp at hk; subst hk; rfl
  | cons p ps ih =>
    cases k with
    | zero =>
      have := hend p (by simp)
      simp [this]
    | succ k =>
      have h1 := hall p (by simp)
      rw [List.takeWhile_cons, if_pos h1, List.length_cons, ih k (by simpa using hk) (fun q hq => hall q (by simp [hq])) (fun q hq => hend q (by simpa using hq))]

/-- a row of strings, its cells -/
theorem strRow_form {w : World} {v : Value} {l : List ByteArray} {base : Nat} (h : w.ownsRow base 9 1 v l.length (svs l)) :
    l.length ≤ maxLen ∧ ∃ a cap, v = .slice a l.length cap ∧ (∀ k s, l[k]? = some s → ∃ g, a = some ⟨g, 0, none⟩ ∧ g < w.heap.size ∧ w.cell? ⟨g, k, none⟩ = some (.string s)) := by
  rcases h.2 with ⟨rfl, h0⟩ | ⟨g, cap, cur, rfl, _, hg, hc, hm, _⟩
  · refine ⟨by omega, none, 0, by rw [h0], fun k s hk => ?_⟩
    have := (List.getElem?_eq_some_iff.1 hk).1
    omega
  · refine ⟨by omega, some ⟨g, 0, none⟩, cap, rfl, fun k s hk => ⟨g, rfl, (Array.getElem?_eq_some_iff.1 hg).1, ?_⟩⟩
    obtain ⟨hk', e⟩ := List.getElem?_eq_some_iff.1 hk
    rw [World.ownsRow.cellAt h k (by omega), svs_get l k hk', List.getD_eq_getElem?_getD, hk]
    rfl

/-- the walk along the paths stops at the path's place -/
theorem at_stop {ps : List ByteArray} {s : ByteArray} {k : Nat} (hk : k ≤ ps.length) (ha : ∀ q ∈ ps.take k, slt q s = true) (hend : ∀ q, ps[k]? = some q → slt q s = false) : k = atOf ps s := (atOf_eq ps s k hk ha hend).symm
theorem all_take_snoc {ps : List ByteArray} {s p : ByteArray} {k : Nat} (ha : ∀ q ∈ ps.take k, slt q s = true) (hp : ps[k]? = some p) (hl : slt p s = true) : ∀ q ∈ ps.take (k + 1), slt q s = true := by
  obtain ⟨hk, rfl⟩ := List.getElem?_eq_some_iff.1 hp
  rw [List.take_succ_eq_append_getElem hk]
  intro q hq
  rw [List.mem_append] at hq
  rcases hq with hq | hq
  · exact ha q hq
  · simp at hq; subst hq; exact hl

set_option maxHeartbeats 600000 in
/-- the path is there already -/
theorem place_old (b : Nat) (s : ByteArray) (ρ : Nat → Nat × Nat) (S : RS) (w : World) (h : RefRep w b ρ S) (hin : S.paths[atOf S.paths s]? = some s) :
    Calls Tryz.prog 56 #[.pointer (some ⟨b, 0, none⟩), .string s] w fun e w' => e = .returned (.int .i64 (atOf S.paths s)) ∧ w' = w := by
  obtain ⟨hml, a, cap, ep, hcp⟩ := strRow_form h.p
  have h1 := h.c1
  rw [ep] at h1
  have HC := hide hcp
  unfold maxLen at hml
  clear hcp ep
  have HI := hide hin
  clear hin h
  go_enter Tryz.func56, Tryz.ntmps56
  go_wp2
  go_loop [5] (fun i => ∃ k : Nat, k ≤ S.paths.length ∧ i = .int .i64 k ∧ Hid (∀ q ∈ S.paths.take k, slt q s = true)) (fun i => S.paths.length - (intOf i).toNat)
  case atStart => exact ⟨0, Nat.zero_le _, rfl, by unfold Hid; simp⟩
  case round =>
    obtain ⟨k, hk, rfl, ha⟩ := hrel
    by_cases hlt : k < S.paths.length
    · obtain ⟨p, hp⟩ : ∃ p, S.paths[k]? = some p := ⟨S.paths[k], List.getElem?_eq_getElem hlt⟩
      obtain ⟨g, rfl, hg, hcell⟩ := HC.out k p hp
      cases hb : Op.bytesLess p.toList s.toList with
      | true =>
        have T := hide (all_take_snoc ha.out hp hb)
        clear hp
        go_wp2
        go_round
        case rel => exact ⟨k + 1, by omega, by go_num, T⟩
        case measure => simp [intOf]; omega
      | false =>
        have hk' := at_stop hk ha.out (fun q hq => by rw [hp] at hq; simp at hq; subst hq; exact hb)
        have hps : p = s := by
          have := HI.out
          rw [← hk', hp] at this
          simpa using this
        have hbe : (p.toList == s.toList) = true := (seq_iff p s).2 hps
        have HK := hide hk'
        clear hp hk' hps
        go_wp2
        go_ret
        exact ⟨ret_int (by rw [← HK.out]), rfl⟩
    · have hk' := at_stop hk ha.out (fun q hq => by have := (List.getElem?_eq_some_iff.1 hq).1; omega)
      have := HI.out
      rw [← hk'] at this
      have := (List.getElem?_eq_some_iff.1 this).1
      omega

/-- what is new in a row -/
structure Fresh (n : Nat) (l : List Int) (s : SP) : Prop where
  there : s.there = false
  text : s.text = ⟨#[]⟩
  by_ : s.by_ = 0
  num : s.num = 0
  ch : s.ch = List.replicate n 0
  tm : s.tm = l

structure FrOk (W w : World) (n : Nat) (l : List Int) (v : Value) (fr : SP) : Prop where
  fresh : Fresh n l fr
  ch : w.ownsRow W.heap.size 3 1 fr.chv n (ivs (List.replicate n 0))
  tm : w.ownsRow W.heap.size 3 1 fr.tmv l.length (ivs l)
  ne : ∀ k, fr.chv.ownBlock = some k → fr.tmv.ownBlock ≠ some k
  vch : ∀ k, fr.chv.ownBlock = some k → v.ownBlock ≠ some k
  vtm : ∀ k, fr.tmv.ownBlock = some k → v.ownBlock ≠ some k

theorem FrOk.alloc {W w : World} {n : Nat} {l : List Int} {v : Value} {fr : SP} (h : FrOk W w n l v fr) (o : Obj) : FrOk W (w.alloc o) n l v fr :=
  ⟨h.fresh, h.ch.alloc o, h.tm.alloc o, h.ne, h.vch, h.vtm⟩
/-- behind an append to the row v -/
theorem FrOk.grown {W w w1 : World} {n : Nat} {l : List Int} {v : Value} {fr : SP} (h : FrOk W w n l v fr) {g m cap : Nat} (hg : w.grownBy w1 v.ownBlock) (hat : v.ownBlock = some g ∨ g = w.heap.size) : FrOk W w1 n l (.slice (some ⟨g, 0, none⟩) m cap) fr := by
  have hc := World.ownsRow.lt h.ch
  have ht := World.ownsRow.lt h.tm
  refine ⟨h.fresh, ownsRow_keep h.ch (fun k hk => hg.block k (hc k hk).2 (fun e => h.vch k hk e.symm)), ownsRow_keep h.tm (fun k hk => hg.block k (ht k hk).2 (fun e => h.vtm k hk e.symm)), h.ne, ?_, ?_⟩
  · intro k hk e
    simp [Value.ownBlock] at e
    subst e
    rcases hat with q | q
    · exact h.vch _ hk q
    · have := (hc _ hk).2; omega
  · intro k hk e
    simp [Value.ownBlock] at e
    subst e
    rcases hat with q | q
    · exact h.vtm _ hk q
    · have := (ht _ hk).2; omega

/-- a spot's six cells, written out -/
theorem RefRep.six {w : World} {b : Nat} {ρ : Nat → Nat × Nat} {S : RS} (h : RefRep w b ρ S) (r : Nat) (v : Value) (l : List SP) (hx : S.rows[r]? = some (v, l)) (k : Nat) (s : SP) (hk : l[k]? = some s) :
    ∃ g cap gc cc gt ct, v = .slice (some ⟨g, 0, none⟩) l.length cap ∧ g < w.heap.size ∧ s.chv = .slice (some ⟨gc, 0, none⟩) S.n cc ∧ s.tmv = .slice (some ⟨gt, 0, none⟩) S.n ct ∧
      w.cell? ⟨g, k * 6, none⟩ = some (.bool s.there) ∧ w.cell? ⟨g, k * 6 + 1, none⟩ = some (.string s.text) ∧ w.cell? ⟨g, k * 6 + 2, none⟩ = some (.int .i64 s.by_) ∧ w.cell? ⟨g, k * 6 + 3, none⟩ = some (.int .i64 s.num) ∧
      w.cell? ⟨g, k * 6 + 4, none⟩ = some (.slice (some ⟨gc, 0, none⟩) S.n cc) ∧ w.cell? ⟨g, k * 6 + 5, none⟩ = some (.slice (some ⟨gt, 0, none⟩) S.n ct) := by
  obtain ⟨g, cap, ev, hg, _, hc, _⟩ := spot_cells (h.row r _ hx).1 k s hk
  have hsp := h.sp r _ hx s (List.mem_of_getElem? hk)
  have hn := h.n1
  obtain ⟨gc, cc, ec, _⟩ := hsp.ch.form (by rw [hsp.chl]; omega)
  obtain ⟨gt, ct, et, _⟩ := hsp.tm.form (by rw [hsp.tml]; omega)
  rw [hsp.chl] at ec
  rw [hsp.tml] at et
  refine ⟨g, cap, gc, cc, gt, ct, ev, hg, ec, et, ?_, ?_, ?_, ?_, ?_, ?_⟩
  · simpa [SP.cells] using hc 0 (by omega)
  · simpa [SP.cells] using hc 1 (by omega)
  · simpa [SP.cells] using hc 2 (by omega)
  · simpa [SP.cells] using hc 3 (by omega)
  · rw [← ec]; simpa [SP.cells] using hc 4 (by omega)
  · rw [← et]; simpa [SP.cells] using hc 5 (by omega)

/-- the spots that are gathered: k of them are passed -/
structure Gather (W w : World) (n at_ : Nat) (c : List Int) (l : List SP) (k : Nat) (v : Value) : Prop where
  below : Below W.heap.size W w
  low : k ≤ at_ → w.ownsRow W.heap.size 117 6 v k (spv (l.take k))
  high : at_ < k → ∃ fr, FrOk W w n c v fr ∧ w.ownsRow W.heap.size 117 6 v (k + 1) (spv (ins at_ fr l k))

theorem spv_one (s : SP) : spv [s] = s.cells := by simp [spv]
theorem Gather.start (W : World) (n at_ : Nat) (c : List Int) (l : List SP) : Gather W W n at_ c l 0 (.slice none 0 0) :=
  ⟨Below.refl _ _, fun _ => by simpa [spv] using World.ownsRow_nil W W.heap.size _ 6, fun h => by omega⟩
/-- one more, ahead of the place -/
theorem Gather.lo {W w w1 : World} {n at_ : Nat} {c : List Int} {l : List SP} {k : Nat} {v : Value} (h : Gather W w n at_ c l k v) (hk : k < at_) (s : SP) (hs : l[k]? = some s) (o : Obj) (g cap : Nat)
    (ho : w1.ownsRow W.heap.size 117 6 (.slice (some ⟨g, 0, none⟩) (k + 1) cap) (k + 1) (spv (l.take k) ++ s.cells)) (hg : (w.alloc o).grownBy w1 v.ownBlock) : Gather W w1 n at_ c l (k + 1) (.slice (some ⟨g, 0, none⟩) (k + 1) cap) := by
  have hbl : Below W.heap.size W (w.alloc o) := h.below.alloc h.below.size o
  have hown := h.low (by omega)
  refine ⟨grown_below hbl hg (fun q hq => (World.ownsRow.lt hown q hq).1), fun _ => ?_, fun q => by omega⟩
  obtain ⟨hk', rfl⟩ := List.getElem?_eq_some_iff.1 hs
  rw [List.take_succ_eq_append_getElem hk', spv_append, spv_one]
  exact ho
/-- one more, behind the place -/
theorem Gather.hi {W w w1 : World} {n at_ : Nat} {c : List Int} {l : List SP} {k : Nat} {v : Value} (hb : Below W.heap.size W w) (hk : at_ < k) (fr : SP) (hf : FrOk W w n c v fr) (hown : w.ownsRow W.heap.size 117 6 v (k + 1) (spv (ins at_ fr l k))) (s : SP) (hs : l[k]? = some s) (o : Obj) (g cap : Nat)
    (ho : w1.ownsRow W.heap.size 117 6 (.slice (some ⟨g, 0, none⟩) (k + 1 + 1) cap) (k + 1 + 1) (spv (ins at_ fr l k) ++ s.cells)) (hg : (w.alloc o).grownBy w1 v.ownBlock) (hat : v.ownBlock = some g ∨ g = (w.alloc o).heap.size) :
    Gather W w1 n at_ c l (k + 1) (.slice (some ⟨g, 0, none⟩) (k + 1 + 1) cap) := by
  refine ⟨grown_below (hb.alloc hb.size o) hg (fun q hq => (World.ownsRow.lt hown q hq).1), fun q => by omega, fun _ => ⟨fr, (hf.alloc o).grown hg hat, ?_⟩⟩
  rw [ins_gt at_ fr l k s hk hs, spv_append, spv_one]
  exact ho

end Go.Proofs.YtaelaldmibgibaaGreatDoor

namespace Go.Proofs.YtaelaldmibgibaaGreatDoor

theorem bl_irrefl (x : List UInt8) : Op.bytesLess x x = false := by
  induction x with
  | nil => rfl
  | cons a x ih => simp [Op.bytesLess, ih]
theorem bl_trans (x y z : List UInt8) (h : Op.bytesLess x y = true) (h' : Op.bytesLess y z = true) : Op.bytesLess x z = true := by
  induction x generalizing y z with
  | nil =>
    cases z with
    | nil => cases y <;> simp [Op.bytesLess] at h'
    | cons c z => rfl
  | cons a x ih =>
    cases y with
    | nil => simp [Op.bytesLess] at h
    | cons b y =>
      cases z with
      | nil => simp [Op.bytesLess] at h'
      | cons c z =>
        simp only [Op.bytesLess, Bool.or_eq_true, decide_eq_true_eq, Bool.and_eq_true, beq_iff_eq] at *
        rcases h with h | ⟨rfl, h⟩
        · rcases h' with h' | ⟨rfl, h'⟩
          · exact .inl (UInt8.lt_trans h h')
          · exact .inl h
        · rcases h' with h' | ⟨rfl, h'⟩
          · exact .inl h'
          · exact .inr ⟨rfl, ih y z h h'⟩
theorem bl_tri (x y : List UInt8) (h : Op.bytesLess x y = false) (h' : Op.bytesLess y x = false) : x = y := by
  induction x generalizing y with
  | nil =>
    cases y with
    | nil => rfl
    | cons b y => simp [Op.bytesLess] at h
  | cons a x ih =>
    cases y with
    | nil => simp [Op.bytesLess] at h'
    | cons b y =>
      simp only [Op.bytesLess, Bool.or_eq_false_iff, decide_eq_false_iff_not, Bool.and_eq_false_iff, beq_eq_false_iff_ne] at *
      have e : a = b := by
        apply UInt8.toNat_inj.1
        have h1 := h.1
        have h2 := h'.1
        rw [UInt8.lt_iff_toNat_lt] at h1 h2
        omega
      subst e
      rw [ih y (by simpa using h.2) (by simpa using h'.2)]

theorem slt_irrefl (a : ByteArray) : slt a a = false := bl_irrefl _
theorem slt_trans {a b c : ByteArray} (h : slt a b = true) (h' : slt b c = true) : slt a c = true := bl_trans _ _ _ h h'
theorem slt_asymm {a b : ByteArray} (h : slt a b = true) : slt b a = false := by
  cases e : slt b a with
  | false => rfl
  | true => rw [← slt_irrefl a]; exact (slt_trans h e).symm
theorem slt_tri {a b : ByteArray} (h : slt a b = false) (h' : slt b a = false) : a = b := by
  apply (seq_iff a b).1
  unfold seq
  rw [beq_iff_eq]
  exact bl_tri _ _ h h'
theorem slt_ne {a b : ByteArray} (h : slt a b = true) : a ≠ b := fun e => by rw [e, slt_irrefl] at h; cases h

abbrev Files := List (ByteArray × ByteArray)
/-- rising by the paths -/
def Rising (F : Files) : Prop := F.Pairwise (fun x y => slt x.1 y.1 = true)
def put (p t : ByteArray) (F : Files) : Files := F.filter (fun x => slt x.1 p) ++ (p, t) :: F.filter (fun x => slt p x.1)
def del (p : ByteArray) (F : Files) : Files := F.filter (fun x => slt x.1 p) ++ F.filter (fun x => slt p x.1)
def get (p : ByteArray) (F : Files) : Option ByteArray := (F.find? (fun x => seq x.1 p)).map (·.2)

/-- where files are parted about a path -/
structure Parts (p : ByteArray) (X M Y : Files) : Prop where
  lo : ∀ x ∈ X, slt x.1 p = true
  hi : ∀ x ∈ Y, slt p x.1 = true
  mid : ∀ x ∈ M, x.1 = p
theorem filter_all {α : Type} (f : α → Bool) (l : List α) (h : ∀ x ∈ l, f x = true) : l.filter f = l := List.filter_eq_self.2 h
theorem filter_none {α : Type} (f : α → Bool) (l : List α) (h : ∀ x ∈ l, f x = false) : l.filter f = [] := List.filter_eq_nil_iff.2 (fun x hx => by rw [h x hx]; simp)
theorem Parts.fl {p : ByteArray} {X M Y : Files} (h : Parts p X M Y) : (X ++ M ++ Y).filter (fun x => slt x.1 p) = X := by
  rw [List.filter_append, List.filter_append, filter_all _ X h.lo, filter_none _ M (fun x hx => by rw [h.mid x hx]; exact slt_irrefl p), filter_none _ Y (fun x hx => slt_asymm (h.hi x hx))]
  simp
theorem Parts.fr {p : ByteArray} {X M Y : Files} (h : Parts p X M Y) : (X ++ M ++ Y).filter (fun x => slt p x.1) = Y := by
  rw [List.filter_append, List.filter_append, filter_all _ Y h.hi, filter_none _ M (fun x hx => by rw [h.mid x hx]; exact slt_irrefl p), filter_none _ X (fun x hx => slt_asymm (h.lo x hx))]
  simp
theorem Parts.put {p t : ByteArray} {X M Y : Files} (h : Parts p X M Y) : put p t (X ++ M ++ Y) = X ++ (p, t) :: Y := by
  unfold Go.Proofs.YtaelaldmibgibaaGreatDoor.put; rw [h.fl, h.fr]
theorem Parts.del {p : ByteArray} {X M Y : Files} (h : Parts p X M Y) : del p (X ++ M ++ Y) = X ++ Y := by
  unfold Go.Proofs.YtaelaldmibgibaaGreatDoor.del; rw [h.fl, h.fr]
theorem Parts.get {p : ByteArray} {X M Y : Files} (h : Parts p X M Y) : get p (X ++ M ++ Y) = M.head?.map (·.2) := by
  unfold Go.Proofs.YtaelaldmibgibaaGreatDoor.get
  have hX : X.find? (fun x => seq x.1 p) = none := List.find?_eq_none.2 (fun x hx hs => slt_ne (h.lo x hx) ((seq_iff _ _).1 hs))
  have hY : Y.find? (fun x => seq x.1 p) = none := List.find?_eq_none.2 (fun x hx hs => slt_ne (h.hi x hx) ((seq_iff _ _).1 hs).symm)
  rw [List.find?_append, List.find?_append, hX, hY]
  cases M with
  | nil => rfl
  | cons m M =>
    have := (seq_iff m.1 p).2 (h.mid m (by simp))
    simp [this]

/-- a net -/
structure Abs where
  n : Nat
  F : Nat → Files
  c : Nat → Int

def Abs.set (A : Abs) (r : Nat) (F : Files) (c : Int) : Abs := { A with F := fun q => if q = r then F else A.F q, c := fun q => if q = r then c else A.c q }
/-- is a replica asked wrongly? -/
def Abs.out (A : Abs) (r : Int) : Bool := decide (r < 0 ∨ (A.n : Int) ≤ r)

def Abs.writeE (A : Abs) (r : Int) (p t : ByteArray) : Int :=
  if A.out r = true then 1 else if pathOk p = false then 2 else if 60 < t.size then 3
  else if 1000000000 ≤ A.c r.toNat ∨ (get p (A.F r.toNat) = none ∧ 20 ≤ (A.F r.toNat).length) then 5 else 0
def Abs.write (A : Abs) (r : Int) (p t : ByteArray) : Abs :=
  if A.writeE r p t = 0 then A.set r.toNat (put p t (A.F r.toNat)) (A.c r.toNat + 1) else A
def Abs.removeE (A : Abs) (r : Int) (p : ByteArray) : Int :=
  if A.out r = true then 1 else if pathOk p = false then 2 else if get p (A.F r.toNat) = none then 4
  else if 1000000000 ≤ A.c r.toNat then 5 else 0
def Abs.remove (A : Abs) (r : Int) (p : ByteArray) : Abs :=
  if A.removeE r p = 0 then A.set r.toNat (del p (A.F r.toNat)) (A.c r.toNat + 1) else A
def Abs.readE (A : Abs) (r : Int) (p : ByteArray) : Int :=
  if A.out r = true then 1 else if pathOk p = false then 2 else if get p (A.F r.toNat) = none then 4 else 0
def Abs.readT (A : Abs) (r : Int) (p : ByteArray) : ByteArray :=
  if A.readE r p = 0 then (get p (A.F r.toNat)).getD ⟨#[]⟩ else ⟨#[]⟩

end Go.Proofs.YtaelaldmibgibaaGreatDoor

namespace Go.Proofs.YtaelaldmibgibaaGreatDoor
open Go.RowKit

/-- the new spot is in, what comes behind it is not yet -/
structure Half (W w : World) (n at_ : Nat) (c : List Int) (l : List SP) (v : Value) : Prop where
  below : Below W.heap.size W w
  own : ∃ fr, FrOk W w n c v fr ∧ w.ownsRow W.heap.size 117 6 v (at_ + 1) (spv (l.take at_ ++ [fr]))

theorem Gather.put {W w wf w1 : World} {n at_ : Nat} {c : List Int} {l : List SP} {v : Value} (h : Gather W w n at_ c l at_ v) (hb : Below w.heap.size w wf) (fr : SP) (hfr : Fresh n c fr)
    (hch : wf.ownsRow w.heap.size 3 1 fr.chv n (ivs (List.replicate n 0))) (htm : wf.ownsRow w.heap.size 3 1 fr.tmv c.length (ivs c)) (hne : ∀ k, fr.chv.ownBlock = some k → fr.tmv.ownBlock ≠ some k)
    (o : Obj) (g cap : Nat) (ho : w1.ownsRow W.heap.size 117 6 (.slice (some ⟨g, 0, none⟩) (at_ + 1) cap) (at_ + 1) (spv (l.take at_) ++ fr.cells))
    (hg : (wf.alloc o).grownBy w1 v.ownBlock) (hat : v.ownBlock = some g ∨ g = (wf.alloc o).heap.size) : Half W w1 n at_ c l (.slice (some ⟨g, 0, none⟩) (at_ + 1) cap) := by
  have hown := h.low (Nat.le_refl _)
  have hlt := World.ownsRow.lt hown
  have hWw := h.below.size
  have hblf : Below W.heap.size W wf := h.below.trans (hb.mono hWw)
  have F : FrOk W wf n c v fr := by
    refine ⟨hfr, ownsRow_base hch (fun k hk => Nat.le_trans hWw (World.ownsRow.lt hch k hk).1), ownsRow_base htm (fun k hk => Nat.le_trans hWw (World.ownsRow.lt htm k hk).1), hne, ?_, ?_⟩
    · intro k hk e
      have a1 := (hlt k e).2
      have a2 := (World.ownsRow.lt hch k hk).1
      omega
    · intro k hk e
      have a1 := (hlt k e).2
      have a2 := (World.ownsRow.lt htm k hk).1
      omega
  refine ⟨grown_below (hblf.alloc hblf.size o) hg (fun q hq => (hlt q hq).1), fr, (F.alloc o).grown hg hat, ?_⟩
  rw [spv_append, spv_one]
  exact ho

theorem Half.next {W w w1 : World} {n at_ : Nat} {c : List Int} {l : List SP} {v : Value} (hb : Below W.heap.size W w) (fr : SP) (hf : FrOk W w n c v fr) (hown : w.ownsRow W.heap.size 117 6 v (at_ + 1) (spv (l.take at_ ++ [fr]))) (s : SP) (hs : l[at_]? = some s) (o : Obj) (g cap : Nat)
    (ho : w1.ownsRow W.heap.size 117 6 (.slice (some ⟨g, 0, none⟩) (at_ + 1 + 1) cap) (at_ + 1 + 1) (spv (l.take at_ ++ [fr]) ++ s.cells))
    (hg : (w.alloc o).grownBy w1 v.ownBlock) (hat : v.ownBlock = some g ∨ g = (w.alloc o).heap.size) : Gather W w1 n at_ c l (at_ + 1) (.slice (some ⟨g, 0, none⟩) (at_ + 1 + 1) cap) := by
  refine ⟨grown_below (hb.alloc hb.size o) hg (fun q hq => (World.ownsRow.lt hown q hq).1), fun q => by omega, fun _ => ⟨fr, (hf.alloc o).grown hg hat, ?_⟩⟩
  rw [ins_at at_ fr l s hs, spv_append, spv_one]
  have e : ins at_ fr l at_ = l.take at_ := by unfold ins; rw [if_pos (Nat.le_refl _)]
  rw [e]
  exact ho

/-- a row is whole: the new spot at its place -/
structure Whole (W w : World) (n at_ : Nat) (c : List Int) (l : List SP) (v : Value) : Prop where
  below : Below W.heap.size W w
  own : ∃ fr, FrOk W w n c v fr ∧ w.ownsRow W.heap.size 117 6 v (l.length + 1) (spv (l.take at_ ++ fr :: l.drop at_))
theorem Gather.whole {W w : World} {n at_ : Nat} {c : List Int} {l : List SP} {v : Value} (h : Gather W w n at_ c l l.length v) (hlt : at_ < l.length) : Whole W w n at_ c l v := by
  obtain ⟨fr, hf, ho⟩ := h.high hlt
  rw [ins_end at_ fr l hlt] at ho
  exact ⟨h.below, fr, hf, ho⟩
theorem Half.whole {W w : World} {n at_ : Nat} {c : List Int} {l : List SP} {v : Value} (h : Half W w n at_ c l v) (he : at_ = l.length) : Whole W w n at_ c l v := by
  obtain ⟨fr, hf, ho⟩ := h.own
  subst he
  refine ⟨h.below, fr, hf, ?_⟩
  rw [List.drop_length]
  exact ho

/-- the row is put in its place -/
theorem Whole.store {W w : World} {b : Nat} {ρ : Nat → Nat × Nat} {S : RS} {at_ r : Nat} {c : List Int} {l : List SP} {v ov cw : Value} (h : Whole W w S.n at_ c l v) (hR : RefRep W b ρ S) (hx : S.rows[r]? = some (ov, l)) (hc : S.coms[r]? = some (cw, c)) (sg sc : Nat)
    (es : S.sv = .slice (some ⟨sg, 0, none⟩) S.n sc) (hrn : r < S.n) :
    ∃ ρ' fr, RefRep (w.setCell ⟨sg, r, none⟩ v) b ρ' { S with rows := S.rows.set r (v, l.take at_ ++ fr :: l.drop at_) } ∧ Grow W ρ ρ' ∧ Fresh S.n c fr ∧ (∃ g cap, v = .slice (some ⟨g, 0, none⟩) (l.length + 1) cap) := by
  obtain ⟨fr, hf, ho⟩ := h.own
  have hn := hR.n1
  obtain ⟨gv, cv, rfl, hgv, hgvl⟩ := World.ownsRow.form ho (by omega)
  obtain ⟨gc, cc, ec, hgc, hgcl⟩ := World.ownsRow.form hf.ch (by omega)
  have hcl : c.length = S.n := (hR.com r _ hc).2.1
  obtain ⟨gt, ct, et, hgt, hgtl⟩ := World.ownsRow.form hf.tm (by omega)
  have hR1 : RefRep w b ρ S := hR.below h.below
  have n1 : gv ≠ gc := by intro e; subst e; exact hf.vch gv (by rw [ec]; rfl) rfl
  have n2 : gv ≠ gt := by intro e; subst e; exact hf.vtm gv (by rw [et]; rfl) rfl
  have n3 : gc ≠ gt := by intro e; subst e; exact hf.ne gc (by rw [ec]; rfl) (by rw [et]; rfl)
  have f1 : (ρ gv).1 = 0 := hR.free hgv
  have f2 : (ρ gc).1 = 0 := hR.free hgc
  have f3 : (ρ gt).1 = 0 := hR.free hgt
  have R1 := hR1.upd (5, r) f1 hgvl
  have R2 := R1.upd (k := gc) (6, 0) (by unfold upd; rw [if_neg (Ne.symm n1)]; exact f2) hgcl
  have R3 := R2.upd (k := gt) (7, r) (by unfold upd; rw [if_neg (Ne.symm n3), if_neg (Ne.symm n2)]; exact f3) hgtl
  have r1 : role (upd (upd (upd ρ gv (5, r)) gc (6, 0)) gt (7, r)) (.slice (some ⟨gv, 0, none⟩) (l.length + 1) cv) (5, r) := by
    intro k hk; simp [Value.ownBlock] at hk; subst hk
    unfold upd; rw [if_neg n2, if_neg n1, if_pos rfl]
  have r2 : role (upd (upd (upd ρ gv (5, r)) gc (6, 0)) gt (7, r)) fr.chv (6, 0) := by
    intro k hk; rw [ec] at hk; simp [Value.ownBlock] at hk; subst hk
    unfold upd; rw [if_neg n3, if_pos rfl]
  have r3 : role (upd (upd (upd ρ gv (5, r)) gc (6, 0)) gt (7, r)) fr.tmv (7, r) := by
    intro k hk; rw [et] at hk; simp [Value.ownBlock] at hk; subst hk
    unfold upd; rw [if_pos rfl]
  refine ⟨_, fr, R3.setRow sg sc r es hrn _ _ ?_ r1 ?_, (((Grow.refl W ρ).upd hgv _).upd hgc _).upd hgt _, hf.fresh, gv, cv, rfl⟩
  · have e : (l.take at_ ++ fr :: l.drop at_).length = l.length + 1 := by
      simp only [List.length_append, List.length_cons, List.length_take, List.length_drop]; omega
    rw [e]
    exact ownsRow_base ho (fun _ _ => Nat.zero_le _)
  · intro t ht
    have ht' : t ∈ l ∨ t = fr := by
      simp only [List.mem_append, List.mem_cons] at ht
      rcases ht with ht | ht | ht
      · exact .inl (List.mem_of_mem_take ht)
      · exact .inr ht
      · exact .inl (List.mem_of_mem_drop ht)
    rcases ht' with ht' | rfl
    · exact R3.sp r _ hx t ht'
    · refine ⟨?_, ?_, r2, ?_, ?_, r3⟩
      · unfold intRow
        rw [hf.fresh.ch, List.length_replicate]
        exact ownsRow_base hf.ch (fun _ _ => Nat.zero_le _)
      · rw [hf.fresh.ch, List.length_replicate]
      · unfold intRow
        rw [hf.fresh.tm]
        exact ownsRow_base hf.tm (fun _ _ => Nat.zero_le _)
      · rw [hf.fresh.tm]; exact hcl

/-- how far the rows have come: those below r have the new spot -/
structure Rowed (S Sr : RS) (at_ : Nat) (ps : List ByteArray) (r : Nat) : Prop where
  n : Sr.n = S.n
  coms : Sr.coms = S.coms
  paths : Sr.paths = ps
  lo : ∀ r' v l, S.rows[r']? = some (v, l) → r' < r → ∃ v' fr cw c, Sr.rows[r']? = some (v', l.take at_ ++ fr :: l.drop at_) ∧ S.coms[r']? = some (cw, c) ∧ Fresh S.n c fr
  hi : ∀ r' x, S.rows[r']? = some x → r ≤ r' → Sr.rows[r']? = some x
theorem Rowed.next {S Sr : RS} {at_ r : Nat} {ps : List ByteArray} (h : Rowed S Sr at_ ps r) (hr : r < Sr.rows.length) (v ov : Value) (l : List SP) (hx : S.rows[r]? = some (ov, l)) (fr : SP) (cw : Value) (c : List Int) (hc : S.coms[r]? = some (cw, c)) (hf : Fresh S.n c fr) :
    Rowed S { Sr with rows := Sr.rows.set r (v, l.take at_ ++ fr :: l.drop at_) } at_ ps (r + 1) := by
  refine ⟨h.n, h.coms, h.paths, ?_, ?_⟩
  · intro r' v' l' hx' hlt
    by_cases e : r' = r
    · subst e
      rw [hx] at hx'
      simp at hx'
      obtain ⟨rfl, rfl⟩ := hx'
      exact ⟨v, fr, cw, c, by simp [hr], hc, hf⟩
    · obtain ⟨v'', fr', cw', c', h1, h2⟩ := h.lo r' v' l' hx' (by omega)
      exact ⟨v'', fr', cw', c', by rw [List.getElem?_set_ne (Ne.symm e)]; exact h1, h2⟩
  · intro r' x hx' hle
    rw [List.getElem?_set_ne (by omega)]
    exact h.hi r' x hx' (by omega)

/-- the row as it stands where it can be appended to, in a world behind -/
theorem Gather.lowf {W w wf : World} {n at_ : Nat} {c : List Int} {l : List SP} {k : Nat} {v : Value} (h : Gather W w n at_ c l k v) (hk : k ≤ at_) (hb : Below w.heap.size w wf) : wf.ownsRow W.heap.size 117 6 v k (spv (l.take k)) :=
  ownsRow_keep (h.low hk) (fun q hq => hb.block q (World.ownsRow.lt (h.low hk) q hq).2)

/-- fresh, its two lists written out -/
theorem fresh_form (b r : Nat) (ρ : Nat → Nat × Nat) (S : RS) (w : World) (h : RefRep w b ρ S) (hr : r < S.n) (cw : Value) (c : List Int) (hc : S.coms[r]? = some (cw, c)) :
    Calls Tryz.prog 102 #[.pointer (some ⟨b, 0, none⟩), .int .i64 r] w fun e w' => ∃ gc cc gt ct,
      e = .returned (.agg #[.bool false, .string ⟨#[]⟩, .int .i64 0, .int .i64 0, .slice (some ⟨gc, 0, none⟩) S.n cc, .slice (some ⟨gt, 0, none⟩) S.n ct]) ∧ Hid (w'.ownsRow w.heap.size 3 1 (.slice (some ⟨gc, 0, none⟩) S.n cc) S.n (ivs (List.replicate S.n 0))) ∧
      Hid (w'.ownsRow w.heap.size 3 1 (.slice (some ⟨gt, 0, none⟩) S.n ct) c.length (ivs c)) ∧ gc ≠ gt ∧ Hid (Below w.heap.size w w') := by
  have hn := h.n1
  have hcl := (h.com r _ hc).2.1
  refine (fresh_any b r ρ S w h hr).mono ?_
  rintro e w' ⟨chv, tmv, l, x, hx, rfl, h1, h2, h3, h4⟩
  rw [hc] at hx
  simp at hx
  obtain ⟨rfl, rfl⟩ := hx
  obtain ⟨gc, cc, rfl, _⟩ := World.ownsRow.form h1 (by omega)
  simp only at hcl
  obtain ⟨gt, ct, rfl, _⟩ := World.ownsRow.form h2 (by omega)
  rw [hcl] at h2 ⊢
  exact ⟨gc, cc, gt, ct, rfl, h1, h2, fun e => h3 gc rfl (by rw [e]; rfl), h4⟩

end Go.Proofs.YtaelaldmibgibaaGreatDoor

namespace Go.Proofs.YtaelaldmibgibaaGreatDoor
open Go.RowKit

theorem ins_length_le {α : Type} (a : Nat) (x : α) (l : List α) (k : Nat) : (ins a x l k).length ≤ k + 1 := by
  unfold ins
  split
  · have := List.length_take_le k l; omega
  · have h1 := List.length_take_le k l
    simp only [List.length_append, List.length_cons, List.length_drop, List.length_take]
    omega
theorem own_next {w1 : World} {base g cap : Nat} {a : Nat} {s y : ByteArray} {l : List ByteArray} {k : Nat} (e : ins a s l (k + 1) = ins a s l k ++ [y])
    (h : w1.ownsRow base 9 1 (.slice (some ⟨g, 0, none⟩) ((ins a s l k).length + 1) cap) ((ins a s l k).length + 1) (svs (ins a s l k) ++ [.string y])) :
    w1.ownsRow base 9 1 (.slice (some ⟨g, 0, none⟩) ((ins a s l k).length + 1) cap) (ins a s l (k + 1)).length (svs (ins a s l (k + 1))) := by
  rw [e, svs_append, List.length_append]
  exact h
theorem rowed_start (S : RS) (at_ : Nat) (pv : Value) (ps : List ByteArray) : Rowed S { S with paths := ps, pv := pv } at_ ps 0 :=
  ⟨rfl, rfl, rfl, fun _ _ _ _ h => by omega, fun _ _ h _ => h⟩
theorem row_prep {w wl : World} {b : Nat} {ρ ρr : Nat → Nat × Nat} {S Sr : RS} {at_ r m : Nat} {ps : List ByteArray} (hS : RefRep w b ρ S) (hR : RefRep wl b ρr Sr) (hRow : Rowed S Sr at_ ps r)
    (hlen : ∀ (r : Nat) (x : Value × List SP), S.rows[r]? = some x → x.2.length = m) (hlr : r < S.n) :
    ∃ ao co l cw c sg sc, S.rows[r]? = some (.slice ao m co, l) ∧ Sr.rows[r]? = some (.slice ao m co, l) ∧ S.coms[r]? = some (cw, c) ∧ Sr.coms[r]? = some (cw, c) ∧ l.length = m ∧ Sr.sv = .slice (some ⟨sg, 0, none⟩) S.n sc ∧
      wl.cell? ⟨b, 3, none⟩ = some (.slice (some ⟨sg, 0, none⟩) S.n sc) ∧ wl.cell? ⟨sg, r, none⟩ = some (.slice ao m co) ∧ wl.frozen? ⟨sg, r, none⟩ = false ∧ sg < wl.heap.size ∧ b < wl.heap.size := by
  have hrl : r < S.rows.length := by have := hS.rowl; omega
  have hcl : r < S.coms.length := by have := hS.coml; omega
  obtain ⟨ov, l, hx⟩ : ∃ ov l, S.rows[r]? = some (ov, l) := ⟨S.rows[r].1, S.rows[r].2, List.getElem?_eq_getElem hrl⟩
  obtain ⟨cw, c, hc⟩ : ∃ cw c, S.coms[r]? = some (cw, c) := ⟨S.coms[r].1, S.coms[r].2, List.getElem?_eq_getElem hcl⟩
  have hxr := hRow.hi r _ hx (Nat.le_refl _)
  have hcr : Sr.coms[r]? = some (cw, c) := by rw [hRow.coms]; exact hc
  have hll : l.length = m := hlen r _ hx
  have en := hRow.n
  obtain ⟨sg, sc, v', l', es, hs, hx', _, _, hsg, _, hsf⟩ := hR.theRow r (by omega)
  rw [hxr] at hx'
  simp at hx'
  obtain ⟨rfl, rfl⟩ := hx'
  rw [en] at es
  have hvf : ∃ ao co, ov = .slice ao m co := by
    rcases (hR.row r _ hxr).1.2 with ⟨e0, h00⟩ | ⟨g0, c0, cur, e0, _⟩
    · simp only at h00 e0
      exact ⟨none, 0, by rw [e0, ← hll, h00]⟩
    · simp only at e0
      exact ⟨_, c0, by rw [e0, hll]⟩
  obtain ⟨ao, co, rfl⟩ := hvf
  exact ⟨ao, co, l, cw, c, sg, sc, hx, hxr, hc, hcr, hll, es, by rw [hR.c3, es], hs, hsf r, hsg, hR.lt b (by rw [hR.rb]; decide)⟩
theorem own_next2 {w1 : World} {base g cap : Nat} {a : Nat} {s y : ByteArray} {l : List ByteArray} (e : ins a s l (a + 1) = ins a s l a ++ [s] ++ [y])
    (h : w1.ownsRow base 9 1 (.slice (some ⟨g, 0, none⟩) ((ins a s l a).length + 1 + 1) cap) ((ins a s l a).length + 1 + 1) (svs (ins a s l a) ++ [.string s] ++ [.string y])) :
    w1.ownsRow base 9 1 (.slice (some ⟨g, 0, none⟩) ((ins a s l a).length + 1 + 1) cap) (ins a s l (a + 1)).length (svs (ins a s l (a + 1))) := by
  rw [e, svs_append, svs_append, List.length_append, List.length_append]
  exact h

set_option maxRecDepth 100000 in
set_option maxHeartbeats 2000000 in
theorem place_mid (b : Nat) (s : ByteArray) (ρ : Nat → Nat × Nat) (S : RS) (w : World) (h : RefRep w b ρ S) (hnew : S.paths[atOf S.paths s]? ≠ some s) (hlen : ∀ (r : Nat) (x : Value × List SP), S.rows[r]? = some x → x.2.length = S.paths.length) (hm : S.paths.length ≤ 100000000) (hwh : atOf S.paths s < S.paths.length) :
    Calls Tryz.prog 56 #[.pointer (some ⟨b, 0, none⟩), .string s] w fun e w' => ∃ ρ' S', e = .returned (.int .i64 (atOf S.paths s)) ∧ RefRep w' b ρ' S' ∧ Grow w ρ ρ' ∧ Fr (fun k => (ρ k).1 ≠ 0) w w' ∧
      Rowed S S' (atOf S.paths s) (S.paths.take (atOf S.paths s) ++ s :: S.paths.drop (atOf S.paths s)) S.n := by
  obtain ⟨hml, a, cap, ep, hcp⟩ := strRow_form h.p
  have h1 := h.c1
  rw [ep] at h1
  have HC := hide hcp
  unfold maxLen at hml
  have HN := hide hnew
  have hb : b < w.heap.size := h.lt b (by rw [h.rb]; decide)
  have hf1 : w.frozen? ⟨b, 1, none⟩ = false := frozen_of_row w b 1 _ _ h.net
  have H := hide h
  have HL := hide hlen
  have HW := hide hwh
  clear hcp ep hnew h hlen hwh
  go_enter Tryz.func56, Tryz.ntmps56
  go_wp2
  go_loop [5] (fun i => ∃ k : Nat, k ≤ S.paths.length ∧ i = .int .i64 k ∧ Hid (∀ q ∈ S.paths.take k, slt q s = true)) (fun i => S.paths.length - (intOf i).toNat)
  case atStart => exact ⟨0, Nat.zero_le _, rfl, by unfold Hid; simp⟩
  case round =>
    obtain ⟨at_, hk, rfl, ha⟩ := hrel
    have hcases : (∃ p, S.paths[at_]? = some p ∧ slt p s = true) ∨ (at_ = atOf S.paths s ∧ ∀ p, S.paths[at_]? = some p → slt p s = false ∧ seq p s = false) := by
      by_cases hlt : at_ < S.paths.length
      · have hp : S.paths[at_]? = some S.paths[at_] := List.getElem?_eq_getElem hlt
        cases hb : slt S.paths[at_] s with
        | true => exact .inl ⟨_, hp, hb⟩
        | false =>
          have hk' := at_stop hk ha.out (fun q hq => by rw [hp] at hq; simp at hq; subst hq; exact hb)
          refine .inr ⟨hk', fun p hp' => ?_⟩
          rw [hp] at hp'; simp at hp'; subst hp'
          refine ⟨hb, ?_⟩
          cases hs : seq S.paths[at_] s with
          | false => rfl
          | true => exact absurd (by rw [← hk', hp, (seq_iff _ _).1 hs]) HN.out
      · exact .inr ⟨at_stop hk ha.out (fun q hq => by have := (List.getElem?_eq_some_iff.1 hq).1; omega), fun p hp => by have := (List.getElem?_eq_some_iff.1 hp).1; omega⟩
    rcases hcases with ⟨p, hp, hb'⟩ | ⟨hat, hno⟩
    · have hlt : at_ < S.paths.length := (List.getElem?_eq_some_iff.1 hp).1
      obtain ⟨g, rfl, hg, hcell⟩ := HC.out at_ p hp
      have T := hide (all_take_snoc ha.out hp hb')
      have hbb : Op.bytesLess p.toList s.toList = true := hb'
      clear hp hb'
      go_wp2
      go_round
      case rel => exact ⟨at_ + 1, by omega, by go_num, T⟩
      case measure => simp [intOf]; omega
    · have HAT := hide hat
      have hwh := HW.out
      rw [← hat] at hwh
      clear hat
      obtain ⟨p, hp⟩ : ∃ p, S.paths[at_]? = some p := ⟨S.paths[at_], List.getElem?_eq_getElem hwh⟩
      obtain ⟨g, rfl, hg, hcell⟩ := HC.out at_ p hp
      obtain ⟨q1, q2⟩ := hno p hp
      have hbb : Op.bytesLess p.toList s.toList = false := q1
      have hbe : (p.toList == s.toList) = false := q2
      clear hp q1 q2 hno
      go_wp2
      clear hbb hbe hcell hg
      generalize (some (⟨g, 0, none⟩ : Addr)) = a at *
      clear ha
      go_loopw [6, 7] (fun v i wr => ∃ k : Nat, k ≤ S.paths.length ∧ i = .int .i64 k ∧ wr.ownsRow w.heap.size 9 1 v (ins at_ s S.paths k).length (svs (ins at_ s S.paths k)) ∧ Hid (Below w.heap.size w wr)) (fun _ i _ => S.paths.length - (intOf i).toNat)
      case atStart => exact ⟨0, Nat.zero_le _, rfl, by rw [ins_zero]; exact World.ownsRow_nil _ _ _ _, Below.refl _ _⟩
      case round =>
        obtain ⟨k, hk2, rfl, hown, hbl⟩ := hrel
        have hil := ins_length_le at_ s S.paths k
        have hlo := hide (World.ownsRow.lt hown)
        have hbz := hbl.out.size
        have h1' : wr.cell? ⟨b, 1, none⟩ = some (.slice a S.paths.length cap) := (hbl.out.cell (p := ⟨b, 1, none⟩) hb).trans h1
        by_cases hlt2 : k < S.paths.length
        · obtain ⟨y, hy⟩ : ∃ y, S.paths[k]? = some y := ⟨S.paths[k], List.getElem?_eq_getElem hlt2⟩
          obtain ⟨g', rfl, hg', hcell'⟩ := HC.out k y hy
          have hcy : wr.cell? ⟨g', k, none⟩ = some (.string y) := (hbl.out.cell (p := ⟨g', k, none⟩) hg').trans hcell'
          have HCL := hide hcell'
          have H1 := hide h1
          have HF1 := hide hf1
          clear hcell' h1 hf1
          rcases Nat.lt_trichotomy k at_ with hka | hka | hka
          · have E := hide (ins_lt at_ s S.paths k y (by omega) hy)
            have hne : ((k : Int) == (at_ : Int)) = false := by simp; omega
            clear hy
            go_wp2_with (first | (at_builtin; go_must (refine app_str _ rfl (.tmp 66) (.tmp 74) rfl w.heap.size _ _ _ rfl (hown.alloc _) wr.heap.size y rfl (by simp) (by omega) (by simp; omega) ?_; intro g2 c2 w2 ho2 hgr2 hat2 hl2)))
            have hb2 := hide (grown_below (hbl.out.alloc hbl.out.size _) hgr2 (fun q hq => (hlo.out q hq).1))
            have O := hide (own_next E.out ho2)
            clear hgr2 hat2 ho2 hown hcy h1'
            go_wp2
            go_roundw
            case rel => exact ⟨k + 1, by omega, by go_num, O.out, hb2⟩
            case measure => simp [intOf]; omega
          · subst hka
            have E := hide (ins_at k s S.paths y hy)
            clear hy
            go_wp2_with (first | (at_builtin; refine app_str _ rfl (.tmp 62) (.tmp 64) rfl w.heap.size _ _ _ rfl (hown.alloc _) wr.heap.size s rfl (by simp) (by omega) (by simp; omega) ?_; intro g1 c1 w1 ho1 hgr1 hat1 hl1; have hb1 := hide (grown_below (hbl.out.alloc hbl.out.size _) hgr1 (fun q hq => (hlo.out q hq).1)); have h1b : w1.cell? ⟨b, 1, none⟩ = some (.slice (some ⟨g', 0, none⟩) S.paths.length cap) := (hb1.out.cell (p := ⟨b, 1, none⟩) hb).trans H1.out; have hcyb : w1.cell? ⟨g', k, none⟩ = some (.string y) := (hb1.out.cell (p := ⟨g', k, none⟩) hg').trans HCL.out; have hbz1 := hb1.out.size; have hlo1 := hide (World.ownsRow.lt ho1); clear hgr1 hat1) | (at_builtin; refine app_str _ rfl (.tmp 66) (.tmp 74) rfl w.heap.size _ _ _ rfl (ho1.alloc _) w1.heap.size y rfl (by simp) (by omega) (by simp; omega) ?_; intro g2 c2 w2 ho2 hgr2 hat2 hl2))
            have hb2 := hide (grown_below (hb1.out.alloc hb1.out.size _) hgr2 (fun q hq => (hlo1.out q hq).1))
            have O := hide (own_next2 E.out ho2)
            clear hgr2 hat2 ho2 hown hcy h1' ho1 h1b hcyb
            go_wp2
            go_roundw
            case rel => exact ⟨k + 1, by omega, by go_num, O.out, hb2⟩
            case measure => simp [intOf]; omega
          · have E := hide (ins_gt at_ s S.paths k y (by omega) hy)
            have hne : ((k : Int) == (at_ : Int)) = false := by simp; omega
            clear hy
            go_wp2_with (first | (at_builtin; go_must (refine app_str _ rfl (.tmp 66) (.tmp 74) rfl w.heap.size _ _ _ rfl (hown.alloc _) wr.heap.size y rfl (by simp) (by omega) (by simp; omega) ?_; intro g2 c2 w2 ho2 hgr2 hat2 hl2)))
            have hb2 := hide (grown_below (hbl.out.alloc hbl.out.size _) hgr2 (fun q hq => (hlo.out q hq).1))
            have O := hide (own_next E.out ho2)
            clear hgr2 hat2 ho2 hown hcy h1'
            go_wp2
            go_roundw
            case rel => exact ⟨k + 1, by omega, by go_num, O.out, hb2⟩
            case measure => simp [intOf]; omega
        · have ek : k = S.paths.length := by omega
          subst ek
          have e1 := ins_end at_ s S.paths hwh
          rw [e1] at hown
          have hpl : (S.paths.take at_ ++ s :: S.paths.drop at_).length = S.paths.length + 1 := by simp only [List.length_append, List.length_cons, List.length_take, List.length_drop]; omega
          rw [hpl] at hown
          obtain ⟨gp, cp, rfl, hgp, hgpl⟩ := World.ownsRow.form hown (by omega)
          have HO := hide hown
          have HP := hide hpl
          have hne : ((at_ : Int) == (S.paths.length : Int)) = false := by simp; omega
          have hf1' : wr.frozen? ⟨b, 1, none⟩ = false := (hbl.out.frozen (p := ⟨b, 1, none⟩) hb).trans hf1
          clear hown hlo e1 hil hpl
          generalize S.paths.length = m at *
          have R1 := (((unhide H).below hbl.out).upd (k := gp) (2, 0) ((unhide H).free hgp) hgpl).setPaths (.slice (some ⟨gp, 0, none⟩) (m + 1) cp) (S.paths.take at_ ++ s :: S.paths.drop at_) (by rw [HP.out]; exact ownsRow_base HO.out (fun _ _ => Nat.zero_le _)) (by intro q hq; simp [Value.ownBlock] at hq; subst hq; unfold upd; rw [if_pos rfl])
          have RR := hide R1
          have GG := hide ((Grow.refl w ρ).upd hgp (2, 0))
          have FF := hide ((Fr.of_below (S := fun k => (ρ k).1 ≠ 0) hbl.out).setCell (p := ⟨b, 1, none⟩) (.inl (by simp only; rw [(unhide H).rb]; decide)) (.slice (some ⟨gp, 0, none⟩) (m + 1) cp))
          clear R1
          go_wp2
          clear hf1' h1' hne h1 hf1
          go_loopw [8] (fun rv wl => ∃ r : Nat, r ≤ S.n ∧ rv = .int .i64 r ∧ ∃ ρr Sr, Hid (RefRep wl b ρr Sr) ∧ Hid (Grow w ρ ρr) ∧ Hid (Fr (fun k => (ρ k).1 ≠ 0) w wl) ∧ Hid (Rowed S Sr at_ (S.paths.take at_ ++ s :: S.paths.drop at_) r)) (fun rv _ => S.n - (intOf rv).toNat)
          case atStart => exact ⟨0, Nat.zero_le _, rfl, _, _, RR, GG, FF, rowed_start S at_ _ _⟩
          case round =>
            obtain ⟨r, hrn, rfl, ρr, Sr, hR, hG, hF, hRow⟩ := hrel
            have en := hRow.out.n
            have h0 := hR.out.c0
            rw [en] at h0
            have hn6 := (unhide H).n6
            by_cases hlr : r < S.n
            · obtain ⟨ao, co, l, cw, c, sg, sc, x1, x2, x3, x4, x5, x6, h3, hs, hsf, hsg, hbw⟩ := row_prep (unhide H) hR.out hRow.out HL.out hlr
              have HXX := hide x1
              have HXR := hide x2
              have HCC := hide x3
              have HCR := hide x4
              have HLL := hide x5
              have HES := hide x6
              have HEN := hide en
              have H3 := hide h3
              have HS := hide hs
              have HSF := hide hsf
              clear x1 x2 x3 x4 x5 x6 en hsf
              obtain ⟨W, hWW⟩ : ∃ W, W = wr := ⟨_, rfl⟩
              subst hWW
              go_wp2
              clear hs h3
              go_loopw [9, 10] (fun v i wi => ∃ k : Nat, k ≤ m ∧ i = .int .i64 k ∧ Hid (Gather W wi S.n at_ c l k v)) (fun _ i _ => m - (intOf i).toNat)
              case atStart => exact ⟨0, Nat.zero_le _, rfl, Gather.start _ _ _ _ _⟩
              case round =>
                obtain ⟨k, hk4, rfl, hga⟩ := hrel
                have hbz := hga.out.below.size
                have h3w : wr.cell? ⟨b, 3, none⟩ = some (.slice (some ⟨sg, 0, none⟩) S.n sc) := (hga.out.below.cell (p := ⟨b, 3, none⟩) hbw).trans H3.out
                have hsw : wr.cell? ⟨sg, r, none⟩ = some (.slice ao m co) := (hga.out.below.cell (p := ⟨sg, r, none⟩) hsg).trans HS.out
                by_cases hlt4 : k < m
                · obtain ⟨y, hy⟩ : ∃ y, l[k]? = some y := ⟨l[k]'(by rw [HLL.out]; exact hlt4), List.getElem?_eq_getElem _⟩
                  obtain ⟨g5, c5, gc, cc, gt, ct, ev, hg5, ec, et, q0, q1, q2, q3, q4, q5⟩ := hR.out.six r _ l HXR.out k y hy
                  simp at ev
                  obtain ⟨rfl, hmm, rfl⟩ := ev
                  clear hmm
                  rw [HEN.out] at ec et q4 q5
                  have hcells : Hid (y.cells = [.bool y.there, .string y.text, .int .i64 y.by_, .int .i64 y.num, .slice (some ⟨gc, 0, none⟩) S.n cc, .slice (some ⟨gt, 0, none⟩) S.n ct]) := by unfold Hid SP.cells; rw [ec, et]
                  have HY := hide hy
                  have CW := hide (fun (W' : World) (hb' : Below W.heap.size W W') => (⟨(hb'.cell (p := ⟨g5, k * 6, none⟩) hg5).trans q0, (hb'.cell (p := ⟨g5, k * 6 + 1, none⟩) hg5).trans q1, (hb'.cell (p := ⟨g5, k * 6 + 2, none⟩) hg5).trans q2, (hb'.cell (p := ⟨g5, k * 6 + 3, none⟩) hg5).trans q3, (hb'.cell (p := ⟨g5, k * 6 + 4, none⟩) hg5).trans q4, (hb'.cell (p := ⟨g5, k * 6 + 5, none⟩) hg5).trans q5⟩ : W'.cell? ⟨g5, k * 6, none⟩ = some (.bool y.there) ∧ W'.cell? ⟨g5, k * 6 + 1, none⟩ = some (.string y.text) ∧ W'.cell? ⟨g5, k * 6 + 2, none⟩ = some (.int .i64 y.by_) ∧ W'.cell? ⟨g5, k * 6 + 3, none⟩ = some (.int .i64 y.num) ∧ W'.cell? ⟨g5, k * 6 + 4, none⟩ = some (.slice (some ⟨gc, 0, none⟩) S.n cc) ∧ W'.cell? ⟨g5, k * 6 + 5, none⟩ = some (.slice (some ⟨gt, 0, none⟩) S.n ct)))
                  clear q0 q1 q2 q3 q4 q5 ec et hy
                  generalize y.there = y0 at *
                  generalize y.text = y1 at *
                  generalize y.by_ = y2 at *
                  generalize y.num = y3 at *
                  rcases Nat.lt_trichotomy k at_ with hka | hka | hka
                  · have hne : ((k : Int) == (at_ : Int)) = false := by simp; omega
                    obtain ⟨q0, q1, q2, q3, q4, q5⟩ := CW.out wr hga.out.below
                    have hown := hga.out.low (by omega)
                    go_wp2_with (first | (at_builtin; go_must (refine app_spot _ rfl (.tmp 120) (.tmp 131) rfl W.heap.size _ _ _ rfl (hown.alloc _) wr.heap.size y0 y1 y2 y3 _ _ _ _ _ _ rfl (heap_alloc_new _ _) (by omega) (by simp; omega) ?_; intro g2 c2 w2 ho2 hgr2 hat2 hl2)))
                    have G := hide (hga.out.lo hka y HY.out _ g2 c2 (by rw [hcells.out]; exact ho2) hgr2)
                    clear hgr2 hat2 ho2 hown q0 q1 q2 q3 q4 q5 h3w hsw
                    go_wp2
                    go_roundw
                    case rel => exact ⟨k + 1, by omega, by go_num, G⟩
                    case measure => simp [intOf]; omega
                  · subst hka
                    have hRw := hide (hR.out.below hga.out.below)
                    clear h3w hsw
                    have h3w : wr.cell? ⟨b, 3, none⟩ = some (.slice (some ⟨sg, 0, none⟩) S.n sc) := (hga.out.below.cell (p := ⟨b, 3, none⟩) hbw).trans H3.out
                    have hsw : wr.cell? ⟨sg, r, none⟩ = some (.slice (some ⟨g5, 0, none⟩) m co) := (hga.out.below.cell (p := ⟨sg, r, none⟩) hsg).trans HS.out
                    have hrr : r < Sr.n := by rw [HEN.out]; exact hlr
                    go_wp2_with (first
                      | (go_at_call 102; refine (fresh_form b r ρr Sr _ hRw.out hrr cw c HCR.out).mono ?_; rw [HEN.out]; rintro e wf ⟨gc0, cc0, gt0, ct0, rfl, hch0, htm0, hne0, hbf⟩; have hownf := hga.out.lowf (Nat.le_refl _) hbf.out; have hbzf := hbf.out.size)
                      | (at_builtin; refine app_spot _ rfl (.tmp 114) (.tmp 118) rfl W.heap.size _ _ _ rfl (hownf.alloc _) wf.heap.size false ⟨#[]⟩ 0 0 _ _ _ _ _ _ rfl (heap_alloc_new _ _) (by omega) (by simp; omega) ?_; intro g1 c1 w1 ho1 hgr1 hat1 hl1; have hh := hide (hga.out.put hbf.out ⟨false, ⟨#[]⟩, 0, 0, _, List.replicate S.n 0, _, c⟩ ⟨rfl, rfl, rfl, rfl, rfl, rfl⟩ hch0.out htm0.out (by intro q hq; simp [Value.ownBlock] at hq ⊢; omega) _ g1 c1 ho1 hgr1 hat1); have h3x : w1.cell? ⟨b, 3, none⟩ = some (.slice (some ⟨sg, 0, none⟩) S.n sc) := (hh.out.below.cell (p := ⟨b, 3, none⟩) hbw).trans H3.out; have hsx : w1.cell? ⟨sg, r, none⟩ = some (.slice (some ⟨g5, 0, none⟩) m co) := (hh.out.below.cell (p := ⟨sg, r, none⟩) hsg).trans HS.out; obtain ⟨q0, q1, q2, q3, q4, q5⟩ := CW.out w1 hh.out.below; have hbz1 := hh.out.below.size; obtain ⟨fr, hfr, hownh⟩ := hh.out.own; have HFR := hide hfr; clear hfr ho1 hgr1 hat1)
                      | (at_builtin; refine app_spot _ rfl (.tmp 120) (.tmp 131) rfl W.heap.size _ _ _ rfl (hownh.alloc _) w1.heap.size y0 y1 y2 y3 _ _ _ _ _ _ rfl (heap_alloc_new _ _) (by omega) (by simp; omega) ?_; intro g2 c2 w2 ho2 hgr2 hat2 hl2))
                    have G := hide (Half.next hh.out.below fr HFR.out hownh y HY.out _ g2 c2 (by rw [hcells.out]; exact ho2) hgr2 hat2)
                    clear hgr2 hat2 ho2 hownh hownf q0 q1 q2 q3 q4 q5 h3w hsw h3x hsx
                    go_wp2
                    go_roundw
                    case rel => exact ⟨k + 1, by omega, by go_num, G⟩
                    case measure => simp [intOf]; omega
                  · have hne : ((k : Int) == (at_ : Int)) = false := by simp; omega
                    obtain ⟨q0, q1, q2, q3, q4, q5⟩ := CW.out wr hga.out.below
                    obtain ⟨fr, hfr, hown⟩ := hga.out.high hka
                    have HFR := hide hfr
                    clear hfr
                    go_wp2_with (first | (at_builtin; go_must (refine app_spot _ rfl (.tmp 120) (.tmp 131) rfl W.heap.size _ _ _ rfl (hown.alloc _) wr.heap.size y0 y1 y2 y3 _ _ _ _ _ _ rfl (heap_alloc_new _ _) (by omega) (by simp; omega) ?_; intro g2 c2 w2 ho2 hgr2 hat2 hl2)))
                    have G := hide (Gather.hi hga.out.below hka fr HFR.out hown y HY.out _ g2 c2 (by rw [hcells.out]; exact ho2) hgr2 hat2)
                    clear hgr2 hat2 ho2 hown q0 q1 q2 q3 q4 q5 h3w hsw
                    go_wp2
                    go_roundw
                    case rel => exact ⟨k + 1, by omega, by go_num, G⟩
                    case measure => simp [intOf]; omega
                · have ek : k = m := by omega
                  subst ek
                  have hsfw : wr.frozen? ⟨sg, r, none⟩ = false := (hga.out.below.frozen (p := ⟨sg, r, none⟩) hsg).trans HSF.out
                  have hne : ((at_ : Int) == (k : Int)) = false := by simp; omega
                  have hga2 := hga.out
                  rw [← HLL.out] at hga2
                  have hwl := hga2.whole (by rw [HLL.out]; exact hwh)
                  rw [← HEN.out] at hwl
                  clear hga2
                  obtain ⟨ρ', fr, hRn, hGn, hfrn, gv, cvv, rfl⟩ := hwl.store hR.out HXR.out HCR.out sg sc (by rw [HEN.out]; exact HES.out) (by rw [HEN.out]; exact hlr)
                  rw [HLL.out] at hRn
                  have X1 := hide hRn
                  have X2 := hide (hG.out.trans (hF.out.size) hGn)
                  have X3 := hide ((hF.out.trans' (Fr.of_below hga.out.below) (fun _ _ h => h)).setCell (p := ⟨sg, r, none⟩) (by simp only; by_cases hz : sg < w.heap.size; exact .inl (by rcases hG.out sg (by rw [hR.out.rs sg (by rw [HES.out]; rfl)]; simp) with q | q; exact q; omega); exact .inr (by omega)) (.slice (some ⟨gv, 0, none⟩) (l.length + 1) cvv))
                  have X4 := hide (hRow.out.next (by have := hR.out.rowl; rw [this, HEN.out]; exact hlr) (.slice (some ⟨gv, 0, none⟩) (k + 1) cvv) _ l HXX.out fr cw c HCC.out (by rw [← HEN.out]; exact hfrn))
                  rw [HLL.out] at X3
                  clear hRn hGn hwl
                  rw [HLL.out]
                  go_wp2
                  go_roundw
                  case rel => exact ⟨r + 1, by omega, by go_num, _, _, X1, X2, X3, X4⟩
                  case measure => simp [intOf]; omega
            · go_wp2
              go_ret
              have er : r = S.n := by omega
              exact ⟨ρr, Sr, ret_int (by rw [← HAT.out]), hR.out, hG.out, hF.out, by rw [← HAT.out]; rw [er] at hRow; exact hRow.out⟩

end Go.Proofs.YtaelaldmibgibaaGreatDoor
